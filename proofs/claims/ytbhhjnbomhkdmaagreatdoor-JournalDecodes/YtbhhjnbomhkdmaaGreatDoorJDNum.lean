import Derived.Test.YtbhhjnbomhkdmaaGreatDoorJPayOf
import Derived.Test.YtbhhjnbomhkdmaaGreatDoorJEqN
import Derived.Test.YtbhhjnbomhkdmaaGreatDoorJReadW
/- Layer 13 (journal): Decode of bytes whose frame is refused. -/
namespace Go.Proofs.YtbhhjnbomhkdmaaGreatDoor
open Go.RowKit
set_option linter.unusedVariables false

theorem ret_box3 {fn : Func} {R : Ending → World → Prop} {a : Act} {w : World} {g : Nat} {cs : Array Value} {T : TypeId} {e1 e2 : Value} (hres : fn.results = #[.cell 2 T, .tmp 3, .tmp 4]) (ht : a.tmps.getD 2 undef = .pointer (some ⟨g, 0, none⟩)) (h3 : a.tmps.getD 3 undef = e1) (h4 : a.tmps.getD 4 undef = e2) (hd : a.defers = [])
  (hl : (loadVar T ⟨g, 0, none⟩).run Tryz.prog w = .ok (.agg cs) w) (hR : R (.returned (.tuple #[.agg cs, e1, e2])) w) : bodyPost Tryz.prog fn R .ret a w := by
 refine bodyPost_ret ?_ hd hR
 have ht' : a.tmps[2]?.getD undef = .pointer (some ⟨g, 0, none⟩) := by simpa using ht
 have h3' : a.tmps[3]?.getD undef = e1 := by simpa using h3
 have h4' : a.tmps[4]?.getD undef = e2 := by simpa using h4
 simp [results, hres, ht', h3', h4', asAddr, hl]

set_option maxRecDepth 100000 in
set_option maxHeartbeats 2000000 in
theorem decode_bad (ao : Option Addr) (cap : Nat) (l : List UInt8) (w : World) (hl : l.length ≤ 140737488455328) (hcap : l.length ≤ cap) (h : BAt w ao l) (hne : ¬ payE l = 0) :
  Calls Tryz.prog 7 #[.slice ao l.length cap] w fun e w' => e = .returned (.tuple #[.agg #[.int .u64 0, .slice none 0 0], .int .i64 0, .int .i64 (payE l)]) ∧ Below w.heap.size w w' := by
 obtain ⟨wx, Hwx⟩ : ∃ x, Hid (x = w.alloc (.cells #[.int .u64 0, .slice none 0 0] 27)) := ⟨_, rfl⟩
 have HB : Hid (Below w.heap.size w wx) := by rw [Hwx.out]; exact below_new w _
 have HX : Hid (Blk wx w.heap.size #[.int .u64 0, .slice none 0 0] 27) := by rw [Hwx.out]; exact Blk.new _ _ _
 have HC := payloadOf_calls ao cap l wx hl hcap (h.below HB.out)
 have HC : Hid (Calls Tryz.prog 22 #[.slice ao l.length cap] wx fun e w' => PayA wx l e w') := HC
 obtain ⟨pe, Hpe⟩ : ∃ x, Hid (x = payE l) := ⟨_, rfl⟩
 rw [← Hpe.out] at hne ⊢
 clear h
 have q0 : (pe != 0) = true := by simpa using hne
 go_enter Tryz.func7, Tryz.ntmps7
 go_upto_region 1 with fail
 rw [← Hwx.out]
 clear Hwx
 go_wp2_with fail
 refine HC.out.mono ?_
 rintro e w2 ⟨a2, n2, c2, rfl, -, hd⟩
 rw [← Hpe.out]
 have hb2 : Below wx.heap.size wx w2 := by obtain ⟨m, rfl⟩ := hd; exact below_draws _ _
 have HB2 : Hid (Below w.heap.size w w2) := HB.out.trans (hb2.mono HB.out.size)
 have HX2 : Hid (Blk w2 w.heap.size #[.int .u64 0, .slice none 0 0] 27) := HX.out.below hb2
 clear hd hb2 HC HX HB
 have y0 := HX2.out.cell 0 rfl
 have y1 := HX2.out.cell 1 rfl
 have f0 := HX2.out.open 0
 have f1 := HX2.out.open 1
 obtain ⟨w5, Hw5⟩ : ∃ x, Hid (x = putC w2 w.heap.size 0 [.int .u64 0, .slice none 0 0]) := ⟨_, rfl⟩
 have HY5 : Hid (Blk w5 w.heap.size #[.int .u64 0, .slice none 0 0] 27) := by rw [Hw5.out]; exact putC_all HX2.out rfl
 have HB5 : Hid (Below w.heap.size w w5) := by rw [Hw5.out]; exact putC_below _ _ _ HB2.out (Nat.le_refl _)
 have HLd : Hid ((loadVar 27 ⟨w.heap.size, 0, none⟩).run Tryz.prog w5 = .ok (.agg #[.int .u64 0, .slice none 0 0]) w5) := load_ent HY5.out rfl
 go_wp2
 change bodyPost _ _ _ _ _ (putC w2 w.heap.size 0 [.int .u64 0, .slice none 0 0])
 rw [← Hw5.out]
 exact ret_box3 (g := w.heap.size) (w := w5) rfl rfl rfl rfl rfl HLd.out ⟨rfl, HB5.out⟩
end Go.Proofs.YtbhhjnbomhkdmaaGreatDoor

/- Layer 13 (journal): Decode of a frame that is taken. -/
namespace Go.Proofs.YtbhhjnbomhkdmaaGreatDoor
open Go.RowKit
set_option linter.unusedVariables false

def DecA (w : World) (l : List UInt8) (e : Ending) (w' : World) : Prop := ∃ ao c l', e = .returned (.tuple #[.agg #[.int .u64 (readI (payP l) : Nat), .slice ao l'.length c], .int .i64 (((payP l).length + 9 : Nat) : Int), .int .i64 0]) ∧ ops l' = (readO (payP l)).1 ∧ OwnO w' w.heap.size (.slice ao l'.length c) l' ∧ Below w.heap.size w w'
set_option maxRecDepth 100000 in
set_option maxHeartbeats 2000000 in
theorem decode_ok (ao : Option Addr) (cap : Nat) (l : List UInt8) (w : World) (hv : Vs w) (hl : l.length ≤ 140737488455328) (hcap : l.length ≤ cap) (h : BAt w ao l) (he : payE l = 0) (hp : (payP l).length ≤ 131072) (hk : readOk (payP l) = true) :
  Calls Tryz.prog 7 #[.slice ao l.length cap] w fun e w' => DecA w l e w' := by
 obtain ⟨wx, Hwx⟩ : ∃ x, Hid (x = w.alloc (.cells #[.int .u64 0, .slice none 0 0] 27)) := ⟨_, rfl⟩
 have HB : Hid (Below w.heap.size w wx) := by rw [Hwx.out]; exact below_new w _
 have HX : Hid (Blk wx w.heap.size #[.int .u64 0, .slice none 0 0] 27) := by rw [Hwx.out]; exact Blk.new _ _ _
 have HC : Hid (Calls Tryz.prog 22 #[.slice ao l.length cap] wx fun e w' => PayA wx l e w') := payloadOf_calls ao cap l wx hl hcap (h.below HB.out)
 have HV : Hid (Vs w) := hv
 have HE : Hid (payE l = 0) := he
 have HK : Hid (readOk (payP l) = true) := hk
 clear h hv he hk
 obtain ⟨n, Hn⟩ : ∃ x, Hid (x = l.length) := ⟨_, rfl⟩
 rw [← Hn.out] at HC hl hcap ⊢
 go_enter Tryz.func7, Tryz.ntmps7
 go_upto_region 1 with fail
 rw [← Hwx.out]
 clear Hwx
 go_wp2_with fail
 refine HC.out.mono ?_
 rintro e w2 ⟨a2, n2, c2, rfl, hpay, hd⟩
 obtain ⟨hn2, hc2, hb2, x2, y2, rfl, hx2⟩ := hpay HE.out
 rw [HE.out]
 have hbd : Below wx.heap.size wx w2 := by obtain ⟨m, rfl⟩ := hd; exact below_draws _ _
 have HB2 : Hid (Below w.heap.size w w2) := HB.out.trans (hbd.mono HB.out.size)
 have HX2 : Hid (Blk w2 w.heap.size #[.int .u64 0, .slice none 0 0] 27) := HX.out.below hbd
 obtain ⟨p, Hp⟩ : ∃ x, Hid (x = payP l) := ⟨_, rfl⟩
 rw [← Hp.out] at hn2 hb2 hp HK
 subst hn2
 have HRC : Hid (Calls Tryz.prog 23 #[.slice (some ⟨x2, y2, none⟩) p.length c2] w2 fun e w' => ReadA w2 p e w') := readPayload_calls x2 y2 c2 p w2 (HV.out.stay HB2.out) hp hc2 hb2 (by have := hbd.size; omega)
 clear hd hbd HC HX HB hb2 hpay
 obtain ⟨pl, Hpl⟩ : ∃ x, Hid (x = p.length) := ⟨_, rfl⟩
 rw [← Hpl.out] at HRC hp hc2 ⊢
 go_wp2_with fail
 refine HRC.out.mono ?_
 rintro e w3 ⟨-, hok, hb3⟩
 obtain ⟨a3, k3, l3, rfl, hops, hown⟩ := hok HK.out
 have HB3 : Hid (Below w.heap.size w w3) := HB2.out.trans (hb3.mono HB2.out.size)
 have HX3 : Hid (Blk w3 w.heap.size #[.int .u64 0, .slice none 0 0] 27) := HX2.out.below hb3
 have HO3 : Hid (OwnO w3 w.heap.size (.slice a3 l3.length k3) l3) := ⟨row_weak HB2.out.size hown.row, fun x hx => row_weak HB2.out.size (hown.tags x hx)⟩
 have HOP : Hid (ops l3 = (readO p).1) := hops
 obtain ⟨i, Hi⟩ : ∃ x, Hid (x = readI p) := ⟨_, rfl⟩
 obtain ⟨n3, Hn3⟩ : ∃ x, Hid (x = l3.length) := ⟨_, rfl⟩
 rw [← Hi.out]
 rw [← Hn3.out] at HO3 ⊢
 clear hok hb3 hown hops HRC HX2
 have hsz3 : w.heap.size < w3.heap.size := HX3.out.lt
 obtain ⟨w4, Hw4⟩ : ∃ x, Hid (x = w3.alloc (.cells #[.int .u64 (i : Nat), .slice a3 n3 k3] 27)) := ⟨_, rfl⟩
 obtain ⟨g7, Hg7⟩ : ∃ x, Hid (x = w3.heap.size) := ⟨_, rfl⟩
 have HX4 : Hid (Blk w4 w.heap.size #[.int .u64 0, .slice none 0 0] 27) := by rw [Hw4.out]; exact HX3.out.alloc _
 have HE4 : Hid (Blk w4 g7 #[.int .u64 (i : Nat), .slice a3 n3 k3] 27) := by rw [Hw4.out, Hg7.out]; exact Blk.new _ _ _
 have HB4 : Hid (Below w.heap.size w w4) := by rw [Hw4.out]; exact HB3.out.alloc HB3.out.size _
 have HO4 : Hid (OwnO w4 w.heap.size (.slice a3 n3 k3) l3) := by rw [Hw4.out]; exact HO3.out.below (below_new _ _)
 go_upto_region 5 with fail
 rw [← Hw4.out, ← Hg7.out]
 clear Hw4 Hg7 HX3 HB3 HO3 hsz3
 have y0 := HX4.out.cell 0 rfl
 have y1 := HX4.out.cell 1 rfl
 have f0 := HX4.out.open 0
 have f1 := HX4.out.open 1
 have e0 := HE4.out.cell 0 rfl
 have e1 := HE4.out.cell 1 rfl
 obtain ⟨we, Hwe⟩ : ∃ x, Hid (x = putC w4 w.heap.size 0 [.int .u64 (i : Nat), .slice a3 n3 k3]) := ⟨_, rfl⟩
 have HY5 : Hid (Blk we w.heap.size #[.int .u64 (i : Nat), .slice a3 n3 k3] 27) := by rw [Hwe.out]; exact putC_all HX4.out rfl
 have HB5 : Hid (Below w.heap.size w we) := by rw [Hwe.out]; exact putC_below _ _ _ HB4.out (Nat.le_refl _)
 have HO5 : Hid (OwnO we w.heap.size (.slice a3 n3 k3) l3) := by
  rw [Hwe.out]
  exact ⟨row_putK HX4.out (by decide) HO4.out.row _ _, fun x hx => row_putK HX4.out (by decide) (HO4.out.tags x hx) _ _⟩
 have HLd : Hid ((loadVar 27 ⟨w.heap.size, 0, none⟩).run Tryz.prog we = .ok (.agg #[.int .u64 (i : Nat), .slice a3 n3 k3]) we) := load_ent HY5.out rfl
 have HFin : Hid (DecA w l (.returned (.tuple #[.agg #[.int .u64 (i : Nat), .slice a3 n3 k3], .int .i64 (5 + (pl : Int) + 4), .int .i64 0])) we) := by
  refine ⟨a3, k3, l3, ?_, by rw [← Hp.out]; exact HOP.out, by rw [← Hn3.out]; exact HO5.out, HB5.out⟩
  rw [← Hp.out, ← Hi.out, ← Hn3.out, ← Hpl.out]
  rw [show (5 + (pl : Int) + 4) = ((pl + 9 : Nat) : Int) by omega]
 go_wp2
 change bodyPost _ _ _ _ _ (putC w4 w.heap.size 0 [.int .u64 (i : Nat), .slice a3 n3 k3])
 rw [← Hwe.out]
 exact ret_box3 (g := w.heap.size) (w := we) rfl rfl rfl rfl rfl HLd.out HFin.out
end Go.Proofs.YtbhhjnbomhkdmaaGreatDoor

/- Layer 13 (journal): what is taken is what would be written (the converse of reading back), plain. -/
namespace Go.Proofs.YtbhhjnbomhkdmaaGreatDoor
open Go.RowKit
set_option linter.unusedVariables false

theorem tkS_cv {k : Nat} {s : Rd} (h : (tkS k s).2 = false) : s.1 = tkB k s ++ (tkS k s).1 ∧ s.2 = false ∧ (tkB k s).length = k := by
 unfold tkS at h
 unfold tkS tkB
 by_cases hk : k ≤ s.1.length
 ·rw [if_pos hk] at h
  rw [if_pos hk, if_pos hk]
  exact ⟨(List.take_append_drop k s.1).symm, h, by simp; omega⟩
 ·rw [if_neg hk] at h
  cases h
theorem byteOf_toNat (c : UInt8) : byteOf (c.toNat : Int) = c := by
 have h1 := byteOf_val (c.toNat : Int)
 have h2 := c.toNat_lt
 exact UInt8.toNat_inj.1 (by omega)
theorem sml_cv {s : Rd} (h : (tkS 1 s).2 = false) : s.1 = byteOf (smlB s : Nat) :: (tkS 1 s).1 ∧ s.2 = false := by
 obtain ⟨h1, h2, h3⟩ := tkS_cv h
 obtain ⟨c, hc⟩ : ∃ c, tkB 1 s = [c] := by
  match tkB 1 s, h3 with
  | [c], _ => exact ⟨c, rfl⟩
 have hs : smlB s = c.toNat := by unfold smlB; rw [hc]; simp [unbig]
 refine ⟨?_, h2⟩
 rw [hs, byteOf_toNat, h1, hc]
 have : (tkS 1 ([c] ++ (tkS 1 s).1, s.2)).1 = (tkS 1 s).1 := by rw [tkS_app [c] _ _ 1 rfl]
 simp
theorem txt_cv {s : Rd} (h : (txS s).2 = false) : s.1 = txtB (txt s) ++ (txS s).1 ∧ s.2 = false := by
 unfold txS at h
 obtain ⟨h1, h2, h3⟩ := tkS_cv h
 obtain ⟨g1, g2⟩ := sml_cv h2
 refine ⟨?_, g2⟩
 have hsz : (txt s).size = smlB s := by
  show (tkB (smlB s) (tkS 1 s)).toArray.size = smlB s
  simpa using h3
 have hd : (txt s).data.toList = tkB (smlB s) (tkS 1 s) := by simp [txt, txB]
 unfold txtB txS
 rw [hsz, hd, List.cons_append, ← h1]
 exact g1
theorem txsP_cv : ∀ (n : Nat) {s : Rd}, (txsP n s).2.2 = false → s.1 = txtsB (txsP n s).1 ++ (txsP n s).2.1 ∧ s.2 = false
 | 0, s, h => ⟨by simp [txsP, txtsB], h⟩
 | n + 1, s, h => by
  simp only [txsP] at h ⊢
  obtain ⟨h1, h2⟩ := txt_cv h
  obtain ⟨g1, g2⟩ := txsP_cv n h2
  refine ⟨?_, g2⟩
  rw [txtsB_snoc, List.append_assoc]
  have e : (⟨(txB (txsP n s).2).toArray⟩ : ByteArray) = txt (txsP n s).2 := rfl
  rw [e, ← h1]
  exact g1
theorem textsP_cv {s : Rd} (h : (textsP s).2.2 = false) : s.1 = byteOf ((textsP s).1.length : Nat) :: (txtsB (textsP s).1 ++ (textsP s).2.1) ∧ s.2 = false := by
 unfold textsP at h ⊢
 obtain ⟨h1, h2⟩ := txsP_cv _ h
 obtain ⟨g1, g2⟩ := sml_cv h2
 refine ⟨?_, g2⟩
 rw [(txsP_len (smlB s) (tkS 1 s)).1, ← h1]
 exact g1
theorem num_cv {k : Nat} {s : Rd} (h : (tkS k s).2 = false) : s.1 = big k (unbig (tkB k s) : Nat) ++ (tkS k s).1 ∧ s.2 = false := by
 obtain ⟨h1, h2, h3⟩ := tkS_cv h
 refine ⟨?_, h2⟩
 rw [big_unbig k _ h3]
 exact h1
theorem casP_cv {s : Rd} (h : (casP s).2.2 = false) : s.1 = (if (casP s).1.1 then 1 :: big 8 ((casP s).1.2 : Nat) else [0]) ++ (casP s).2.1 ∧ s.2 = false := by
 unfold casP at h ⊢
 by_cases h0 : smlB s = 0
 ·simp only [h0, if_true] at h ⊢
  obtain ⟨g1, g2⟩ := sml_cv h
  rw [h0] at g1
  exact ⟨g1, g2⟩
 ·by_cases h1 : smlB s = 1
  ·simp only [h1] at h ⊢
   simp only [Nat.one_ne_zero, if_false, if_true] at h ⊢
   obtain ⟨e1, e2⟩ := num_cv h
   obtain ⟨g1, g2⟩ := sml_cv e2
   rw [h1, e1] at g1
   exact ⟨g1, g2⟩
  ·simp only [h0, h1, if_false] at h
   cases h
theorem opP_cv {s : Rd} (h : (opP s).2.2 = false) (hk : 1 ≤ smlB s ∧ smlB s ≤ 6) : s.1 = opB (opP s).1 ++ (opP s).2.1 ∧ s.2 = false := by
 have key : ∀ (o : Opp) (r : Rd) (body : List UInt8), o.kind = (smlB s : Nat) → o.cas = (casP (tkS 1 s)).1.1 → o.want = ((casP (tkS 1 s)).1.2 : Nat) → bodyB o = body → (casP (tkS 1 s)).2.2 = false → (casP (tkS 1 s)).2.1 = body ++ r.1 → s.1 = opB o ++ r.1 ∧ s.2 = false := by
  intro o r body h1 h2 h3 h4 h5 h6
  obtain ⟨c1, c2⟩ := casP_cv h5
  obtain ⟨g1, g2⟩ := sml_cv c2
  refine ⟨?_, g2⟩
  unfold opB casB
  rw [h1, h2, h3, h4, List.append_assoc, ← h6, List.cons_append, ← c1]
  exact g1
 have hs : smlB s = 1 ∨ smlB s = 2 ∨ smlB s = 3 ∨ smlB s = 4 ∨ smlB s = 5 ∨ smlB s = 6 := by omega
 unfold opP at h ⊢
 rcases hs with e | e | e | e | e | e <;> simp only [e] at h ⊢ <;> simp at h ⊢
 ·obtain ⟨a1, a2⟩ := txt_cv h
  obtain ⟨b1, b2⟩ := txt_cv a2
  refine key _ _ _ (by rw [e]; rfl) rfl rfl rfl b2 ?_
  simp only [bodyB, txtsB]
  simp [← a1, ← b1]
 ·obtain ⟨x1, x2⟩ := textsP_cv h
  obtain ⟨y1, y2⟩ := num_cv x2
  obtain ⟨z1, z2⟩ := txt_cv y2
  obtain ⟨a1, a2⟩ := txt_cv z2
  obtain ⟨b1, b2⟩ := txt_cv a2
  refine key _ _ _ (by rw [e]; rfl) rfl rfl rfl b2 ?_
  simp only [bodyB, svcB, txtsB]
  simp
  have hx : List.flatMap txtB (textsP (tkS 2 (txS (txS (txS (casP (tkS 1 s)).2))))).1 = txtsB (textsP (tkS 2 (txS (txS (txS (casP (tkS 1 s)).2))))).1 := rfl
  rw [hx, ← x1, ← y1, ← z1, ← a1, ← b1]
 ·obtain ⟨x1, x2⟩ := txt_cv h
  obtain ⟨y1, y2⟩ := sml_cv x2
  obtain ⟨z1, z2⟩ := txt_cv y2
  obtain ⟨a1, a2⟩ := txt_cv z2
  obtain ⟨b1, b2⟩ := txt_cv a2
  refine key _ _ _ (by rw [e]; rfl) rfl rfl rfl b2 ?_
  simp only [bodyB, chkB, txtsB]
  simp [← x1, ← y1, ← z1, ← a1, ← b1]
 ·obtain ⟨b1, b2⟩ := txt_cv h
  refine key _ _ _ (by rw [e]; rfl) rfl rfl rfl b2 ?_
  simp only [bodyB, txtsB]
  simp [← b1]
 ·obtain ⟨a1, a2⟩ := txt_cv h
  obtain ⟨b1, b2⟩ := txt_cv a2
  refine key _ _ _ (by rw [e]; rfl) rfl rfl rfl b2 ?_
  simp only [bodyB, txtsB]
  simp [← a1, ← b1]
 ·obtain ⟨a1, a2⟩ := txt_cv h
  obtain ⟨b1, b2⟩ := txt_cv a2
  refine key _ _ _ (by rw [e]; rfl) rfl rfl rfl b2 ?_
  simp only [bodyB, txtsB]
  simp [← a1, ← b1]
theorem opP_kind (s : Rd) : (opP s).1.kind = (smlB s : Nat) := by
 unfold opP
 simp only
 split <;> (try rfl)
 split <;> (try rfl)
 split <;> (try rfl)
 split <;> (try rfl)
 split <;> (try rfl)
 split <;> rfl
theorem opsP_cv : ∀ (n : Nat) {s : Rd}, (opsP n s).2.2 = false → (∀ o ∈ (opsP n s).1, 1 ≤ o.kind ∧ o.kind ≤ 6) → s.1 = opsB (opsP n s).1 ++ (opsP n s).2.1 ∧ s.2 = false ∧ (opsP n s).1.length = n
 | 0, s, h, _ => ⟨by simp [opsP, opsB], h, rfl⟩
 | n + 1, s, h, hk => by
  simp only [opsP] at h hk ⊢
  have hk1 := hk (opP (opsP n s).2).1 (by simp)
  rw [opP_kind] at hk1
  obtain ⟨h1, h2⟩ := opP_cv h (by omega)
  obtain ⟨g1, g2, g3⟩ := opsP_cv n h2 (fun o ho => hk o (List.mem_append_left _ ho))
  refine ⟨?_, g2, by simp [g3]⟩
  have e : opsB ((opsP n s).1 ++ [(opP (opsP n s).2).1]) = opsB (opsP n s).1 ++ opB (opP (opsP n s).2).1 := by simp [opsB]
  rw [e, List.append_assoc, ← h1]
  exact g1
/-- What is taken is the payload of what is read. -/
theorem read_conv {p : List UInt8} (h : readOk p = true) : payB (readI p : Nat) (readO p).1 = p ∧ soundB (readO p).1 = true := by
 simp only [readOk, Bool.and_eq_true, Bool.not_eq_true', decide_eq_true_eq] at h
 obtain ⟨⟨h1, h2⟩, h3⟩ := h
 obtain ⟨g1, g2, g3⟩ := soundB_all h3
 have hk : ∀ o ∈ (readO p).1, 1 ≤ o.kind ∧ o.kind ≤ 6 := fun o ho => by
  have hs := g3 o ho
  cases hs <;> simp
 obtain ⟨a1, a2, a3⟩ := opsP_cv (readN p) h1 hk
 obtain ⟨b1, b2⟩ := sml_cv a2
 obtain ⟨c1, c2⟩ := num_cv b2
 refine ⟨?_, h3⟩
 have hr : (readO p).2.1 = [] := List.eq_nil_of_length_eq_zero h2
 have e1 : (tkS 1 (tkS 8 (p, false))).1 = opsB (readO p).1 := by
  have := a1
  rw [show (opsP (readN p) (tkS 1 (tkS 8 (p, false)))).2.1 = [] from hr, List.append_nil] at this
  exact this
 have e2 : (readO p).1.length = smlB (tkS 8 (p, false)) := a3
 unfold payB readI
 rw [e2, ← e1, List.append_assoc, List.singleton_append, ← b1]
 exact c1.symm
end Go.Proofs.YtbhhjnbomhkdmaaGreatDoor

/- Layer 13 (journal): Decode of a frame whose payload is none. -/
namespace Go.Proofs.YtbhhjnbomhkdmaaGreatDoor
open Go.RowKit
set_option linter.unusedVariables false

set_option maxRecDepth 100000 in
set_option maxHeartbeats 2000000 in
theorem decode_none (ao : Option Addr) (cap : Nat) (l : List UInt8) (w : World) (hv : Vs w) (hl : l.length ≤ 140737488455328) (hcap : l.length ≤ cap) (h : BAt w ao l) (he : payE l = 0) (hp : (payP l).length ≤ 131072) (hk : readOk (payP l) = false) :
  Calls Tryz.prog 7 #[.slice ao l.length cap] w fun e w' => e = .returned (.tuple #[.agg #[.int .u64 0, .slice none 0 0], .int .i64 0, .int .i64 133]) ∧ Below w.heap.size w w' := by
 obtain ⟨wx, Hwx⟩ : ∃ x, Hid (x = w.alloc (.cells #[.int .u64 0, .slice none 0 0] 27)) := ⟨_, rfl⟩
 have HB : Hid (Below w.heap.size w wx) := by rw [Hwx.out]; exact below_new w _
 have HX : Hid (Blk wx w.heap.size #[.int .u64 0, .slice none 0 0] 27) := by rw [Hwx.out]; exact Blk.new _ _ _
 have HC : Hid (Calls Tryz.prog 22 #[.slice ao l.length cap] wx fun e w' => PayA wx l e w') := payloadOf_calls ao cap l wx hl hcap (h.below HB.out)
 have HV : Hid (Vs w) := hv
 have HE : Hid (payE l = 0) := he
 have HK : Hid (readOk (payP l) = false) := hk
 clear h hv he hk
 obtain ⟨n, Hn⟩ : ∃ x, Hid (x = l.length) := ⟨_, rfl⟩
 rw [← Hn.out] at HC hl hcap ⊢
 go_enter Tryz.func7, Tryz.ntmps7
 go_upto_region 1 with fail
 rw [← Hwx.out]
 clear Hwx
 go_wp2_with fail
 refine HC.out.mono ?_
 rintro e w2 ⟨a2, n2, c2, rfl, hpay, hd⟩
 obtain ⟨hn2, hc2, hb2, x2, y2, rfl, hx2⟩ := hpay HE.out
 rw [HE.out]
 have hbd : Below wx.heap.size wx w2 := by obtain ⟨m, rfl⟩ := hd; exact below_draws _ _
 have HB2 : Hid (Below w.heap.size w w2) := HB.out.trans (hbd.mono HB.out.size)
 have HX2 : Hid (Blk w2 w.heap.size #[.int .u64 0, .slice none 0 0] 27) := HX.out.below hbd
 obtain ⟨p, Hp⟩ : ∃ x, Hid (x = payP l) := ⟨_, rfl⟩
 rw [← Hp.out] at hn2 hb2 hp HK
 subst hn2
 have HRC : Hid (Calls Tryz.prog 23 #[.slice (some ⟨x2, y2, none⟩) p.length c2] w2 fun e w' => ReadA w2 p e w') := readPayload_calls x2 y2 c2 p w2 (HV.out.stay HB2.out) hp hc2 hb2 (by have := hbd.size; omega)
 clear hd hbd HC HX HB hb2 hpay
 obtain ⟨pl, Hpl⟩ : ∃ x, Hid (x = p.length) := ⟨_, rfl⟩
 rw [← Hpl.out] at HRC hp hc2 ⊢
 go_wp2_with fail
 refine HRC.out.mono ?_
 rintro e w3 ⟨hno, -, hb3⟩
 obtain rfl := hno HK.out
 have HB3 : Hid (Below w.heap.size w w3) := HB2.out.trans (hb3.mono HB2.out.size)
 have HX3 : Hid (Blk w3 w.heap.size #[.int .u64 0, .slice none 0 0] 27) := HX2.out.below hb3
 clear hno hb3 HRC HX2 HB2
 obtain ⟨w4, Hw4⟩ : ∃ x, Hid (x = w3.alloc (.cells #[.int .u64 0, .slice none 0 0] 27)) := ⟨_, rfl⟩
 have HX4 : Hid (Blk w4 w.heap.size #[.int .u64 0, .slice none 0 0] 27) := by rw [Hw4.out]; exact HX3.out.alloc _
 have HB4 : Hid (Below w.heap.size w w4) := by rw [Hw4.out]; exact HB3.out.alloc HB3.out.size _
 go_upto_region 5 with fail
 rw [← Hw4.out]
 clear Hw4 HX3 HB3
 have y0 := HX4.out.cell 0 rfl
 have y1 := HX4.out.cell 1 rfl
 have f0 := HX4.out.open 0
 have f1 := HX4.out.open 1
 obtain ⟨w5, Hw5⟩ : ∃ x, Hid (x = putC w4 w.heap.size 0 [.int .u64 0, .slice none 0 0]) := ⟨_, rfl⟩
 have HY5 : Hid (Blk w5 w.heap.size #[.int .u64 0, .slice none 0 0] 27) := by rw [Hw5.out]; exact putC_all HX4.out rfl
 have HB5 : Hid (Below w.heap.size w w5) := by rw [Hw5.out]; exact putC_below _ _ _ HB4.out (Nat.le_refl _)
 have HLd : Hid ((loadVar 27 ⟨w.heap.size, 0, none⟩).run Tryz.prog w5 = .ok (.agg #[.int .u64 0, .slice none 0 0]) w5) := load_ent HY5.out rfl
 go_wp2
 change bodyPost _ _ _ _ _ (putC w4 w.heap.size 0 [.int .u64 0, .slice none 0 0])
 rw [← Hw5.out]
 exact ret_box3 (g := w.heap.size) (w := w5) rfl rfl rfl rfl rfl HLd.out ⟨rfl, HB5.out⟩
end Go.Proofs.YtbhhjnbomhkdmaaGreatDoor

/- Layer 13 (journal): the document's number, cut. -/
namespace Go.Proofs.YtbhhjnbomhkdmaaGreatDoor
open Go.RowKit
set_option linter.unusedVariables false

theorem rnumber_calls (ao : Option Addr) (cap : Nat) (l : List UInt8) (w : World) (hl : l.length ≤ 4) (h : BAt w ao l) :
  Calls Tryz.prog 18 #[.slice ao l.length cap] w fun e w' => e = .returned (.int .i64 (unbig l : Nat)) ∧ w' = w := by
 go_enter Tryz.func18, Tryz.ntmps18
 go_wp2
 go_loopw [3, 5, 8] (fun s _ i wr => ∃ k : Nat, k ≤ l.length ∧ i = .int .i64 k ∧ s = .int .i64 (unbig (l.take k) : Nat) ∧ wr = w) (fun _ _ i _ => l.length - (intOf i).toNat)
 case atStart => exact ⟨0, Nat.zero_le _, rfl, by simp [unbig], rfl⟩
 case round =>
  obtain ⟨k, hk, rfl, rfl, rfl⟩ := hrel
  obtain ⟨t, Ht⟩ : ∃ t, Hid (t = unbig (l.take k)) := ⟨_, rfl⟩
  rw [← Ht.out]
  by_cases hlt : k < l.length
  ·have ht : t < 16777216 := by
    have h1 := unbig_lt (l.take k).length (l.take k) rfl
    rw [← Ht.out] at h1
    have h2 : (l.take k).length ≤ 3 := by rw [List.length_take]; omega
    exact Nat.lt_of_lt_of_le h1 (Nat.le_trans (Nat.pow_le_pow_right (by decide) h2) (by decide))
   obtain ⟨b, off, rfl, hc⟩ := h.at k hlt
   obtain ⟨c, Hc⟩ : ∃ c, Hid (c = l[k]'hlt) := ⟨_, rfl⟩
   rw [← Hc.out] at hc
   have hcl := byte_le c
   have HN : Hid (unbig (l.take (k + 1)) = t * 256 + c.toNat) := by
    show _ = _
    rw [list_take_snoc l k hlt, unbig_snoc, ← Ht.out, ← Hc.out]
   clear Ht Hc
   go_wp2
   go_roundw
   case rel => exact ⟨k + 1, by omega, by go_num, by rw [HN.out]; simp, by trivial⟩
   case measure => simp [intOf]; omega
  ·have HE : Hid (t = unbig l) := by show _ = _; rw [Ht.out, List.take_of_length_le (by omega)]
   go_wp2
   go_ret
   exact ⟨by rw [HE.out]; rfl, rfl⟩

/-- An oddity stays. -/
theorem txS_odd {s : Rd} (h : s.2 = true) : (txS s).2 = true := by
 cases hq : (txS s).2 with
 | true => rfl
 | false => have := (txt_cv hq).2; rw [h] at this; cases this
theorem txsP_odd {s : Rd} {k : Nat} (h : (txsP k s).2.2 = true) : ∀ d, (txsP (k + d) s).2.2 = true
 | 0 => h
 | d + 1 => txS_odd (txsP_odd h d)
theorem tx_end {l : List UInt8} {p : Nat} (h : l.length ≤ p) : (txS (l.drop p, false)).2 = true := by
 rw [List.drop_of_length_le h]
 rfl
theorem tx_at {l : List UInt8} {p : Nat} (h : p < l.length) : smlB (l.drop p, false) = l[p].toNat ∧ tkS 1 (l.drop p, false) = (l.drop (p + 1), false) := by
 have e : l.drop p = l[p] :: l.drop (p + 1) := (List.drop_eq_getElem_cons h)
 rw [e]
 exact sml_app _ _ _
theorem tx_long {l : List UInt8} {p : Nat} (h : p < l.length) (hc : l.length < p + 1 + l[p].toNat) : (txS (l.drop p, false)).2 = true := by
 obtain ⟨h1, h2⟩ := tx_at h
 unfold txS
 rw [h1, h2]
 unfold tkS
 rw [if_neg (by simp; omega)]
theorem tx_fits {l : List UInt8} {p : Nat} (h : p < l.length) (hc : p + 1 + l[p].toNat ≤ l.length) : txS (l.drop p, false) = (l.drop (p + 1 + l[p].toNat), false) ∧ txB (l.drop p, false) = (l.drop (p + 1)).take l[p].toNat := by
 obtain ⟨h1, h2⟩ := tx_at h
 unfold txS txB
 rw [h1, h2]
 unfold tkS tkB
 rw [if_pos (by simp; omega), if_pos (by simp; omega)]
 exact ⟨by simp [List.drop_drop], rfl⟩
/-- What cut answers: n texts from a place on, and the place behind them; -1: the bytes end ahead. -/
def CutA (w : World) (l : List UInt8) (p n : Nat) (e : Ending) (w' : World) : Prop := Below w.heap.size w w' ∧
  (((txsP n (l.drop p, false)).2.2 = false ∧ ∃ v q, e = .returned (.tuple #[v, .int .i64 (q : Nat)]) ∧ q ≤ l.length ∧ (txsP n (l.drop p, false)).2.1 = l.drop q ∧ w'.ownsRow w.heap.size 9 1 v (txsP n (l.drop p, false)).1.length ((txsP n (l.drop p, false)).1.map Value.string)) ∨
   ((txsP n (l.drop p, false)).2.2 = true ∧ e = .returned (.tuple #[.slice none 0 0, .int .i64 (-1)])))

set_option maxRecDepth 100000 in
set_option maxHeartbeats 2000000 in
theorem cut_calls (xb xo cap : Nat) (l : List UInt8) (p n : Nat) (w : World) (hl : l.length ≤ 131072) (hcap : l.length < cap) (hcm : cap ≤ maxLen) (hp : p ≤ l.length) (hn : n ≤ 255) (h : BAt w (some ⟨xb, xo, none⟩) l) :
  Calls Tryz.prog 53 #[.slice (some ⟨xb, xo, none⟩) l.length cap, .int .i64 (p : Nat), .int .i64 (n : Nat)] w (CutA w l p n) := by
 obtain ⟨N, HN⟩ : ∃ N, Hid (N = l.length) := ⟨_, rfl⟩
 have HBT : Hid (BAt w (some ⟨xb, xo, none⟩) l) := h
 obtain ⟨s, Hs⟩ : ∃ s : Rd, Hid (s = (l.drop p, false)) := ⟨_, rfl⟩
 rw [← HN.out] at hl hcap hp ⊢
 clear h
 obtain ⟨w1, HW1⟩ : ∃ w1, Hid (w1 = w.alloc (.cells #[] 9)) := ⟨_, rfl⟩
 have HB1 : Hid (Below w.heap.size w w1) := by rw [HW1.out]; exact below_new w _
 have HO1 : Hid (w1.ownsRow w.heap.size 9 1 (.slice (some ⟨w.heap.size, 0, none⟩) 0 0) 0 []) := by
  rw [HW1.out]
  exact ⟨rfl, .inr ⟨w.heap.size, 0, #[], rfl, Nat.le_refl _, Blk.new _ _ _, Nat.le_refl _, by decide, rfl, rfl⟩⟩
 go_enter Tryz.func53, Tryz.ntmps53
 go_upto_region 3 with fail
 rw [← HW1.out]
 go_loopw [1, 8, 9, 10] (fun a out i _ wr => ∃ k : Nat, k ≤ n ∧ i = .int .i64 k ∧ ∃ q : Nat, a = .int .i64 (q : Nat) ∧ q ≤ N ∧ Hid ((txsP k s).2 = (l.drop q, false)) ∧ Hid (wr.ownsRow w.heap.size 9 1 out k ((txsP k s).1.map Value.string)) ∧ Hid (Below w.heap.size w wr)) (fun _ _ i _ _ => n - (intOf i).toNat)
 case atStart => exact ⟨0, Nat.zero_le _, rfl, p, rfl, hp, Hs.out, HO1, HB1⟩
 case round =>
  clear HO1 HB1
  obtain ⟨k, hk, rfl, q, rfl, hq, HT, HO, HB⟩ := hrel
  have HODD : Hid ((txS (txsP k s).2).2 = true → k < n → CutA w l p n (.returned (.tuple #[.slice none 0 0, .int .i64 (-1)])) wr) := fun ho hlt => by
   refine ⟨HB.out, .inr ⟨?_, rfl⟩⟩
   have h1 : (txsP (k + 1) s).2.2 = true := ho
   have h2 := txsP_odd h1 (n - (k + 1))
   rw [show k + 1 + (n - (k + 1)) = n from by omega, Hs.out] at h2
   exact h2
  by_cases hlt : k < n
  ·by_cases hqN : N ≤ q
   ·have HF : Hid (CutA w l p n (.returned (.tuple #[.slice none 0 0, .int .i64 (-1)])) wr) := HODD.out (by rw [HT.out]; exact tx_end (by rw [← HN.out]; exact hqN)) hlt
    have hqq : q = N := by omega
    subst hqq
    clear HT HODD
    go_wp2
    go_ret2
    exact HF.out
   ·have hql : q < l.length := by rw [← HN.out]; omega
    obtain ⟨b0, o0, e0, hc0⟩ := (HBT.out.below HB.out).at q hql
    obtain ⟨rfl, rfl⟩ : xb = b0 ∧ xo = o0 := by simpa using e0
    clear e0
    obtain ⟨c, Hc⟩ : ∃ c, Hid (c = l[q]'hql) := ⟨_, rfl⟩
    rw [← Hc.out] at hc0
    have hcl := byte_le c
    have hcn : c.toNat ≤ 255 := by omega
    by_cases hend : N < q + 1 + c.toNat
    ·have HF : Hid (CutA w l p n (.returned (.tuple #[.slice none 0 0, .int .i64 (-1)])) wr) := HODD.out (by rw [HT.out]; exact tx_long hql (by rw [← HN.out, ← Hc.out]; exact hend)) hlt
     have hgt : (N : Int) < (q : Int) + 1 + (c.toNat : Int) := by omega
     clear HT HODD Hc hql
     go_wp2
     go_ret2
     exact HF.out
    ·have hle : (q : Int) + 1 + (c.toNat : Int) ≤ (N : Int) := by omega
     have hfit := tx_fits hql (by rw [← HN.out, ← Hc.out]; omega)
     rw [← Hc.out] at hfit
     have HFT : Hid (txS (l.drop q, false) = (l.drop (q + 1 + c.toNat), false) ∧ txB (l.drop q, false) = (l.drop (q + 1)).take c.toNat) := hfit
     clear hfit Hc
     obtain ⟨B, HBB⟩ : ∃ B, Hid (B = (l.drop (q + 1)).take c.toNat) := ⟨_, rfl⟩
     have hBl : B.length = c.toNat := by rw [HBB.out, List.length_take, List.length_drop, ← HN.out]; omega
     have HBw : Hid (BAt wr (some ⟨xb, xo, none⟩) l) := HBT.out.below HB.out
     by_cases hcq : cap = q + 1
     ·omega
     ·have hcv : (convert 22 9 (.slice (some ⟨xb, xo + (q + 1), none⟩) c.toNat (cap - (q + 1)))).run Tryz.prog wr = .ok (.string ⟨B.toArray⟩) wr := by
       have hb : BAt wr (some ⟨xb, xo + (q + 1), none⟩) B := by
        intro hne
        refine ⟨xb, xo + (q + 1), rfl, fun j u hj => ?_⟩
        have hjl : j < B.length := by
         have := (List.getElem?_eq_some_iff.1 hj).1
         rw [bs_length] at this
         exact this
        obtain ⟨b1, o1, e1, hc1⟩ := HBw.out.at (q + 1 + j) (by rw [← HN.out]; omega)
        obtain ⟨rfl, rfl⟩ : xb = b1 ∧ xo = o1 := by simpa using e1
        have hBj : B[j] = l[q + 1 + j]'(by rw [← HN.out]; omega) := by
         have h1 : B[j]? = l[q + 1 + j]? := by rw [HBB.out, List.getElem?_take_of_lt (by omega), List.getElem?_drop]
         rw [List.getElem?_eq_getElem hjl, List.getElem?_eq_getElem (by rw [← HN.out]; omega)] at h1
         exact Option.some.inj h1
        have hu : u = .int .u8 (B[j].toNat : Int) := by
         simp [bs, hjl] at hj
         exact hj.symm
        rw [hu, hBj, ← hc1, Nat.add_assoc xo (q + 1) j]
       have := conv_text (w := wr) (tc := cap - (q + 1)) hb (.inr ⟨_, _, rfl⟩)
       rw [hBl] at this
       exact this
      obtain ⟨tx, Htx⟩ : ∃ x : ByteArray, Hid (x = ⟨(B.toArray)⟩) := ⟨_, rfl⟩
      rw [← Htx.out] at hcv
      have HMP : Hid ((txsP (k + 1) s).1.map Value.string = (txsP k s).1.map Value.string ++ [.string tx]) := by
       show _ = _
       rw [Htx.out]
       simp only [txsP]
       rw [HT.out, HFT.out.2, ← HBB.out]
       simp
      have HT2 : Hid ((txsP (k + 1) s).2 = (l.drop (q + 1 + c.toNat), false)) := by
       show (txsP (k + 1) s).2 = (l.drop (q + 1 + c.toNat), false)
       simp only [txsP]
       rw [HT.out, HFT.out.1]
      obtain ⟨uo, uc, hu8⟩ : ∃ uo uc, u8 = .slice uo k uc := by
       rcases HO.out.2 with ⟨e, h0⟩ | ⟨g, c0, cur, e, _⟩
       ·exact ⟨none, 0, by rw [e, h0]⟩
       ·exact ⟨_, _, e⟩
      subst hu8
      have hsz : w.heap.size ≤ wr.heap.size := HB.out.size
      have HO2a : Hid ((wr.alloc (.cells #[.string tx] 9)).ownsRow w.heap.size 9 1 (.slice uo k uc) k ((txsP k s).1.map Value.string)) := row_below HO.out (below_new wr _)
      have HCA : Hid (CellsAt (wr.alloc (.cells #[.string tx] 9)) (some ⟨wr.heap.size, 0, none⟩) [.string tx]) := by
       intro _
       refine ⟨wr.heap.size, 0, rfl, fun j u hj => ?_⟩
       rw [Nat.zero_add, World.cell?_alloc_mark]
       simpa using hj
      go_wp2_with (at_builtin; refine append_src _ rfl (.tmp 37) (.tmp 44) 46 9 _ 1 16 Tryz.underlying46 info_str rfl (by decide) rfl w.heap.size (.slice uo k uc) k _ rfl HO2a.out (some ⟨wr.heap.size, 0, none⟩) 1 1 [.string tx] rfl rfl HCA.out (by intro u hu; simp at hu; subst hu; rfl) (by unfold maxLen; omega) (by omega) (by simp; omega) ?_)
      intro v3 w3 ho3 hg3
      have hg3' := hg3.ofAlloc
      have HO3 : Hid (w3.ownsRow w.heap.size 9 1 v3 (k + 1) ((txsP (k + 1) s).1.map Value.string)) := by rw [HMP.out]; exact ho3
      have HB3 : Hid (Below w.heap.size w w3) := HB.out.trans (hg3'.toBelow hsz (fun r hr => (World.ownsRow.lt HO.out r hr).1))
      clear ho3 hg3 hg3' HO2a HCA HMP HT HODD HFT hcv
      go_wp2
      go_roundw
      case rel => exact ⟨k + 1, by omega, by go_num, q + 1 + c.toNat, by simp, by omega, HT2, HO3, HB3⟩
      case measure => simp [intOf]; omega
  ·have hkn : k = n := by omega
   subst hkn
   have HF : Hid (∀ u, wr.ownsRow w.heap.size 9 1 u k ((txsP k s).1.map Value.string) → CutA w l p k (.returned (.tuple #[u, .int .i64 (q : Nat)])) wr) := fun u hu => by
    refine ⟨HB.out, .inl ⟨by rw [← Hs.out, HT.out], u, q, rfl, by rw [← HN.out]; exact hq, by rw [← Hs.out, HT.out], ?_⟩⟩
    rw [← Hs.out, (txsP_len k s).1]
    exact hu
   clear HODD
   go_wp2
   go_ret2
   exact HF.out _ HO.out
end Go.Proofs.YtbhhjnbomhkdmaaGreatDoor
