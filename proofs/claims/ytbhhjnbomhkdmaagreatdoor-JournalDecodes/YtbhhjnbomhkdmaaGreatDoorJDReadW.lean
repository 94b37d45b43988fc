/- Layer 13 (journal): the document's Read, the walk (by gen_jdread.py). -/
import Derived.Test.YtbhhjnbomhkdmaaGreatDoorJDRead
namespace Go.Proofs.YtbhhjnbomhkdmaaGreatDoor
open Go.RowKit
set_option linter.unusedVariables false

theorem dr_new (w : World) : DR w w.heap.size (w.heap.size + 1) 0 (.slice none 0 0) [] ((w.alloc (.cells #[.int .u64 0, .slice none 0 0] 27)).alloc (.cells #[.int .u64 0, .slice none 0 0] 27)) := by
 have h1 : Below w.heap.size w (w.alloc (.cells #[.int .u64 0, .slice none 0 0] 27)) := below_new w _
 have hs : (w.alloc (.cells #[.int .u64 0, .slice none 0 0] 27)).heap.size = w.heap.size + 1 := by simp [World.size_alloc]
 refine ⟨h1.trans ((below_new _ _).mono h1.size), ?_, (Blk.new w _ _).alloc _, ⟨World.ownsRow_nil _ _ _ _, fun x hx => by cases hx⟩⟩
 have := Blk.new (w.alloc (.cells #[.int .u64 0, .slice none 0 0] 27)) #[.int .u64 0, .slice none 0 0] 27
 rw [hs] at this
 exact this
/-- So many operations have been read. -/
structure LP (l : List UInt8) (k q : Nat) (m : List OV) : Prop where
 len : m.length = k
 eq : rsP k (l.drop 9) = some (ops m, l.drop q)
theorem LP.step {l : List UInt8} {k q q' : Nat} {m : List OV} {z : OV} {o : Opp} (h : LP l k q m) (hz : z.o = o) (hr : raP (l.drop q) = some (o, l.drop q')) : LP l (k + 1) q' (m ++ [z]) :=
 ⟨by simp [h.len], by rw [show ops (m ++ [z]) = ops m ++ [o] by simp [ops, hz]]; exact rsP_one h.eq hr⟩
theorem LP.none {l : List UInt8} {k q n : Nat} {m : List OV} (h : LP l k q m) (hr : raP (l.drop q) = none) (hn : (l.getD 8 0).toNat = n) (hk : k < n) : readOk l = false := by
 apply rd_none
 rw [hn]
 have := rsP_stays (rsP_no h.eq hr) (n - (k + 1))
 rwa [show k + 1 + (n - (k + 1)) = n by omega] at this
theorem LP.mem {l : List UInt8} {k q : Nat} {m : List OV} (h : LP l k q m) : ∀ x ∈ m, x.o.rng ∧ x.ok ∧ x.o.node.addr.size ≤ 1048576 := fun x hx => by
 obtain ⟨g1, g2, g3, g4⟩ := (rsP_len k h.eq).2 x.o (List.mem_map.2 ⟨x, hx, rfl⟩)
 exact ⟨g1, ⟨g2, by omega⟩, by omega⟩

set_option maxRecDepth 100000 in
set_option maxHeartbeats 4000000 in
theorem rread_calls (xb xo cap : Nat) (l : List UInt8) (w : World) (hl : l.length ≤ 131072) (hcap : l.length < cap) (hcm : cap ≤ maxLen) (h : BAt w (some ⟨xb, xo, none⟩) l) :
  Calls Tryz.prog 21 #[.slice (some ⟨xb, xo, none⟩) l.length cap] w (RReadA w l) := by
 obtain ⟨N, HN⟩ : ∃ N, Hid (N = l.length) := ⟨_, rfl⟩
 have HT : Hid (BAt w (some ⟨xb, xo, none⟩) l) := h
 clear h
 rw [← HN.out] at hl hcap ⊢
 obtain ⟨w2, Hw2⟩ : ∃ x, Hid (x = (w.alloc (.cells #[.int .u64 0, .slice none 0 0] 27)).alloc (.cells #[.int .u64 0, .slice none 0 0] 27)) := ⟨_, rfl⟩
 have HI2 : Hid (DR w w.heap.size (w.heap.size + 1) 0 (.slice none 0 0) [] w2) := by rw [Hw2.out]; exact dr_new w
 go_enter Tryz.func21, Tryz.ntmps21
 go_upto_region 2 with fail
 rw [← Hw2.out]
 obtain ⟨ge, Hge⟩ : ∃ x, Hid (x = w.heap.size + 1) := ⟨_, rfl⟩
 obtain ⟨g2, Hg2⟩ : ∃ x, Hid (x = w.heap.size) := ⟨_, rfl⟩
 have hge : w.heap.size ≤ ge := by rw [Hge.out]; omega
 have h2 : g2 ≠ ge := by rw [Hge.out, Hg2.out]; omega
 have h2w : w.heap.size ≤ g2 := by rw [Hg2.out]; exact Nat.le_refl _
 rw [← Hge.out] at HI2 ⊢
 rw [← Hg2.out] at HI2 ⊢
 clear Hw2 Hge Hg2
 by_cases h9 : N < 9
 ·have HNo : Hid (readOk l = false) := rd_short (by rw [← HN.out]; exact h9)
  have x0 : w2.cell? ⟨ge, 0, none⟩ = some (.int .u64 0) := HI2.out.e.cell 0 rfl
  have x1 : w2.cell? ⟨ge, 1, none⟩ = some (.slice none 0 0) := HI2.out.e.cell 1 rfl
  have y0 : w2.cell? ⟨g2, 0, none⟩ = some (.int .u64 0) := HI2.out.z.cell 0 rfl
  have y1 : w2.cell? ⟨g2, 1, none⟩ = some (.slice none 0 0) := HI2.out.z.cell 1 rfl
  have f0 := HI2.out.z.open 0
  have f1 := HI2.out.z.open 1
  obtain ⟨wz, Hwz⟩ : ∃ x, Hid (x = putC w2 g2 0 [.int .u64 0, .slice none 0 0]) := ⟨_, rfl⟩
  have HY5 : Hid (Blk wz g2 #[.int .u64 0, .slice none 0 0] 27) := by rw [Hwz.out]; exact putC_all HI2.out.z rfl
  have HB5 : Hid (Below w.heap.size w wz) := by rw [Hwz.out]; exact putC_below _ _ _ HI2.out.bl h2w
  have HLd : Hid ((loadVar 27 ⟨g2, 0, none⟩).run Tryz.prog wz = .ok (.agg #[.int .u64 0, .slice none 0 0]) wz) := load_ent HY5.out rfl
  have HFin : Hid (RReadA w l (.returned (.tuple #[.agg #[.int .u64 0, .slice none 0 0], .bool false])) wz) := ⟨HB5.out, .inr ⟨HNo.out, rfl⟩⟩
  clear HI2 HY5 HB5 HNo
  go_wp2
  change bodyPost _ _ _ _ _ (putC w2 g2 0 [.int .u64 0, .slice none 0 0])
  rw [← Hwz.out]
  exact ret_box (g := g2) (w := wz) rfl rfl rfl rfl HLd.out HFin.out
 have h9' : 9 ≤ N := by omega
 clear h9
 obtain ⟨pw, Hpw⟩ : ∃ x, Hid (x = l.take 8) := ⟨_, rfl⟩
 have hpl : pw.length = 8 := by rw [Hpw.out, List.length_take, ← HN.out]; omega
 go_wp2
 go_loopw [6, 19] (fun _ i wr => ∃ k : Nat, k ≤ 8 ∧ i = .int .i64 k ∧ Hid (DR w g2 ge (unbig (pw.take k) : Nat) (.slice none 0 0) [] wr)) (fun _ i _ => 8 - (intOf i).toNat)
 case atStart => exact ⟨0, Nat.zero_le _, rfl, HI2⟩
 case round =>
  obtain ⟨k, hk, rfl, HI⟩ := hrel
  clear HI2
  obtain ⟨t, Ht⟩ : ∃ t, Hid (t = unbig (pw.take k)) := ⟨_, rfl⟩
  rw [← Ht.out] at HI
  by_cases hlt : k < 8
  ·have ht : t < 72057594037927936 := by
    have h1 := unbig_lt (pw.take k).length (pw.take k) rfl
    rw [← Ht.out] at h1
    have h2 : (pw.take k).length ≤ 7 := by rw [List.length_take]; omega
    exact Nat.lt_of_lt_of_le h1 (Nat.le_trans (Nat.pow_le_pow_right (by decide) h2) (by decide))
   obtain ⟨b2, o2, e2, hc2⟩ := (HT.out.below (HI.out.bl)).at k (by rw [← HN.out]; omega)
   obtain ⟨rfl, rfl⟩ : xb = b2 ∧ xo = o2 := by simpa using e2
   have hq2 : k < l.length := by rw [← HN.out]; omega
   obtain ⟨c, Hc⟩ : ∃ c : UInt8, Hid (c = l[k]'hq2) := ⟨_, rfl⟩
   rw [← Hc.out] at hc2
   have hcl := byte_le c
   have HNx : Hid (unbig (pw.take (k + 1)) = t * 256 + c.toNat) := by
    have hpk : pw[k]'(by omega) = c := by
     have h1 : pw[k]? = l[k]? := by rw [Hpw.out, List.getElem?_take_of_lt hlt]
     rw [List.getElem?_eq_getElem (by omega), List.getElem?_eq_getElem (by rw [← HN.out]; omega)] at h1
     rw [Hc.out]
     exact Option.some.inj h1
    show _ = _
    rw [list_take_snoc pw k (by omega), unbig_snoc, ← Ht.out, hpk]
   have x0 : wr.cell? ⟨ge, 0, none⟩ = some (.int .u64 (t : Nat)) := HI.out.e.cell 0 rfl
   have f0 := HI.out.e.open 0
   obtain ⟨w6, Hw6⟩ : ∃ x, Hid (x = wr.setCell ⟨ge, 0, none⟩ (.int .u64 ((t * 256 + c.toNat : Nat) : Int))) := ⟨_, rfl⟩
   have HI6 : Hid (DR w g2 ge (unbig (pw.take (k + 1)) : Nat) (.slice none 0 0) [] w6) := by rw [Hw6.out, HNx.out]; exact HI.out.idx hge h2
   have hpc : ((t * 256 + c.toNat : Nat) : Int) = (t : Int) * 256 + (c.toNat : Int) := by omega
   rw [hpc] at Hw6
   clear e2 Ht Hc HNx HI hpc hq2
   go_upto_region 8 with fail
   change Code.wp _ _ _ _ (wr.setCell ⟨ge, 0, none⟩ (.int .u64 ((t : Int) * 256 + (c.toNat : Int))))
   rw [← Hw6.out]
   clear Hw6 x0 f0 hc2
   go_wp2
   go_roundw
   case rel => exact ⟨k + 1, by omega, by go_num, HI6⟩
   case measure => simp [intOf]; omega
  ·have hk8 : k = 8 := by omega
   subst hk8
   have HWn : Hid (t = unbig (l.take 8)) := by
    show _ = _
    rw [Ht.out, Hpw.out, List.take_take]
    rfl
   clear Ht Hpw hpl hk hlt
   rw [show ((8 : Nat) : Int) = 8 from rfl]
   obtain ⟨b8, o8, e8, hc8⟩ := (HT.out.below (HI.out.bl)).at 8 (by rw [← HN.out]; omega)
   obtain ⟨rfl, rfl⟩ : xb = b8 ∧ xo = o8 := by simpa using e8
   have hq8 : 8 < l.length := by rw [← HN.out]; omega
   obtain ⟨nn, Hnn⟩ : ∃ x, Hid (x = (l[8]'hq8).toNat) := ⟨_, rfl⟩
   have hnn : nn ≤ 255 := by rw [Hnn.out]; have := (l[8]'hq8).toNat_lt; omega
   have HNN : Hid ((l.getD 8 0).toNat = nn) := by
    show _ = _
    rw [Hnn.out, List.getD, List.getElem?_eq_getElem hq8]
    rfl
   have HC8 : Hid (∀ W, Below w.heap.size w W → W.cell? ⟨xb, xo + 8, none⟩ = some (.int .u8 (nn : Int))) := fun W hW => by
    obtain ⟨b9, o9, e9, hc9⟩ := (HT.out.below hW).at 8 hq8
    obtain ⟨rfl, rfl⟩ : xb = b9 ∧ xo = o9 := by simpa using e9
    rw [hc9, Hnn.out]
   clear e8 hc8 Hnn hq8
   obtain ⟨w7, Hw7⟩ : ∃ x, Hid (x = wr) := ⟨_, rfl⟩
   have HI7 : Hid (DR w g2 ge (t : Nat) (.slice none 0 0) [] w7) := by rw [Hw7.out]; exact HI.out
   have ht64 : (t : Int) ≤ 18446744073709551615 := by
    have h1 : unbig (l.take 8) < 256 ^ 8 := unbig_le _ 8 (by simp; omega)
    have h3 : unbig (l.take 8) < 18446744073709551616 := h1
    have := HWn.out
    omega
   rw [← Hw7.out]
   clear HI Hw7
   go_wp2
   go_loopw [7, 8, 9, 10] (fun a i _ _ wr => ∃ (k q : Nat) (v : Value) (m : List OV), k ≤ nn ∧ a = .int .i64 (q : Nat) ∧ i = .int .i64 k ∧ q ≤ N ∧ LP l k q m ∧ Hid (DR w g2 ge (t : Nat) v m wr)) (fun _ i _ _ _ => nn - (intOf i).toNat)
   case atStart => exact ⟨0, 9, .slice none 0 0, [], Nat.zero_le _, rfl, rfl, h9', ⟨rfl, rfl⟩, HI7⟩
   case round =>
    obtain ⟨w0, hw0⟩ : ∃ w0, w0 = wr := ⟨_, rfl⟩
    subst hw0
    clear HI7
    obtain ⟨k, q, v, m, hk, rfl, rfl, hq, HL, HI⟩ := hrel
    obtain ⟨va, vc, hvf⟩ := HI.out.own.shape
    rw [HL.len] at hvf
    subst hvf
    have hc8 : w0.cell? ⟨xb, xo + 8, none⟩ = some (.int .u8 (nn : Int)) := HC8.out w0 HI.out.bl
    have hcl8 : (nn : Int) ≤ 255 := by omega
    by_cases hlt : k < nn
    ·have HC : Hid (Calls Tryz.prog 34 #[.slice (some ⟨xb, xo, none⟩) N cap, .int .i64 (q : Nat)] w0 (OpAtA w0 l q)) := by
      have := opAt_calls xb xo cap l q w0 (by rw [← HN.out]; exact hl) (by rw [← HN.out]; exact hcap) hcm (by rw [← HN.out]; exact hq) (HT.out.below HI.out.bl)
      rw [← HN.out] at this
      exact this
     go_wp2_with fail
     refine HC.out.mono ?_
     clear HC hc8
     rintro e w5 ⟨hb5, ⟨o, q5, tv, hra, hq5, rfl, hrow⟩ | ⟨hno, cs, hsz, h1, rfl⟩⟩
     ·obtain ⟨ta, tc, rfl, -⟩ := row_forms hrow
      obtain ⟨z, Hz⟩ : ∃ z : OV, Hid (z = ⟨o, ta, tc⟩) := ⟨_, rfl⟩
      rw [zv_of Hz.out]
      rw [← HN.out] at hq5
      have HL5 : LP l (k + 1) q5 (m ++ [z]) := HL.step (zo_of Hz.out) hra
      have HI5 : Hid (DR w g2 ge (t : Nat) (.slice va k vc) m w5) := HI.out.below hb5
      have HTG : Hid (TagO w5 w.heap.size z) := tag_of Hz.out HI.out.bl.size hrow
      have hml : Hid (m.length = k) := HL.len
      clear hra hrow Hz HL hb5 HI
      dsimp only
      iterate 14 go_step
      refine wp_store_op (c' := z.v) rfl rfl rfl rfl rfl rfl (ov_one z) ?_
      obtain ⟨w6, Hw6⟩ : ∃ x, Hid (x = w5.alloc (.cells z.v 54)) := ⟨_, rfl⟩
      have HI6 : Hid (DR w g2 ge (t : Nat) (.slice va k vc) m w6) := by rw [Hw6.out]; exact HI5.out.below (below_new _ _)
      have HT6 : Hid (TagO w6 w.heap.size z) := by rw [Hw6.out]; exact row_below HTG.out (below_new _ _)
      have HX6 : Hid (Blk w6 w5.heap.size z.v 54) := by rw [Hw6.out]; exact Blk.new _ _ _
      rw [← Hw6.out]
      obtain ⟨gb, Hgb⟩ : ∃ x, Hid (x = w5.heap.size) := ⟨_, rfl⟩
      rw [← Hgb.out] at HX6 ⊢
      clear Hw6 Hgb HI5 HTG
      have x1 : w6.cell? ⟨ge, 1, none⟩ = some (.slice va k vc) := HI6.out.e.cell 1 rfl
      have HO6 : Hid (w6.ownsRow w.heap.size 54 21 (.slice va k vc) k (ocs m)) := own_row hml.out HI6.out.own
      have hB6 : w.heap.size ≤ w6.heap.size := HI6.out.bl.size
      go_upto_region 16 with fail
      iterate 8 go_step
      refine wp_get_op rfl HX6.out rfl rfl ?_
      iterate 2 go_step
      refine wp_slice_ov (z := z) rfl rfl ?_
      iterate 2 go_step
      refine wp_append_ov (.tmp 49) (.tmp 51) z w6 rfl rfl HO6.out rfl (by omega) hB6 ?_
      intro v7 w7' ho7 hg7
      obtain ⟨a7, k7, rfl, -⟩ := row_forms ho7
      have HI8 : Hid (DR w g2 ge (t : Nat) (.slice a7 (k + 1) k7) (m ++ [z]) (w7'.setCell ⟨ge, 1, none⟩ (.slice a7 (k + 1) k7))) := HI6.out.push hml.out hge h2 HT6.out ho7 hg7
      have HE7 : Hid (Blk w7' ge #[.int .u64 (t : Nat), .slice va k vc] 27) := row_grewB HI6.out.e HI6.out.own.row hg7 (by decide)
      have q8 : w7'.cell? ⟨ge, 1, none⟩ = some (.slice va k vc) := HE7.out.cell 1 rfl
      have f8 := HE7.out.open 1
      clear ho7 hg7 HI6 HT6 HX6 x1 HO6 hB6 HE7 hml
      go_upto_region 17 with fail
      obtain ⟨w9, Hw9⟩ : ∃ x, Hid (x = w7'.setCell ⟨ge, 1, none⟩ (.slice a7 (k + 1) k7)) := ⟨_, rfl⟩
      rw [← Hw9.out] at HI8
      change Code.wp _ _ _ _ (w7'.setCell ⟨ge, 1, none⟩ (.slice a7 (k + 1) k7))
      rw [← Hw9.out]
      clear Hw9 q8 f8
      go_wp2
      go_roundw
      case rel => exact ⟨k + 1, q5, .slice a7 (k + 1) k7, m ++ [z], by omega, rfl, by go_num, hq5, HL5, HI8⟩
      case measure => simp [intOf]; omega
     ·have HNo : Hid (readOk l = false) := HL.none hno HNN.out hlt
      have HI5 : Hid (DR w g2 ge (t : Nat) (.slice va k vc) m w5) := HI.out.below hb5
      clear hno HL hb5 HI
      dsimp only
      iterate 14 go_step
      refine wp_store_op (c' := cs) rfl rfl rfl rfl rfl hsz h1 ?_
      obtain ⟨w6, Hw6⟩ : ∃ x, Hid (x = w5.alloc (.cells cs 54)) := ⟨_, rfl⟩
      have HI6 : Hid (DR w g2 ge (t : Nat) (.slice va k vc) m w6) := by rw [Hw6.out]; exact HI5.out.below (below_new _ _)
      rw [← Hw6.out]
      clear Hw6 HI5 hsz h1
      have y0 : w6.cell? ⟨g2, 0, none⟩ = some (.int .u64 0) := HI6.out.z.cell 0 rfl
      have y1 : w6.cell? ⟨g2, 1, none⟩ = some (.slice none 0 0) := HI6.out.z.cell 1 rfl
      have f0 := HI6.out.z.open 0
      have f1 := HI6.out.z.open 1
      obtain ⟨wz, Hwz⟩ : ∃ x, Hid (x = putC w6 g2 0 [.int .u64 0, .slice none 0 0]) := ⟨_, rfl⟩
      have HY5 : Hid (Blk wz g2 #[.int .u64 0, .slice none 0 0] 27) := by rw [Hwz.out]; exact putC_all HI6.out.z rfl
      have HB5 : Hid (Below w.heap.size w wz) := by rw [Hwz.out]; exact putC_below _ _ _ HI6.out.bl h2w
      have HLd : Hid ((loadVar 27 ⟨g2, 0, none⟩).run Tryz.prog wz = .ok (.agg #[.int .u64 0, .slice none 0 0]) wz) := load_ent HY5.out rfl
      have HFin : Hid (RReadA w l (.returned (.tuple #[.agg #[.int .u64 0, .slice none 0 0], .bool false])) wz) := ⟨HB5.out, .inr ⟨HNo.out, rfl⟩⟩
      clear HI6 HY5 HB5 HNo
      go_wp2
      change bodyPost _ _ _ _ _ (putC w6 g2 0 [.int .u64 0, .slice none 0 0])
      rw [← Hwz.out]
      exact ret_box (g := g2) (w := wz) rfl rfl rfl rfl HLd.out HFin.out
    ·have hkn : k = nn := by omega
     subst hkn
     have HMM : Hid (∀ x ∈ m, x.o.rng ∧ x.ok ∧ x.o.node.addr.size ≤ 1048576) := HL.mem
     have HAT : Hid (OpsAt w0 va m) := by
      have h1 := HI.out.own
      have h3 := HL.len
      have : OwnO w0 w.heap.size (.slice va m.length vc) m := by rw [h3]; exact h1
      exact this.at
     have HCS : Hid (Calls Tryz.prog 13 #[.agg #[.int .u64 (t : Nat), .slice va k vc]] w0 fun e w' => e = .returned (.bool (soundB (ops m))) ∧ Below w0.heap.size w0 w') := by
      have := rsound_calls (t : Nat) va vc m w0 (by have := HL.len; omega) (fun x hx => (HMM.out x hx).2.1) (fun x hx => (HMM.out x hx).2.2) HAT.out
      rw [HL.len] at this
      exact this
     have HL1 : LP l k q m := HL
     have hml : Hid (m.length = k) := HL.len
     obtain ⟨sb, Hsb⟩ : ∃ x, Hid (x = soundB (ops m)) := ⟨_, rfl⟩
     rw [← Hsb.out] at HCS
     have x0 : w0.cell? ⟨ge, 0, none⟩ = some (.int .u64 (t : Nat)) := HI.out.e.cell 0 rfl
     have x1 : w0.cell? ⟨ge, 1, none⟩ = some (.slice va k vc) := HI.out.e.cell 1 rfl
     clear HL
     go_wp2_with fail
     refine HCS.out.mono ?_
     clear HCS x0 x1 hc8
     rintro e w5 ⟨rfl, hb5⟩
     have HI5 : Hid (DR w g2 ge (t : Nat) (.slice va k vc) m w5) := HI.out.below hb5
     have HAT5 : Hid (OpsAt w5 va m) := HAT.out.below hb5
     clear HI HAT hb5
     cases sb with
     | false =>
      have HNo : Hid (readOk l = false) := rd_odd (by rw [HNN.out]; exact HL1.eq) Hsb.out.symm
      have y0 : w5.cell? ⟨g2, 0, none⟩ = some (.int .u64 0) := HI5.out.z.cell 0 rfl
      have y1 : w5.cell? ⟨g2, 1, none⟩ = some (.slice none 0 0) := HI5.out.z.cell 1 rfl
      have f0 := HI5.out.z.open 0
      have f1 := HI5.out.z.open 1
      obtain ⟨wz, Hwz⟩ : ∃ x, Hid (x = putC w5 g2 0 [.int .u64 0, .slice none 0 0]) := ⟨_, rfl⟩
      have HY5 : Hid (Blk wz g2 #[.int .u64 0, .slice none 0 0] 27) := by rw [Hwz.out]; exact putC_all HI5.out.z rfl
      have HB5 : Hid (Below w.heap.size w wz) := by rw [Hwz.out]; exact putC_below _ _ _ HI5.out.bl h2w
      have HLd : Hid ((loadVar 27 ⟨g2, 0, none⟩).run Tryz.prog wz = .ok (.agg #[.int .u64 0, .slice none 0 0]) wz) := load_ent HY5.out rfl
      have HFin : Hid (RReadA w l (.returned (.tuple #[.agg #[.int .u64 0, .slice none 0 0], .bool false])) wz) := ⟨HB5.out, .inr ⟨HNo.out, rfl⟩⟩
      clear HI5 HY5 HB5 HNo
      clear HAT5 HMM Hsb
      go_wp2
      change bodyPost _ _ _ _ _ (putC w5 g2 0 [.int .u64 0, .slice none 0 0])
      rw [← Hwz.out]
      exact ret_box (g := g2) (w := wz) rfl rfl rfl rfl HLd.out HFin.out
     | true =>
      have HCP : Hid (Calls Tryz.prog 35 #[.agg #[.int .u64 (t : Nat), .slice va k vc]] w5 fun e w' => ∃ v', e = .returned v' ∧ Own w' w5.heap.size v' (payB (t : Nat) (ops m)) ∧ Below w5.heap.size w5 w') := by
       have := rpayload_calls (t : Nat) va vc m w5 (by omega) ht64 Hsb.out.symm (fun x hx => (HMM.out x hx).1) HAT5.out
       rw [hml.out] at this
       exact this
      have x0 : w5.cell? ⟨ge, 0, none⟩ = some (.int .u64 (t : Nat)) := HI5.out.e.cell 0 rfl
      have x1 : w5.cell? ⟨ge, 1, none⟩ = some (.slice va k vc) := HI5.out.e.cell 1 rfl
      go_wp2_with fail
      refine HCP.out.mono ?_
      clear HCP x0 x1
      rintro e w6 ⟨v', rfl, hown, hb6⟩
      obtain ⟨pb, Hpb⟩ : ∃ x, Hid (x = payB (t : Nat) (ops m)) := ⟨_, rfl⟩
      rw [← Hpb.out] at hown
      obtain ⟨pa, pc, rfl, -⟩ := row_forms hown
      have HI6 : Hid (DR w g2 ge (t : Nat) (.slice va k vc) m w6) := HI5.out.below hb6
      obtain ⟨db, Hdb⟩ : ∃ x, Hid (x = decide (pb = l)) := ⟨_, rfl⟩
      have hpm : pb.length ≤ 140737488355328 := by rw [Hpb.out]; exact Nat.le_trans (payB_le Hsb.out.symm) (by decide)
      have HSM : Hid (Calls Tryz.prog 9 #[.slice pa pb.length pc, .slice (some ⟨xb, xo, none⟩) N cap] w6 fun e w' => e = .returned (.bool db) ∧ ∃ n, w' = w6.drewN n) := by
       have := same_calls pa (some ⟨xb, xo, none⟩) pc cap pb l w6 hpm (by rw [← HN.out]; omega) (Own.bytes hown) (HT.out.below HI6.out.bl)
       rw [← HN.out, ← Hdb.out] at this
       exact this
      clear hown hb6 HI5 HAT5
      go_wp2_with fail
      refine HSM.out.mono ?_
      clear HSM
      rintro e w8 ⟨rfl, n8, hw8⟩
      have HI8 : Hid (DR w g2 ge (t : Nat) (.slice va k vc) m w8) := by rw [hw8]; exact HI6.out.below (below_draws _ _)
      clear hw8 HI6
      cases db with
      | false =>
       have HNo : Hid (readOk l = false) := by
        refine rd_other (r := l.drop q) (os := ops m) (by rw [HNN.out]; exact HL1.eq) ?_
        rw [← HWn.out, ← Hpb.out]
        exact of_decide_eq_false Hdb.out.symm
       have y0 : w8.cell? ⟨g2, 0, none⟩ = some (.int .u64 0) := HI8.out.z.cell 0 rfl
       have y1 : w8.cell? ⟨g2, 1, none⟩ = some (.slice none 0 0) := HI8.out.z.cell 1 rfl
       have f0 := HI8.out.z.open 0
       have f1 := HI8.out.z.open 1
       obtain ⟨wz, Hwz⟩ : ∃ x, Hid (x = putC w8 g2 0 [.int .u64 0, .slice none 0 0]) := ⟨_, rfl⟩
       have HY5 : Hid (Blk wz g2 #[.int .u64 0, .slice none 0 0] 27) := by rw [Hwz.out]; exact putC_all HI8.out.z rfl
       have HB5 : Hid (Below w.heap.size w wz) := by rw [Hwz.out]; exact putC_below _ _ _ HI8.out.bl h2w
       have HLd : Hid ((loadVar 27 ⟨g2, 0, none⟩).run Tryz.prog wz = .ok (.agg #[.int .u64 0, .slice none 0 0]) wz) := load_ent HY5.out rfl
       have HFin : Hid (RReadA w l (.returned (.tuple #[.agg #[.int .u64 0, .slice none 0 0], .bool false])) wz) := ⟨HB5.out, .inr ⟨HNo.out, rfl⟩⟩
       clear HI8 HY5 HB5 HNo
       clear HMM Hsb Hdb Hpb
       go_wp2
       change bodyPost _ _ _ _ _ (putC w8 g2 0 [.int .u64 0, .slice none 0 0])
       rw [← Hwz.out]
       exact ret_box (g := g2) (w := wz) rfl rfl rfl rfl HLd.out HFin.out
      | true =>
       have HOK : Hid (readOk l = true ∧ (readO l).1 = ops m ∧ readI l = t) := by
        have := rd_same (by rw [← HN.out]; exact h9') (by rw [HNN.out]; exact HL1.eq) Hsb.out.symm (by rw [← HWn.out, ← Hpb.out]; exact of_decide_eq_true Hdb.out.symm)
        rw [← HWn.out] at this
        exact this
       have x0 : w8.cell? ⟨ge, 0, none⟩ = some (.int .u64 (t : Nat)) := HI8.out.e.cell 0 rfl
       have x1 : w8.cell? ⟨ge, 1, none⟩ = some (.slice va k vc) := HI8.out.e.cell 1 rfl
       have y0 : w8.cell? ⟨g2, 0, none⟩ = some (.int .u64 0) := HI8.out.z.cell 0 rfl
       have y1 : w8.cell? ⟨g2, 1, none⟩ = some (.slice none 0 0) := HI8.out.z.cell 1 rfl
       have f0 := HI8.out.z.open 0
       have f1 := HI8.out.z.open 1
       obtain ⟨wz, Hwz⟩ : ∃ x, Hid (x = putC w8 g2 0 [.int .u64 (t : Nat), .slice va k vc]) := ⟨_, rfl⟩
       have HY5 : Hid (Blk wz g2 #[.int .u64 (t : Nat), .slice va k vc] 27) := by rw [Hwz.out]; exact putC_all HI8.out.z rfl
       have HB5 : Hid (Below w.heap.size w wz) := by rw [Hwz.out]; exact putC_below _ _ _ HI8.out.bl h2w
       have HOZ : Hid (OwnO wz w.heap.size (.slice va k vc) m) := by rw [Hwz.out]; exact ⟨row_putK HI8.out.z (by decide) HI8.out.own.row _ _, fun x hx => row_putK HI8.out.z (by decide) (HI8.out.own.tags x hx) _ _⟩
       have HLd : Hid ((loadVar 27 ⟨g2, 0, none⟩).run Tryz.prog wz = .ok (.agg #[.int .u64 (t : Nat), .slice va k vc]) wz) := load_ent HY5.out rfl
       have HFin : Hid (RReadA w l (.returned (.tuple #[.agg #[.int .u64 (t : Nat), .slice va k vc], .bool true])) wz) := by
        refine ⟨HB5.out, .inl ⟨HOK.out.1, va, vc, m, ?_, HOK.out.2.1.symm, ?_⟩⟩
        ·rw [HOK.out.2.2, hml.out]
        ·rw [hml.out]
         exact HOZ.out
       clear HI8 HY5 HB5 HOZ HOK Hsb Hdb Hpb
       go_wp2
       change bodyPost _ _ _ _ _ (putC w8 g2 0 [.int .u64 (t : Nat), .slice va k vc])
       rw [← Hwz.out]
       exact ret_box (g := g2) (w := wz) rfl rfl rfl rfl HLd.out HFin.out
end Go.Proofs.YtbhhjnbomhkdmaaGreatDoor
