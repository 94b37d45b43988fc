import Derived.Test.YthgcnmilaifkoaaGreatDoorJRop
import Derived.Test.YthgcnmilaifkoaaGreatDoorRcOa1
import Derived.Test.YthgcnmilaifkoaaGreatDoorRcCopyS
/- Layer 13 (journal): what was written is read back, plain. -/
namespace Go.Proofs.YthgcnmilaifkoaaGreatDoor
open Go.RowKit
set_option linter.unusedVariables false

theorem tkB_app (a r : List UInt8) (b : Bool) (k : Nat) (h : a.length = k) : tkB k (a ++ r, b) = a := by
 unfold tkB
 rw [if_pos (by simp; omega)]
 exact List.take_left' h
theorem tkS_app (a r : List UInt8) (b : Bool) (k : Nat) (h : a.length = k) : tkS k (a ++ r, b) = (r, b) := by
 unfold tkS
 rw [if_pos (by simp; omega)]
 simp only
 rw [List.drop_left' h]
theorem byteOf_nat (n : Nat) (h : n < 256) : (byteOf (n : Int)).toNat = n := by
 have := byteOf_val (n : Int)
 omega
theorem sml_app (c : UInt8) (r : List UInt8) (b : Bool) : smlB (c :: r, b) = c.toNat ∧ tkS 1 (c :: r, b) = (r, b) := by
 have h1 := tkB_app [c] r b 1 rfl
 have h2 := tkS_app [c] r b 1 rfl
 refine ⟨?_, h2⟩
 unfold smlB
 rw [show (c :: r, b) = ([c] ++ r, b) from rfl, h1]
 simp [unbig]
theorem txt_app (t : ByteArray) (r : List UInt8) (b : Bool) (h : t.size ≤ 255) : txt (txtB t ++ r, b) = t ∧ txS (txtB t ++ r, b) = (r, b) := by
 have e : txtB t ++ r = byteOf t.size :: (t.data.toList ++ r) := by simp [txtB]
 obtain ⟨h1, h2⟩ := sml_app (byteOf t.size) (t.data.toList ++ r) b
 rw [byteOf_nat t.size (by omega)] at h1
 have hl : t.data.toList.length = t.size := by simp
 constructor
 ·unfold txt txB
  rw [e, h1, h2, tkB_app _ _ _ _ hl]
 ·unfold txS
  rw [e, h1, h2, tkS_app _ _ _ _ hl]
theorem txsP_app : ∀ (ts : List ByteArray) (r : List UInt8) (b : Bool), (∀ t ∈ ts, t.size ≤ 255) → txsP ts.length (txtsB ts ++ r, b) = (ts, (r, b)) := by
 have key : ∀ (n : Nat) (ts : List ByteArray) (r : List UInt8) (b : Bool), ts.length = n → (∀ t ∈ ts, t.size ≤ 255) → txsP n (txtsB ts ++ r, b) = (ts, (r, b)) := by
  intro n
  induction n with
  | zero =>
   intro ts r b hl _
   obtain rfl := List.eq_nil_of_length_eq_zero hl
   simp [txsP, txtsB]
  | succ n ih =>
   intro ts r b hl h
   rcases List.eq_nil_or_concat ts with rfl | ⟨us, t, rfl⟩
   ·simp at hl
   ·rw [List.concat_eq_append] at *
    have hu : us.length = n := by simp at hl; omega
    have e : txtsB (us ++ [t]) ++ r = txtsB us ++ (txtB t ++ r) := by rw [txtsB_snoc, List.append_assoc]
    have h1 := ih us (txtB t ++ r) b hu fun x hx => h x (List.mem_append_left _ hx)
    obtain ⟨h2, h3⟩ := txt_app t r b (h t (by simp))
    simp only [txsP]
    rw [e, h1]
    simp only
    have h4 : (⟨(txB (txtB t ++ r, b)).toArray⟩ : ByteArray) = t := h2
    rw [h4, h3]
 exact fun ts r b h => key ts.length ts r b rfl h
theorem textsP_app (ts : List ByteArray) (r : List UInt8) (b : Bool) (hn : ts.length ≤ 255) (h : ∀ t ∈ ts, t.size ≤ 255) : textsP (byteOf ts.length :: (txtsB ts ++ r), b) = (ts, (r, b)) := by
 obtain ⟨h1, h2⟩ := sml_app (byteOf ts.length) (txtsB ts ++ r) b
 rw [byteOf_nat ts.length (by omega)] at h1
 unfold textsP
 rw [h1, h2]
 exact txsP_app ts r b h
theorem num_app (k : Nat) (n : Int) (r : List UInt8) (b : Bool) (h0 : 0 ≤ n) (h1 : n < 256 ^ k) : ((unbig (tkB k (big k n ++ r, b)) : Nat) : Int) = n ∧ tkS k (big k n ++ r, b) = (r, b) :=
 ⟨by rw [tkB_app _ _ _ _ (big_length k n)]; exact unbig_big k n h0 h1, tkS_app _ _ _ _ (big_length k n)⟩
theorem casP_app (o : Opp) (r : List UInt8) (b : Bool) (hr : 0 ≤ o.want ∧ o.want ≤ 18446744073709551615) (hw : o.cas = false → o.want = 0) : (casP (casB o ++ r, b)).1.1 = o.cas ∧ ((casP (casB o ++ r, b)).1.2 : Int) = o.want ∧ (casP (casB o ++ r, b)).2 = (r, b) := by
 cases hc : o.cas with
 | false =>
  have e : casB o ++ r = 0 :: r := by unfold casB; rw [hc]; rfl
  obtain ⟨h1, h2⟩ := sml_app 0 r b
  have e2 : casP (casB o ++ r, b) = ((false, 0), (r, b)) := by
   unfold casP
   rw [e, h1, h2]
   rfl
  rw [e2, hw hc]
  exact ⟨rfl, rfl, rfl⟩
 | true =>
  have e : casB o ++ r = 1 :: (big 8 o.want ++ r) := by unfold casB; rw [hc]; rfl
  obtain ⟨h1, h2⟩ := sml_app 1 (big 8 o.want ++ r) b
  obtain ⟨h3, h4⟩ := num_app 8 o.want r b hr.1 (by omega)
  have e2 : casP (casB o ++ r, b) = ((true, unbig (tkB 8 (big 8 o.want ++ r, b))), (r, b)) := by
   unfold casP
   rw [e, h1, h2, h4]
   rfl
  rw [e2]
  exact ⟨rfl, h3, rfl⟩
theorem opP_app {o : Opp} (h : Snd o) (hr : 0 ≤ o.want ∧ o.want ≤ 18446744073709551615) (r : List UInt8) (b : Bool) : opP (opB o ++ r, b) = (o, (r, b)) := by
 have hw : o.cas = false → o.want = 0 := by cases h <;> assumption
 have hk : 1 ≤ o.kind ∧ o.kind ≤ 6 := by cases h <;> exact ⟨by simp, by simp⟩
 have e : opB o ++ r = byteOf o.kind :: (casB o ++ (bodyB o ++ r)) := by simp [opB]
 obtain ⟨h1, h2⟩ := sml_app (byteOf o.kind) (casB o ++ (bodyB o ++ r)) b
 have hkv : ((byteOf o.kind).toNat : Int) = o.kind := by rw [byteOf_val]; omega
 obtain ⟨c1, c2, c3⟩ := casP_app o (bodyB o ++ r) b hr hw
 unfold opP
 rw [e]
 simp only
 rw [h1, h2, c3, c1, c2, hkv]
 cases h with
 | node n a bb x hx g1 g2 =>
  have eb : bodyB ⟨1, ⟨n, a, 0, 0⟩, svcZ, chkZ, bb, x⟩ ++ r = txtB n ++ (txtB a ++ r) := by simp [bodyB, txtsB]
  obtain ⟨t1, t2⟩ := txt_app n (txtB a ++ r) b (by omega)
  obtain ⟨t3, t4⟩ := txt_app a r b (by omega)
  rw [eb, t1, t2, t3, t4]
  rfl
 | svc n i m p t bb x hx g1 g2 g3 g4 g5 g6 g7 =>
  have eb : bodyB ⟨2, nodeZ, ⟨n, i, m, p, t, 0, 0⟩, chkZ, bb, x⟩ ++ r = txtB n ++ (txtB i ++ (txtB m ++ (big 2 p ++ (byteOf t.length :: (txtsB t ++ r))))) := by
   show svcB ⟨n, i, m, p, t, 0, 0⟩ ++ r = _
   simp [svcB, txtsB]
  obtain ⟨t1, t2⟩ := txt_app n (txtB i ++ (txtB m ++ (big 2 p ++ (byteOf t.length :: (txtsB t ++ r))))) b (by omega)
  obtain ⟨t3, t4⟩ := txt_app i (txtB m ++ (big 2 p ++ (byteOf t.length :: (txtsB t ++ r)))) b (by omega)
  obtain ⟨t5, t6⟩ := txt_app m (big 2 p ++ (byteOf t.length :: (txtsB t ++ r))) b (by omega)
  obtain ⟨t7, t8⟩ := num_app 2 p (byteOf t.length :: (txtsB t ++ r)) b (by omega) (by omega)
  have t9 := textsP_app t r b (by omega) fun y hy => by have := g7 y hy; omega
  rw [eb, t1, t2, t3, t4, t5, t6, t7, t8, t9]
  rfl
 | chk n i m p t bb x hx g1 g2 g3 g4 g5 g6 =>
  have eb : bodyB ⟨3, nodeZ, svcZ, ⟨n, i, m, p, t, 0, 0⟩, bb, x⟩ ++ r = txtB n ++ (txtB i ++ (txtB m ++ (byteOf p :: (txtB t ++ r)))) := by
   show chkB ⟨n, i, m, p, t, 0, 0⟩ ++ r = _
   simp [chkB, txtsB]
  obtain ⟨t1, t2⟩ := txt_app n (txtB i ++ (txtB m ++ (byteOf p :: (txtB t ++ r)))) b (by omega)
  obtain ⟨t3, t4⟩ := txt_app i (txtB m ++ (byteOf p :: (txtB t ++ r))) b (by omega)
  obtain ⟨t5, t6⟩ := txt_app m (byteOf p :: (txtB t ++ r)) b (by omega)
  obtain ⟨t7, t8⟩ := sml_app (byteOf p) (txtB t ++ r) b
  have t7' : ((byteOf p).toNat : Int) = p := by rw [byteOf_val]; omega
  obtain ⟨t9, t10⟩ := txt_app t r b (by omega)
  rw [eb, t1, t2, t3, t4, t5, t6, t7, t8, t7', t9, t10]
  rfl
 | dnode n bb x hx g1 =>
  have eb : bodyB ⟨4, ⟨n, ⟨#[]⟩, 0, 0⟩, svcZ, chkZ, bb, x⟩ ++ r = txtB n ++ r := by simp [bodyB, txtsB]
  obtain ⟨t1, t2⟩ := txt_app n r b (by omega)
  rw [eb, t1, t2]
  rfl
 | dsvc n i bb x hx g1 g2 =>
  have eb : bodyB ⟨5, nodeZ, ⟨n, i, ⟨#[]⟩, 0, [], 0, 0⟩, chkZ, bb, x⟩ ++ r = txtB n ++ (txtB i ++ r) := by simp [bodyB, txtsB]
  obtain ⟨t1, t2⟩ := txt_app n (txtB i ++ r) b (by omega)
  obtain ⟨t3, t4⟩ := txt_app i r b (by omega)
  rw [eb, t1, t2, t3, t4]
  rfl
 | dchk n i bb x hx g1 g2 =>
  have eb : bodyB ⟨6, nodeZ, svcZ, ⟨n, i, ⟨#[]⟩, 0, ⟨#[]⟩, 0, 0⟩, bb, x⟩ ++ r = txtB n ++ (txtB i ++ r) := by simp [bodyB, txtsB]
  obtain ⟨t1, t2⟩ := txt_app n (txtB i ++ r) b (by omega)
  obtain ⟨t3, t4⟩ := txt_app i r b (by omega)
  rw [eb, t1, t2, t3, t4]
  rfl
/-- n operations, one behind the other. -/
def opsP : Nat → Rd → List Opp × Rd
 | 0, s => ([], s)
 | n + 1, s => ((opsP n s).1 ++ [(opP (opsP n s).2).1], (opP (opsP n s).2).2)
theorem opsP_app : ∀ (n : Nat) (os : List Opp) (r : List UInt8) (b : Bool), os.length = n → (∀ o ∈ os, Snd o) → (∀ o ∈ os, 0 ≤ o.want ∧ o.want ≤ 18446744073709551615) → opsP n (opsB os ++ r, b) = (os, (r, b)) := by
 intro n
 induction n with
 | zero =>
  intro os r b hl _ _
  obtain rfl := List.eq_nil_of_length_eq_zero hl
  simp [opsP, opsB]
 | succ n ih =>
  intro os r b hl h hr
  rcases List.eq_nil_or_concat os with rfl | ⟨us, t, rfl⟩
  ·simp at hl
  ·rw [List.concat_eq_append] at *
   have hu : us.length = n := by simp at hl; omega
   have e : opsB (us ++ [t]) ++ r = opsB us ++ (opB t ++ r) := by simp [opsB]
   have h1 := ih us (opB t ++ r) b hu (fun x hx => h x (List.mem_append_left _ hx)) (fun x hx => hr x (List.mem_append_left _ hx))
   have h2 := opP_app (h t (by simp)) (hr t (by simp)) r b
   simp only [opsP]
   rw [e, h1]
   simp only
   rw [h2]
/-- The entry that readPayload reads. -/
def readI (p : List UInt8) : Nat := unbig (tkB 8 (p, false))
def readN (p : List UInt8) : Nat := smlB (tkS 8 (p, false))
def readO (p : List UInt8) : List Opp × Rd := opsP (readN p) (tkS 1 (tkS 8 (p, false)))
def readOk (p : List UInt8) : Bool := !(readO p).2.2 && decide ((readO p).2.1.length = 0) && soundB (readO p).1
theorem read_back {i : Int} {os : List Opp} (h0 : 0 ≤ i) (h1 : i ≤ 18446744073709551615) (hs : soundB os = true) (hr : ∀ o ∈ os, 0 ≤ o.want ∧ o.want ≤ 18446744073709551615) : (readI (payB i os) : Int) = i ∧ (readO (payB i os)).1 = os ∧ readOk (payB i os) = true := by
 obtain ⟨g1, g2, g3⟩ := soundB_all hs
 have e : payB i os = big 8 i ++ (byteOf os.length :: (opsB os ++ [])) := by simp [payB]
 obtain ⟨a1, a2⟩ := num_app 8 i (byteOf os.length :: (opsB os ++ [])) false h0 (by omega)
 obtain ⟨b1, b2⟩ := sml_app (byteOf os.length) (opsB os ++ []) false
 rw [byteOf_nat os.length (by omega)] at b1
 have c := opsP_app os.length os [] false rfl g3 hr
 have hO : readO (payB i os) = (os, ([], false)) := by
  unfold readO readN
  rw [e, a2, b1, b2]
  exact c
 refine ⟨?_, by rw [hO], ?_⟩
 ·unfold readI
  rw [e]
  exact a1
 ·unfold readOk
  rw [hO]
  simp [hs]
end Go.Proofs.YthgcnmilaifkoaaGreatDoor

/- Layer 9 (records): the document's CopyOp. -/
namespace Go.Proofs.YthgcnmilaifkoaaGreatDoor
open Go.RowKit
set_option linter.unusedVariables false

/-- A copy of an operation is answered, its tags in memory of their own. -/
def CopO (w : World) (o : Opp) (e : Ending) (w' : World) : Prop := ∃ v, e = .returned (.agg (o.v v)) ∧ w'.ownsRow w.heap.size 9 1 v o.svc.tags.length (o.svc.tags.map Value.string) ∧ Below w.heap.size w w'

set_option maxRecDepth 100000 in
set_option maxHeartbeats 4000000 in
theorem copyOp_calls (o : Opp) (ta : Option Addr) (tc : Nat) (w : World) (hl : o.svc.tags.length ≤ 8796093022207) (hc : CellsAt w ta (o.svc.tags.map Value.string)) :
  Calls Tryz.prog 25 #[.agg (o.v (.slice ta o.svc.tags.length tc))] w fun e w' => CopO w o e w' := by
 have HC : Hid (∀ w', Below w.heap.size w w' → Calls Tryz.prog 40 #[.agg (o.svc.v (.slice ta o.svc.tags.length tc))] w' fun e w'' => CopA w' o.svc e w'') := fun w' h => copyService_calls o.svc ta tc w' hl (hc.below h)
 clear hc
 obtain ⟨kd, ⟨nn, na, n3, n4⟩, ⟨sn, si, sm, sp, tg, s6, s7⟩, ⟨cn, ci, cs, ct, ce, c6, c7⟩, cas, wt⟩ := o
 simp only [Opp.v, Sp.v] at *
 have HFin : Hid (∀ v w', w'.ownsRow w.heap.size 9 1 v tg.length (tg.map Value.string) → Below w.heap.size w w' → CopO w ⟨kd, ⟨nn, na, n3, n4⟩, ⟨sn, si, sm, sp, tg, s6, s7⟩, ⟨cn, ci, cs, ct, ce, c6, c7⟩, cas, wt⟩ (.returned (.agg #[.int .i64 kd, .string nn, .string na, .int .u64 n3, .int .u64 n4, .string sn, .string si, .string sm, .int .i64 sp, v, .int .u64 s6, .int .u64 s7, .string cn, .string ci, .string cs, .int .i64 ct, .string ce, .int .u64 c6, .int .u64 c7, .bool cas, .int .u64 wt])) w') := fun v w' h1 h2 => ⟨v, rfl, h1, h2⟩
 obtain ⟨tl, Htl⟩ : ∃ x, Hid (x = tg.length) := ⟨_, rfl⟩
 rw [← Htl.out] at HC hl ⊢
 obtain ⟨w2, Hw2⟩ : ∃ w2, Hid (w2 = (w.alloc (.cells #[.int .i64 kd, .string nn, .string na, .int .u64 n3, .int .u64 n4, .string sn, .string si, .string sm, .int .i64 sp, .slice ta tl tc, .int .u64 s6, .int .u64 s7, .string cn, .string ci, .string cs, .int .i64 ct, .string ce, .int .u64 c6, .int .u64 c7, .bool cas, .int .u64 wt] 47)).alloc (.cells #[.int .i64 0, .string ⟨#[]⟩, .string ⟨#[]⟩, .int .u64 0, .int .u64 0, .string ⟨#[]⟩, .string ⟨#[]⟩, .string ⟨#[]⟩, .int .i64 0, .slice none 0 0, .int .u64 0, .int .u64 0, .string ⟨#[]⟩, .string ⟨#[]⟩, .string ⟨#[]⟩, .int .i64 0, .string ⟨#[]⟩, .int .u64 0, .int .u64 0, .bool false, .int .u64 0] 47)) := ⟨_, rfl⟩
 have hz : (w.alloc (.cells #[.int .i64 kd, .string nn, .string na, .int .u64 n3, .int .u64 n4, .string sn, .string si, .string sm, .int .i64 sp, .slice ta tl tc, .int .u64 s6, .int .u64 s7, .string cn, .string ci, .string cs, .int .i64 ct, .string ce, .int .u64 c6, .int .u64 c7, .bool cas, .int .u64 wt] 47)).heap.size = w.heap.size + 1 := size_new _ _
 have HA2 : Hid (Blk w2 w.heap.size #[.int .i64 kd, .string nn, .string na, .int .u64 n3, .int .u64 n4, .string sn, .string si, .string sm, .int .i64 sp, .slice ta tl tc, .int .u64 s6, .int .u64 s7, .string cn, .string ci, .string cs, .int .i64 ct, .string ce, .int .u64 c6, .int .u64 c7, .bool cas, .int .u64 wt] 47) := by rw [Hw2.out]; exact (Blk.new _ _ _).alloc _
 have HR2 : Hid (Blk w2 (w.heap.size + 1) #[.int .i64 0, .string ⟨#[]⟩, .string ⟨#[]⟩, .int .u64 0, .int .u64 0, .string ⟨#[]⟩, .string ⟨#[]⟩, .string ⟨#[]⟩, .int .i64 0, .slice none 0 0, .int .u64 0, .int .u64 0, .string ⟨#[]⟩, .string ⟨#[]⟩, .string ⟨#[]⟩, .int .i64 0, .string ⟨#[]⟩, .int .u64 0, .int .u64 0, .bool false, .int .u64 0] 47) := by rw [Hw2.out, ← hz]; exact Blk.new _ _ _
 have HB2 : Hid (Below w.heap.size w w2) := by rw [Hw2.out]; exact (below_new w _).alloc (by rw [hz]; omega) _
 clear hz
 go_enter Tryz.func25, Tryz.ntmps25
 go_upto_region 1 with fail
 rw [← Hw2.out]
 clear Hw2
 iterate 5 go_step
 refine wp_get_part (n := 7) (l := [.string sn, .string si, .string sm, .int .i64 sp, .slice ta tl tc, .int .u64 s6, .int .u64 s7]) rfl HA2.out rfl rfl Tryz.underlying41 rfl size_svc ?_
 go_wp2_with fail
 refine (HC.out w2 HB2.out).mono ?_
 rintro e w3 ⟨v, rfl, ho3, hb3⟩
 obtain ⟨va, vn, vc, rfl⟩ : ∃ va vn vc, v = .slice va vn vc := by
  rcases ho3.2 with ⟨rfl, _⟩ | ⟨g, cap, cur, rfl, _⟩
  ·exact ⟨_, _, _, rfl⟩
  ·exact ⟨_, _, _, rfl⟩
 have HO3 : Hid (w3.ownsRow w.heap.size 9 1 (.slice va vn vc) tg.length (tg.map Value.string)) := row_weak HB2.out.size ho3
 have HA3 : Hid (Blk w3 w.heap.size #[.int .i64 kd, .string nn, .string na, .int .u64 n3, .int .u64 n4, .string sn, .string si, .string sm, .int .i64 sp, .slice ta tl tc, .int .u64 s6, .int .u64 s7, .string cn, .string ci, .string cs, .int .i64 ct, .string ce, .int .u64 c6, .int .u64 c7, .bool cas, .int .u64 wt] 47) := HA2.out.below hb3
 have HR3 : Hid (Blk w3 (w.heap.size + 1) #[.int .i64 0, .string ⟨#[]⟩, .string ⟨#[]⟩, .int .u64 0, .int .u64 0, .string ⟨#[]⟩, .string ⟨#[]⟩, .string ⟨#[]⟩, .int .i64 0, .slice none 0 0, .int .u64 0, .int .u64 0, .string ⟨#[]⟩, .string ⟨#[]⟩, .string ⟨#[]⟩, .int .i64 0, .string ⟨#[]⟩, .int .u64 0, .int .u64 0, .bool false, .int .u64 0] 47) := HR2.out.below hb3
 have HB3 : Hid (Below w.heap.size w w3) := HB2.out.trans (hb3.mono HB2.out.size)
 clear ho3 hb3 HA2 HR2 HB2 HC
 simp only [Sp.v]
 iterate 5 go_step
 refine wp_put_part (l := [.string sn, .string si, .string sm, .int .i64 sp, .slice va vn vc, .int .u64 s6, .int .u64 s7]) rfl HA3.out rfl rfl (by simp) size_svc (by simp [Value.oneCell']) ?_
 obtain ⟨w4, Hw4⟩ : ∃ w4, Hid (w4 = putC w3 w.heap.size 5 [.string sn, .string si, .string sm, .int .i64 sp, .slice va vn vc, .int .u64 s6, .int .u64 s7]) := ⟨_, rfl⟩
 have HA4 : Hid (Blk w4 w.heap.size #[.int .i64 kd, .string nn, .string na, .int .u64 n3, .int .u64 n4, .string sn, .string si, .string sm, .int .i64 sp, .slice va vn vc, .int .u64 s6, .int .u64 s7, .string cn, .string ci, .string cs, .int .i64 ct, .string ce, .int .u64 c6, .int .u64 c7, .bool cas, .int .u64 wt] 47) := by rw [Hw4.out]; exact putC_mid [.string sn, .string si, .string sm, .int .i64 sp, .slice va vn vc, .int .u64 s6, .int .u64 s7] w3 5 _ HA3.out (by simp)
 have HR4 : Hid (Blk w4 (w.heap.size + 1) #[.int .i64 0, .string ⟨#[]⟩, .string ⟨#[]⟩, .int .u64 0, .int .u64 0, .string ⟨#[]⟩, .string ⟨#[]⟩, .string ⟨#[]⟩, .int .i64 0, .slice none 0 0, .int .u64 0, .int .u64 0, .string ⟨#[]⟩, .string ⟨#[]⟩, .string ⟨#[]⟩, .int .i64 0, .string ⟨#[]⟩, .int .u64 0, .int .u64 0, .bool false, .int .u64 0] 47) := by rw [Hw4.out]; exact putC_other (by omega) [.string sn, .string si, .string sm, .int .i64 sp, .slice va vn vc, .int .u64 s6, .int .u64 s7] w3 5 HR3.out
 have HB4 : Hid (Below w.heap.size w w4) := by rw [Hw4.out]; exact putC_below [.string sn, .string si, .string sm, .int .i64 sp, .slice va vn vc, .int .u64 s6, .int .u64 s7] w3 5 HB3.out (Nat.le_refl _)
 have HO4 : Hid (w4.ownsRow w.heap.size 9 1 (.slice va vn vc) tg.length (tg.map Value.string)) := by rw [Hw4.out]; exact row_putK HA3.out (by decide) HO3.out [.string sn, .string si, .string sm, .int .i64 sp, .slice va vn vc, .int .u64 s6, .int .u64 s7] 5
 rw [← Hw4.out]
 clear Hw4 HA3 HR3 HB3 HO3
 have HF : Hid (CopO w ⟨kd, ⟨nn, na, n3, n4⟩, ⟨sn, si, sm, sp, tg, s6, s7⟩, ⟨cn, ci, cs, ct, ce, c6, c7⟩, cas, wt⟩ (.returned (.agg #[.int .i64 kd, .string nn, .string na, .int .u64 n3, .int .u64 n4, .string sn, .string si, .string sm, .int .i64 sp, .slice va vn vc, .int .u64 s6, .int .u64 s7, .string cn, .string ci, .string cs, .int .i64 ct, .string ce, .int .u64 c6, .int .u64 c7, .bool cas, .int .u64 wt])) (w4.setRow (w.heap.size + 1) #[.int .i64 kd, .string nn, .string na, .int .u64 n3, .int .u64 n4, .string sn, .string si, .string sm, .int .i64 sp, .slice va vn vc, .int .u64 s6, .int .u64 s7, .string cn, .string ci, .string cs, .int .i64 ct, .string ce, .int .u64 c6, .int .u64 c7, .bool cas, .int .u64 wt])) := HFin.out _ _ (row_setRow HR4.out (by decide) HO4.out _) (below_setRow HB4.out (by omega) _)
 have HLd : Hid ((loadVar 47 ⟨(w.heap.size + 1), 0, none⟩).run Tryz.prog (w4.setRow (w.heap.size + 1) #[.int .i64 kd, .string nn, .string na, .int .u64 n3, .int .u64 n4, .string sn, .string si, .string sm, .int .i64 sp, .slice va vn vc, .int .u64 s6, .int .u64 s7, .string cn, .string ci, .string cs, .int .i64 ct, .string ce, .int .u64 c6, .int .u64 c7, .bool cas, .int .u64 wt]) = .ok (.agg #[.int .i64 kd, .string nn, .string na, .int .u64 n3, .int .u64 n4, .string sn, .string si, .string sm, .int .i64 sp, .slice va vn vc, .int .u64 s6, .int .u64 s7, .string cn, .string ci, .string cs, .int .i64 ct, .string ce, .int .u64 c6, .int .u64 c7, .bool cas, .int .u64 wt]) (w4.setRow (w.heap.size + 1) #[.int .i64 kd, .string nn, .string na, .int .u64 n3, .int .u64 n4, .string sn, .string si, .string sm, .int .i64 sp, .slice va vn vc, .int .u64 s6, .int .u64 s7, .string cn, .string ci, .string cs, .int .i64 ct, .string ce, .int .u64 c6, .int .u64 c7, .bool cas, .int .u64 wt])) := load_op (blk_setRow HR4.out _) rfl
 clear HB4 HO4 HFin
 go_upto_region 2 with fail
 iterate 2 go_step
 refine wp_get_op rfl HA4.out rfl rfl ?_
 iterate 2 go_step
 refine wp_put_op rfl HR4.out rfl rfl rfl rfl (by simp [Value.oneCell']) ?_
 go_wp2
 exact ret_box1 (g := (w.heap.size + 1)) (w := (w4.setRow (w.heap.size + 1) #[.int .i64 kd, .string nn, .string na, .int .u64 n3, .int .u64 n4, .string sn, .string si, .string sm, .int .i64 sp, .slice va vn vc, .int .u64 s6, .int .u64 s7, .string cn, .string ci, .string cs, .int .i64 ct, .string ce, .int .u64 c6, .int .u64 c7, .bool cas, .int .u64 wt])) rfl rfl rfl HLd.out HF.out
end Go.Proofs.YthgcnmilaifkoaaGreatDoor
