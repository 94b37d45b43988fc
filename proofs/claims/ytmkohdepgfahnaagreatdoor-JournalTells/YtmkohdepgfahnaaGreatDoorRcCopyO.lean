/- Layer 9 (records): the document's CopyOp. -/
import Derived.Test.YtmkohdepgfahnaaGreatDoorRcSameT
import Derived.Test.YtmkohdepgfahnaaGreatDoorRcCopyS
namespace Go.Proofs.YtmkohdepgfahnaaGreatDoor
open Go.RowKit
set_option linter.unusedVariables false

/-- A copy of an operation is answered, its tags in memory of their own. -/
def CopO (w : World) (o : Opp) (e : Ending) (w' : World) : Prop := ∃ v, e = .returned (.agg (o.v v)) ∧ w'.ownsRow w.heap.size 9 1 v o.svc.tags.length (o.svc.tags.map Value.string) ∧ Below w.heap.size w w'

set_option maxRecDepth 100000 in
set_option maxHeartbeats 4000000 in
theorem copyOp_calls (o : Opp) (ta : Option Addr) (tc : Nat) (w : World) (hl : o.svc.tags.length ≤ 8796093022207) (hc : CellsAt w ta (o.svc.tags.map Value.string)) :
    Calls Tryz.prog 32 #[.agg (o.v (.slice ta o.svc.tags.length tc))] w fun e w' => CopO w o e w' := by
  have HC : Hid (∀ w', Below w.heap.size w w' → Calls Tryz.prog 44 #[.agg (o.svc.v (.slice ta o.svc.tags.length tc))] w' fun e w'' => CopA w' o.svc e w'') := fun w' h => copyService_calls o.svc ta tc w' hl (hc.below h)
  clear hc
  obtain ⟨kd, ⟨nn, na, n3, n4⟩, ⟨sn, si, sm, sp, tg, s6, s7⟩, ⟨cn, ci, cs, ct, ce, c6, c7⟩, cas, wt⟩ := o
  simp only [Opp.v, Sp.v] at *
  have HFin : Hid (∀ v w', w'.ownsRow w.heap.size 9 1 v tg.length (tg.map Value.string) → Below w.heap.size w w' → CopO w ⟨kd, ⟨nn, na, n3, n4⟩, ⟨sn, si, sm, sp, tg, s6, s7⟩, ⟨cn, ci, cs, ct, ce, c6, c7⟩, cas, wt⟩ (.returned (.agg #[.int .i64 kd, .string nn, .string na, .int .u64 n3, .int .u64 n4, .string sn, .string si, .string sm, .int .i64 sp, v, .int .u64 s6, .int .u64 s7, .string cn, .string ci, .string cs, .int .i64 ct, .string ce, .int .u64 c6, .int .u64 c7, .bool cas, .int .u64 wt])) w') := fun v w' h1 h2 => ⟨v, rfl, h1, h2⟩
  obtain ⟨tl, Htl⟩ : ∃ x, Hid (x = tg.length) := ⟨_, rfl⟩
  rw [← Htl.out] at HC hl ⊢
  obtain ⟨w2, Hw2⟩ : ∃ w2, Hid (w2 = (w.alloc (.cells #[.int .i64 kd, .string nn, .string na, .int .u64 n3, .int .u64 n4, .string sn, .string si, .string sm, .int .i64 sp, .slice ta tl tc, .int .u64 s6, .int .u64 s7, .string cn, .string ci, .string cs, .int .i64 ct, .string ce, .int .u64 c6, .int .u64 c7, .bool cas, .int .u64 wt] 55)).alloc (.cells #[.int .i64 0, .string ⟨#[]⟩, .string ⟨#[]⟩, .int .u64 0, .int .u64 0, .string ⟨#[]⟩, .string ⟨#[]⟩, .string ⟨#[]⟩, .int .i64 0, .slice none 0 0, .int .u64 0, .int .u64 0, .string ⟨#[]⟩, .string ⟨#[]⟩, .string ⟨#[]⟩, .int .i64 0, .string ⟨#[]⟩, .int .u64 0, .int .u64 0, .bool false, .int .u64 0] 55)) := ⟨_, rfl⟩
  have hz : (w.alloc (.cells #[.int .i64 kd, .string nn, .string na, .int .u64 n3, .int .u64 n4, .string sn, .string si, .string sm, .int .i64 sp, .slice ta tl tc, .int .u64 s6, .int .u64 s7, .string cn, .string ci, .string cs, .int .i64 ct, .string ce, .int .u64 c6, .int .u64 c7, .bool cas, .int .u64 wt] 55)).heap.size = w.heap.size + 1 := size_new _ _
  have HA2 : Hid (Blk w2 w.heap.size #[.int .i64 kd, .string nn, .string na, .int .u64 n3, .int .u64 n4, .string sn, .string si, .string sm, .int .i64 sp, .slice ta tl tc, .int .u64 s6, .int .u64 s7, .string cn, .string ci, .string cs, .int .i64 ct, .string ce, .int .u64 c6, .int .u64 c7, .bool cas, .int .u64 wt] 55) := by rw [Hw2.out]; exact (Blk.new _ _ _).alloc _
  have HR2 : Hid (Blk w2 (w.heap.size + 1) #[.int .i64 0, .string ⟨#[]⟩, .string ⟨#[]⟩, .int .u64 0, .int .u64 0, .string ⟨#[]⟩, .string ⟨#[]⟩, .string ⟨#[]⟩, .int .i64 0, .slice none 0 0, .int .u64 0, .int .u64 0, .string ⟨#[]⟩, .string ⟨#[]⟩, .string ⟨#[]⟩, .int .i64 0, .string ⟨#[]⟩, .int .u64 0, .int .u64 0, .bool false, .int .u64 0] 55) := by rw [Hw2.out, ← hz]; exact Blk.new _ _ _
  have HB2 : Hid (Below w.heap.size w w2) := by rw [Hw2.out]; exact (below_new w _).alloc (by rw [hz]; omega) _
  clear hz
  go_enter Tryz.func32, Tryz.ntmps32
  go_upto_region 1 with fail
  rw [← Hw2.out]
  clear Hw2
  iterate 5 go_step
  refine wp_get_part (n := 7) (l := [.string sn, .string si, .string sm, .int .i64 sp, .slice ta tl tc, .int .u64 s6, .int .u64 s7]) rfl HA2.out rfl rfl Tryz.underlying51 rfl size_svc ?_
  go_wp2_with fail
  refine (HC.out w2 HB2.out).mono ?_
  rintro e w3 ⟨v, rfl, ho3, hb3⟩
  obtain ⟨va, vn, vc, rfl⟩ : ∃ va vn vc, v = .slice va vn vc := by
    rcases ho3.2 with ⟨rfl, _⟩ | ⟨g, cap, cur, rfl, _⟩
    · exact ⟨_, _, _, rfl⟩
    · exact ⟨_, _, _, rfl⟩
  have HO3 : Hid (w3.ownsRow w.heap.size 9 1 (.slice va vn vc) tg.length (tg.map Value.string)) := row_weak HB2.out.size ho3
  have HA3 : Hid (Blk w3 w.heap.size #[.int .i64 kd, .string nn, .string na, .int .u64 n3, .int .u64 n4, .string sn, .string si, .string sm, .int .i64 sp, .slice ta tl tc, .int .u64 s6, .int .u64 s7, .string cn, .string ci, .string cs, .int .i64 ct, .string ce, .int .u64 c6, .int .u64 c7, .bool cas, .int .u64 wt] 55) := HA2.out.below hb3
  have HR3 : Hid (Blk w3 (w.heap.size + 1) #[.int .i64 0, .string ⟨#[]⟩, .string ⟨#[]⟩, .int .u64 0, .int .u64 0, .string ⟨#[]⟩, .string ⟨#[]⟩, .string ⟨#[]⟩, .int .i64 0, .slice none 0 0, .int .u64 0, .int .u64 0, .string ⟨#[]⟩, .string ⟨#[]⟩, .string ⟨#[]⟩, .int .i64 0, .string ⟨#[]⟩, .int .u64 0, .int .u64 0, .bool false, .int .u64 0] 55) := HR2.out.below hb3
  have HB3 : Hid (Below w.heap.size w w3) := HB2.out.trans (hb3.mono HB2.out.size)
  clear ho3 hb3 HA2 HR2 HB2 HC
  simp only [Sp.v]
  iterate 5 go_step
  refine wp_put_part (l := [.string sn, .string si, .string sm, .int .i64 sp, .slice va vn vc, .int .u64 s6, .int .u64 s7]) rfl HA3.out rfl rfl (by simp) size_svc (by simp [Value.oneCell']) ?_
  obtain ⟨w4, Hw4⟩ : ∃ w4, Hid (w4 = putC w3 w.heap.size 5 [.string sn, .string si, .string sm, .int .i64 sp, .slice va vn vc, .int .u64 s6, .int .u64 s7]) := ⟨_, rfl⟩
  have HA4 : Hid (Blk w4 w.heap.size #[.int .i64 kd, .string nn, .string na, .int .u64 n3, .int .u64 n4, .string sn, .string si, .string sm, .int .i64 sp, .slice va vn vc, .int .u64 s6, .int .u64 s7, .string cn, .string ci, .string cs, .int .i64 ct, .string ce, .int .u64 c6, .int .u64 c7, .bool cas, .int .u64 wt] 55) := by rw [Hw4.out]; exact putC_mid [.string sn, .string si, .string sm, .int .i64 sp, .slice va vn vc, .int .u64 s6, .int .u64 s7] w3 5 _ HA3.out (by simp)
  have HR4 : Hid (Blk w4 (w.heap.size + 1) #[.int .i64 0, .string ⟨#[]⟩, .string ⟨#[]⟩, .int .u64 0, .int .u64 0, .string ⟨#[]⟩, .string ⟨#[]⟩, .string ⟨#[]⟩, .int .i64 0, .slice none 0 0, .int .u64 0, .int .u64 0, .string ⟨#[]⟩, .string ⟨#[]⟩, .string ⟨#[]⟩, .int .i64 0, .string ⟨#[]⟩, .int .u64 0, .int .u64 0, .bool false, .int .u64 0] 55) := by rw [Hw4.out]; exact putC_other (by omega) [.string sn, .string si, .string sm, .int .i64 sp, .slice va vn vc, .int .u64 s6, .int .u64 s7] w3 5 HR3.out
  have HB4 : Hid (Below w.heap.size w w4) := by rw [Hw4.out]; exact putC_below [.string sn, .string si, .string sm, .int .i64 sp, .slice va vn vc, .int .u64 s6, .int .u64 s7] w3 5 HB3.out (Nat.le_refl _)
  have HO4 : Hid (w4.ownsRow w.heap.size 9 1 (.slice va vn vc) tg.length (tg.map Value.string)) := by rw [Hw4.out]; exact row_putK HA3.out (by decide) HO3.out [.string sn, .string si, .string sm, .int .i64 sp, .slice va vn vc, .int .u64 s6, .int .u64 s7] 5
  rw [← Hw4.out]
  clear Hw4 HA3 HR3 HB3 HO3
  have HF : Hid (CopO w ⟨kd, ⟨nn, na, n3, n4⟩, ⟨sn, si, sm, sp, tg, s6, s7⟩, ⟨cn, ci, cs, ct, ce, c6, c7⟩, cas, wt⟩ (.returned (.agg #[.int .i64 kd, .string nn, .string na, .int .u64 n3, .int .u64 n4, .string sn, .string si, .string sm, .int .i64 sp, .slice va vn vc, .int .u64 s6, .int .u64 s7, .string cn, .string ci, .string cs, .int .i64 ct, .string ce, .int .u64 c6, .int .u64 c7, .bool cas, .int .u64 wt])) (w4.setRow (w.heap.size + 1) #[.int .i64 kd, .string nn, .string na, .int .u64 n3, .int .u64 n4, .string sn, .string si, .string sm, .int .i64 sp, .slice va vn vc, .int .u64 s6, .int .u64 s7, .string cn, .string ci, .string cs, .int .i64 ct, .string ce, .int .u64 c6, .int .u64 c7, .bool cas, .int .u64 wt])) := HFin.out _ _ (row_setRow HR4.out (by decide) HO4.out _) (below_setRow HB4.out (by omega) _)
  have HLd : Hid ((loadVar 55 ⟨(w.heap.size + 1), 0, none⟩).run Tryz.prog (w4.setRow (w.heap.size + 1) #[.int .i64 kd, .string nn, .string na, .int .u64 n3, .int .u64 n4, .string sn, .string si, .string sm, .int .i64 sp, .slice va vn vc, .int .u64 s6, .int .u64 s7, .string cn, .string ci, .string cs, .int .i64 ct, .string ce, .int .u64 c6, .int .u64 c7, .bool cas, .int .u64 wt]) = .ok (.agg #[.int .i64 kd, .string nn, .string na, .int .u64 n3, .int .u64 n4, .string sn, .string si, .string sm, .int .i64 sp, .slice va vn vc, .int .u64 s6, .int .u64 s7, .string cn, .string ci, .string cs, .int .i64 ct, .string ce, .int .u64 c6, .int .u64 c7, .bool cas, .int .u64 wt]) (w4.setRow (w.heap.size + 1) #[.int .i64 kd, .string nn, .string na, .int .u64 n3, .int .u64 n4, .string sn, .string si, .string sm, .int .i64 sp, .slice va vn vc, .int .u64 s6, .int .u64 s7, .string cn, .string ci, .string cs, .int .i64 ct, .string ce, .int .u64 c6, .int .u64 c7, .bool cas, .int .u64 wt])) := load_op (blk_setRow HR4.out _) rfl
  clear HB4 HO4 HFin
  go_upto_region 2 with fail
  iterate 2 go_step
  refine wp_get_op rfl HA4.out rfl rfl ?_
  iterate 2 go_step
  refine wp_put_op rfl HR4.out rfl rfl rfl rfl (by simp [Value.oneCell']) ?_
  go_wp2
  exact ret_box1 (g := (w.heap.size + 1)) (w := (w4.setRow (w.heap.size + 1) #[.int .i64 kd, .string nn, .string na, .int .u64 n3, .int .u64 n4, .string sn, .string si, .string sm, .int .i64 sp, .slice va vn vc, .int .u64 s6, .int .u64 s7, .string cn, .string ci, .string cs, .int .i64 ct, .string ce, .int .u64 c6, .int .u64 c7, .bool cas, .int .u64 wt])) rfl rfl rfl HLd.out HF.out
end Go.Proofs.YtmkohdepgfahnaaGreatDoor
