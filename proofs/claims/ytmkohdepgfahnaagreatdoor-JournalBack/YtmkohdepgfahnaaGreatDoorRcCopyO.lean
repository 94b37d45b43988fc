import Derived.Test.YtmkohdepgfahnaaGreatDoorJPayOf
import Derived.Test.YtmkohdepgfahnaaGreatDoorJPay
import Derived.Test.YtmkohdepgfahnaaGreatDoorRcSameT
import Derived.Test.YtmkohdepgfahnaaGreatDoorRcCopyS
/- Layer 13 (journal): frames, plain: what payloadOf says of them, whole or with a byte changed. -/
namespace Go.Proofs.YtmkohdepgfahnaaGreatDoor
open Go.RowKit
set_option linter.unusedVariables false

def laidF (p S more : List UInt8) : List UInt8 := [77] ++ big 4 p.length ++ p ++ S ++ more
theorem laidF_length (p S more : List UInt8) (hS : S.length = 4) : (laidF p S more).length = p.length + 9 + more.length := by
  simp [laidF, big_length, hS]; omega
theorem laidF_drop1 (p S more : List UInt8) : (laidF p S more).drop 1 = big 4 p.length ++ (p ++ (S ++ more)) := by simp [laidF]
theorem laidF_drop5 (p S more : List UInt8) : (laidF p S more).drop 5 = p ++ (S ++ more) := by
  rw [show (5 : Nat) = 1 + 4 from rfl, ← List.drop_drop, laidF_drop1]
  exact List.drop_left' (big_length 4 _)
theorem laidF_len {p S more : List UInt8} (hp : p.length ≤ 131072) : lenB (laidF p S more) = p.length := by
  unfold lenB
  rw [laidF_drop1, List.take_left' (big_length 4 _)]
  have := unbig_big 4 (p.length : Int) (by omega) (by omega)
  omega
theorem laidF_pay {p S more : List UInt8} (hp : p.length ≤ 131072) : payP (laidF p S more) = p := by
  unfold payP
  rw [laidF_len hp, laidF_drop5]
  exact List.take_left' rfl
theorem laidF_sum {p S more : List UInt8} (hp : p.length ≤ 131072) (hS : S.length = 4) : payS (laidF p S more) = S := by
  unfold payS
  rw [laidF_len hp, laidF_drop5, List.drop_left' rfl]
  exact List.take_left' hS
theorem laidF_err {p S more : List UInt8} (hp : p.length ≤ 131072) (hS : S.length = 4) : payE (laidF p S more) = if unbig S ≠ sumB p then 132 else 0 := by
  have hl := laidF_length p S more hS
  unfold payE
  rw [laidF_len hp, laidF_pay hp, laidF_sum hp hS]
  rw [if_neg (by omega), if_neg (by simp [laidF]), if_neg (by omega), if_neg (by omega), if_neg (by omega)]
theorem sum_back (p : List UInt8) : unbig (big 4 (sumB p)) = sumB p := by
  have h := sumB_lt p
  have := unbig_big 4 (sumB p : Int) (by omega) (by omega)
  omega
theorem frame_laid (p : List UInt8) (more : List UInt8) : frameB p ++ more = laidF p (big 4 (sumB p)) more := rfl
theorem frame_err {p more : List UInt8} (hp : p.length ≤ 131072) : payE (frameB p ++ more) = 0 := by
  rw [frame_laid, laidF_err hp (big_length 4 _), sum_back, if_neg (by simp)]
theorem frame_pay {p more : List UInt8} (hp : p.length ≤ 131072) : payP (frameB p ++ more) = p := by
  rw [frame_laid, laidF_pay hp]
theorem frame_nil (p : List UInt8) : frameB p = frameB p ++ [] := (List.append_nil _).symm
/-- One byte changed, but for those of the length, is told. -/
theorem frame_flip {p : List UInt8} (hp : p.length ≤ 131072) {j : Nat} (hj : j < (frameB p).length) (h14 : ¬ (1 ≤ j ∧ j ≤ 4)) {c : UInt8} (hc : (frameB p)[j] ≠ c) : payE ((frameB p).set j c) = 132 := by
  have hfl : (frameB p).length = p.length + 9 := by simp [frameB, big_length]; omega
  have hb4 : (big 4 (p.length : Int)).length = 4 := big_length 4 _
  by_cases h0 : j = 0
  · subst h0
    have e : (frameB p).set 0 c = c :: (big 4 p.length ++ (p ++ big 4 (sumB p))) := by simp [frameB]
    have h77 : c ≠ 77 := by
      intro e2
      apply hc
      subst e2
      simp [frameB]
    rw [e]
    unfold payE
    rw [if_neg (by simp), if_pos (by simpa using h77)]
  · by_cases hjp : j < 5 + p.length
    · obtain ⟨k, rfl⟩ : ∃ k, j = 5 + k := ⟨j - 5, by omega⟩
      have hk : k < p.length := by omega
      have e : (frameB p).set (5 + k) c = laidF (p.set k c) (big 4 (sumB p)) [] := by
        have e1 : frameB p = ([77] ++ big 4 p.length) ++ (p ++ big 4 (sumB p)) := by simp [frameB]
        have hl1 : ([77] ++ big 4 (p.length : Int) : List UInt8).length = 5 := by simp [hb4]
        rw [e1, List.set_append_right _ _ (by omega), hl1, Nat.add_sub_cancel_left, List.set_append_left _ _ hk]
        simp [laidF]
      have hpk : p[k] ≠ c := by
        intro e2
        apply hc
        rw [← e2]
        have : (frameB p)[5 + k]? = p[k]? := by
          have e1 : frameB p = ([77] ++ big 4 p.length) ++ (p ++ big 4 (sumB p)) := by simp [frameB]
          have hl1 : ([77] ++ big 4 (p.length : Int) : List UInt8).length = 5 := by simp [hb4]
          rw [e1, List.getElem?_append_right (by omega), hl1, Nat.add_sub_cancel_left, List.getElem?_append_left hk]
        rw [List.getElem?_eq_getElem hj, List.getElem?_eq_getElem hk] at this
        exact Option.some.inj this
      rw [e, laidF_err (by rw [List.length_set]; exact hp) (big_length 4 _), sum_back, if_pos (fun e2 => sumB_set hk hpk e2.symm)]
    · obtain ⟨k, rfl⟩ : ∃ k, j = 5 + p.length + k := ⟨j - 5 - p.length, by omega⟩
      have hk : k < 4 := by omega
      have hS : (big 4 (sumB p : Int)).length = 4 := big_length 4 _
      have e1 : frameB p = ([77] ++ big 4 p.length ++ p) ++ big 4 (sumB p) := by simp [frameB]
      have hl1 : ([77] ++ big 4 (p.length : Int) ++ p : List UInt8).length = 5 + p.length := by simp [hb4]; omega
      have e : (frameB p).set (5 + p.length + k) c = laidF p ((big 4 (sumB p)).set k c) [] := by
        rw [e1, List.set_append_right _ _ (by omega), hl1, Nat.add_sub_cancel_left]
        simp [laidF]
      have hpk : (big 4 (sumB p : Int))[k]'(by omega) ≠ c := by
        intro e2
        apply hc
        rw [← e2]
        have : (frameB p)[5 + p.length + k]? = (big 4 (sumB p : Int))[k]? := by
          rw [e1, List.getElem?_append_right (by omega), hl1, Nat.add_sub_cancel_left]
        rw [List.getElem?_eq_getElem hj, List.getElem?_eq_getElem (by omega)] at this
        exact Option.some.inj this
      have hne : unbig ((big 4 (sumB p)).set k c) ≠ sumB p := by
        intro e2
        have h4 := big_unbig 4 ((big 4 (sumB p)).set k c) (by rw [List.length_set]; exact hS)
        rw [e2] at h4
        have h5 := congrArg (fun l : List UInt8 => l[k]?) h4
        simp only [List.getElem?_set_self (show k < (big 4 (sumB p : Int)).length by omega)] at h5
        rw [List.getElem?_eq_getElem (by omega)] at h5
        exact hpk (Option.some.inj h5)
      rw [e, laidF_err hp (by rw [List.length_set]; exact hS), if_pos hne]
end Go.Proofs.YtmkohdepgfahnaaGreatDoor

/- Layer 9 (records): the document's CopyOp. -/
namespace Go.Proofs.YtmkohdepgfahnaaGreatDoor
open Go.RowKit
set_option linter.unusedVariables false

/-- A copy of an operation is answered, its tags in memory of their own. -/
def CopO (w : World) (o : Opp) (e : Ending) (w' : World) : Prop := ∃ v, e = .returned (.agg (o.v v)) ∧ w'.ownsRow w.heap.size 9 1 v o.svc.tags.length (o.svc.tags.map Value.string) ∧ Below w.heap.size w w'

set_option maxRecDepth 100000 in
set_option maxHeartbeats 4000000 in
theorem copyOp_calls (o : Opp) (ta : Option Addr) (tc : Nat) (w : World) (hl : o.svc.tags.length ≤ 8796093022207) (hc : CellsAt w ta (o.svc.tags.map Value.string)) :
    Calls Tryz.prog 32 #[.agg (o.v (.slice ta o.svc.tags.length tc))] w fun e w' => CopO w o e w' := by
  have HC : Hid (∀ w', Below w.heap.size w w' → Calls Tryz.prog 44 #[.agg (o.svc.v (.slice ta o.svc.tags.length tc))] w' fun e w'' => CopA w' o.svc e w'') := fun w' h => copyService_calls o.svc ta tc w' hl (hc.below h)
  clear hc
  obtain ⟨kd, ⟨nn, na, n3, n4⟩, ⟨sn, si, sm, sp, tg, s6, s7⟩, ⟨cn, ci, cs, ct, ce, c6, c7⟩, cas, wt⟩ := o
  simp only [Opp.v, Sp.v] at *
  have HFin : Hid (∀ v w', w'.ownsRow w.heap.size 9 1 v tg.length (tg.map Value.string) → Below w.heap.size w w' → CopO w ⟨kd, ⟨nn, na, n3, n4⟩, ⟨sn, si, sm, sp, tg, s6, s7⟩, ⟨cn, ci, cs, ct, ce, c6, c7⟩, cas, wt⟩ (.returned (.agg #[.int .i64 kd, .string nn, .string na, .int .u64 n3, .int .u64 n4, .string sn, .string si, .string sm, .int .i64 sp, v, .int .u64 s6, .int .u64 s7, .string cn, .string ci, .string cs, .int .i64 ct, .string ce, .int .u64 c6, .int .u64 c7, .bool cas, .int .u64 wt])) w') := fun v w' h1 h2 => ⟨v, rfl, h1, h2⟩
  obtain ⟨tl, Htl⟩ : ∃ x, Hid (x = tg.length) := ⟨_, rfl⟩
  rw [← Htl.out] at HC hl ⊢
  obtain ⟨w2, Hw2⟩ : ∃ w2, Hid (w2 = (w.alloc (.cells #[.int .i64 kd, .string nn, .string na, .int .u64 n3, .int .u64 n4, .string sn, .string si, .string sm, .int .i64 sp, .slice ta tl tc, .int .u64 s6, .int .u64 s7, .string cn, .string ci, .string cs, .int .i64 ct, .string ce, .int .u64 c6, .int .u64 c7, .bool cas, .int .u64 wt] 55)).alloc (.cells #[.int .i64 0, .string ⟨#[]⟩, .string ⟨#[]⟩, .int .u64 0, .int .u64 0, .string ⟨#[]⟩, .string ⟨#[]⟩, .string ⟨#[]⟩, .int .i64 0, .slice none 0 0, .int .u64 0, .int .u64 0, .string ⟨#[]⟩, .string ⟨#[]⟩, .string ⟨#[]⟩, .int .i64 0, .string ⟨#[]⟩, .int .u64 0, .int .u64 0, .bool false, .int .u64 0] 55)) := ⟨_, rfl⟩
  have hz : (w.alloc (.cells #[.int .i64 kd, .string nn, .string na, .int .u64 n3, .int .u64 n4, .string sn, .string si, .string sm, .int .i64 sp, .slice ta tl tc, .int .u64 s6, .int .u64 s7, .string cn, .string ci, .string cs, .int .i64 ct, .string ce, .int .u64 c6, .int .u64 c7, .bool cas, .int .u64 wt] 55)).heap.size = w.heap.size + 1 := size_new _ _
  have HA2 : Hid (Blk w2 w.heap.size #[.int .i64 kd, .string nn, .string na, .int .u64 n3, .int .u64 n4, .string sn, .string si, .string sm, .int .i64 sp, .slice ta tl tc, .int .u64 s6, .int .u64 s7, .string cn, .string ci, .string cs, .int .i64 ct, .string ce, .int .u64 c6, .int .u64 c7, .bool cas, .int .u64 wt] 55) := by rw [Hw2.out]; exact (Blk.new _ _ _).alloc _
  have HR2 : Hid (Blk w2 (w.heap.size + 1) #[.int .i64 0, .string ⟨#[]⟩, .string ⟨#[]⟩, .int .u64 0, .int .u64 0, .string ⟨#[]⟩, .string ⟨#[]⟩, .string ⟨#[]⟩, .int .i64 0, .slice none 0 0, .int .u64 0, .int .u64 0, .string ⟨#[]⟩, .string ⟨#[]⟩, .string ⟨#[]⟩, .int .i64 0, .string ⟨#[]⟩, .int .u64 0, .int .u64 0, .bool false, .int .u64 0] 55) := by rw [Hw2.out, ← hz]; exact Blk.new _ _ _
  have HB2 : Hid (Below w.heap.size w w2) := by rw [Hw2.out]; exact (below_new w _).alloc (by rw [hz]; omega) _
  clear hz
  go_enter Tryz.func32, Tryz.ntmps32
  go_upto_region 1 with fail
  rw [← Hw2.out]
  clear Hw2
  iterate 5 go_step
  refine wp_get_part (n := 7) (l := [.string sn, .string si, .string sm, .int .i64 sp, .slice ta tl tc, .int .u64 s6, .int .u64 s7]) rfl HA2.out rfl rfl Tryz.underlying51 rfl size_svc ?_
  go_wp2_with fail
  refine (HC.out w2 HB2.out).mono ?_
  rintro e w3 ⟨v, rfl, ho3, hb3⟩
  obtain ⟨va, vn, vc, rfl⟩ : ∃ va vn vc, v = .slice va vn vc := by
    rcases ho3.2 with ⟨rfl, _⟩ | ⟨g, cap, cur, rfl, _⟩
    · exact ⟨_, _, _, rfl⟩
    · exact ⟨_, _, _, rfl⟩
  have HO3 : Hid (w3.ownsRow w.heap.size 9 1 (.slice va vn vc) tg.length (tg.map Value.string)) := row_weak HB2.out.size ho3
  have HA3 : Hid (Blk w3 w.heap.size #[.int .i64 kd, .string nn, .string na, .int .u64 n3, .int .u64 n4, .string sn, .string si, .string sm, .int .i64 sp, .slice ta tl tc, .int .u64 s6, .int .u64 s7, .string cn, .string ci, .string cs, .int .i64 ct, .string ce, .int .u64 c6, .int .u64 c7, .bool cas, .int .u64 wt] 55) := HA2.out.below hb3
  have HR3 : Hid (Blk w3 (w.heap.size + 1) #[.int .i64 0, .string ⟨#[]⟩, .string ⟨#[]⟩, .int .u64 0, .int .u64 0, .string ⟨#[]⟩, .string ⟨#[]⟩, .string ⟨#[]⟩, .int .i64 0, .slice none 0 0, .int .u64 0, .int .u64 0, .string ⟨#[]⟩, .string ⟨#[]⟩, .string ⟨#[]⟩, .int .i64 0, .string ⟨#[]⟩, .int .u64 0, .int .u64 0, .bool false, .int .u64 0] 55) := HR2.out.below hb3
  have HB3 : Hid (Below w.heap.size w w3) := HB2.out.trans (hb3.mono HB2.out.size)
  clear ho3 hb3 HA2 HR2 HB2 HC
  simp only [Sp.v]
  iterate 5 go_step
  refine wp_put_part (l := [.string sn, .string si, .string sm, .int .i64 sp, .slice va vn vc, .int .u64 s6, .int .u64 s7]) rfl HA3.out rfl rfl (by simp) size_svc (by simp [Value.oneCell']) ?_
  obtain ⟨w4, Hw4⟩ : ∃ w4, Hid (w4 = putC w3 w.heap.size 5 [.string sn, .string si, .string sm, .int .i64 sp, .slice va vn vc, .int .u64 s6, .int .u64 s7]) := ⟨_, rfl⟩
  have HA4 : Hid (Blk w4 w.heap.size #[.int .i64 kd, .string nn, .string na, .int .u64 n3, .int .u64 n4, .string sn, .string si, .string sm, .int .i64 sp, .slice va vn vc, .int .u64 s6, .int .u64 s7, .string cn, .string ci, .string cs, .int .i64 ct, .string ce, .int .u64 c6, .int .u64 c7, .bool cas, .int .u64 wt] 55) := by rw [Hw4.out]; exact putC_mid [.string sn, .string si, .string sm, .int .i64 sp, .slice va vn vc, .int .u64 s6, .int .u64 s7] w3 5 _ HA3.out (by simp)
  have HR4 : Hid (Blk w4 (w.heap.size + 1) #[.int .i64 0, .string ⟨#[]⟩, .string ⟨#[]⟩, .int .u64 0, .int .u64 0, .string ⟨#[]⟩, .string ⟨#[]⟩, .string ⟨#[]⟩, .int .i64 0, .slice none 0 0, .int .u64 0, .int .u64 0, .string ⟨#[]⟩, .string ⟨#[]⟩, .string ⟨#[]⟩, .int .i64 0, .string ⟨#[]⟩, .int .u64 0, .int .u64 0, .bool false, .int .u64 0] 55) := by rw [Hw4.out]; exact putC_other (by omega) [.string sn, .string si, .string sm, .int .i64 sp, .slice va vn vc, .int .u64 s6, .int .u64 s7] w3 5 HR3.out
  have HB4 : Hid (Below w.heap.size w w4) := by rw [Hw4.out]; exact putC_below [.string sn, .string si, .string sm, .int .i64 sp, .slice va vn vc, .int .u64 s6, .int .u64 s7] w3 5 HB3.out (Nat.le_refl _)
  have HO4 : Hid (w4.ownsRow w.heap.size 9 1 (.slice va vn vc) tg.length (tg.map Value.string)) := by rw [Hw4.out]; exact row_putK HA3.out (by decide) HO3.out [.string sn, .string si, .string sm, .int .i64 sp, .slice va vn vc, .int .u64 s6, .int .u64 s7] 5
  rw [← Hw4.out]
  clear Hw4 HA3 HR3 HB3 HO3
  have HF : Hid (CopO w ⟨kd, ⟨nn, na, n3, n4⟩, ⟨sn, si, sm, sp, tg, s6, s7⟩, ⟨cn, ci, cs, ct, ce, c6, c7⟩, cas, wt⟩ (.returned (.agg #[.int .i64 kd, .string nn, .string na, .int .u64 n3, .int .u64 n4, .string sn, .string si, .string sm, .int .i64 sp, .slice va vn vc, .int .u64 s6, .int .u64 s7, .string cn, .string ci, .string cs, .int .i64 ct, .string ce, .int .u64 c6, .int .u64 c7, .bool cas, .int .u64 wt])) (w4.setRow (w.heap.size + 1) #[.int .i64 kd, .string nn, .string na, .int .u64 n3, .int .u64 n4, .string sn, .string si, .string sm, .int .i64 sp, .slice va vn vc, .int .u64 s6, .int .u64 s7, .string cn, .string ci, .string cs, .int .i64 ct, .string ce, .int .u64 c6, .int .u64 c7, .bool cas, .int .u64 wt])) := HFin.out _ _ (row_setRow HR4.out (by decide) HO4.out _) (below_setRow HB4.out (by omega) _)
  have HLd : Hid ((loadVar 55 ⟨(w.heap.size + 1), 0, none⟩).run Tryz.prog (w4.setRow (w.heap.size + 1) #[.int .i64 kd, .string nn, .string na, .int .u64 n3, .int .u64 n4, .string sn, .string si, .string sm, .int .i64 sp, .slice va vn vc, .int .u64 s6, .int .u64 s7, .string cn, .string ci, .string cs, .int .i64 ct, .string ce, .int .u64 c6, .int .u64 c7, .bool cas, .int .u64 wt]) = .ok (.agg #[.int .i64 kd, .string nn, .string na, .int .u64 n3, .int .u64 n4, .string sn, .string si, .string sm, .int .i64 sp, .slice va vn vc, .int .u64 s6, .int .u64 s7, .string cn, .string ci, .string cs, .int .i64 ct, .string ce, .int .u64 c6, .int .u64 c7, .bool cas, .int .u64 wt]) (w4.setRow (w.heap.size + 1) #[.int .i64 kd, .string nn, .string na, .int .u64 n3, .int .u64 n4, .string sn, .string si, .string sm, .int .i64 sp, .slice va vn vc, .int .u64 s6, .int .u64 s7, .string cn, .string ci, .string cs, .int .i64 ct, .string ce, .int .u64 c6, .int .u64 c7, .bool cas, .int .u64 wt])) := load_op (blk_setRow HR4.out _) rfl
  clear HB4 HO4 HFin
  go_upto_region 2 with fail
  iterate 2 go_step
  refine wp_get_op rfl HA4.out rfl rfl ?_
  iterate 2 go_step
  refine wp_put_op rfl HR4.out rfl rfl rfl rfl (by simp [Value.oneCell']) ?_
  go_wp2
  exact ret_box1 (g := (w.heap.size + 1)) (w := (w4.setRow (w.heap.size + 1) #[.int .i64 kd, .string nn, .string na, .int .u64 n3, .int .u64 n4, .string sn, .string si, .string sm, .int .i64 sp, .slice va vn vc, .int .u64 s6, .int .u64 s7, .string cn, .string ci, .string cs, .int .i64 ct, .string ce, .int .u64 c6, .int .u64 c7, .bool cas, .int .u64 wt])) rfl rfl rfl HLd.out HF.out
end Go.Proofs.YtmkohdepgfahnaaGreatDoor
