/- Layer 13 (journal): frames, plain: what payloadOf says of them, whole or with a byte changed. -/
import Derived.Test.YtmkohdepgfahnaaGreatDoorJPayOf
import Derived.Test.YtmkohdepgfahnaaGreatDoorJPay
namespace Go.Proofs.YtmkohdepgfahnaaGreatDoor
open Go.RowKit
set_option linter.unusedVariables false

def laidF (p S more : List UInt8) : List UInt8 := [77] ++ big 4 p.length ++ p ++ S ++ more
theorem laidF_length (p S more : List UInt8) (hS : S.length = 4) : (laidF p S more).length = p.length + 9 + more.length := by
  simp [laidF, big_length, hS]; omega
theorem laidF_drop1 (p S more : List UInt8) : (laidF p S more).drop 1 = big 4 p.length ++ (p ++ (S ++ more)) := by simp [laidF]
theorem laidF_drop5 (p S more : List UInt8) : (laidF p S more).drop 5 = p ++ (S ++ more) := by
  rw [show (5 : Nat) = 1 + 4 from rfl, ← List.drop_drop, laidF_drop1]
  exact List.drop_left' (big_length 4 _)
theorem laidF_len {p S more : List UInt8} (hp : p.length ≤ 131072) : lenB (laidF p S more) = p.length := by
  unfold lenB
  rw [laidF_drop1, List.take_left' (big_length 4 _)]
  have := unbig_big 4 (p.length : Int) (by omega) (by omega)
  omega
theorem laidF_pay {p S more : List UInt8} (hp : p.length ≤ 131072) : payP (laidF p S more) = p := by
  unfold payP
  rw [laidF_len hp, laidF_drop5]
  exact List.take_left' rfl
theorem laidF_sum {p S more : List UInt8} (hp : p.length ≤ 131072) (hS : S.length = 4) : payS (laidF p S more) = S := by
  unfold payS
  rw [laidF_len hp, laidF_drop5, List.drop_left' rfl]
  exact List.take_left' hS
theorem laidF_err {p S more : List UInt8} (hp : p.length ≤ 131072) (hS : S.length = 4) : payE (laidF p S more) = if unbig S ≠ sumB p then 132 else 0 := by
  have hl := laidF_length p S more hS
  unfold payE
  rw [laidF_len hp, laidF_pay hp, laidF_sum hp hS]
  rw [if_neg (by omega), if_neg (by simp [laidF]), if_neg (by omega), if_neg (by omega), if_neg (by omega)]
theorem sum_back (p : List UInt8) : unbig (big 4 (sumB p)) = sumB p := by
  have h := sumB_lt p
  have := unbig_big 4 (sumB p : Int) (by omega) (by omega)
  omega
theorem frame_laid (p : List UInt8) (more : List UInt8) : frameB p ++ more = laidF p (big 4 (sumB p)) more := rfl
theorem frame_err {p more : List UInt8} (hp : p.length ≤ 131072) : payE (frameB p ++ more) = 0 := by
  rw [frame_laid, laidF_err hp (big_length 4 _), sum_back, if_neg (by simp)]
theorem frame_pay {p more : List UInt8} (hp : p.length ≤ 131072) : payP (frameB p ++ more) = p := by
  rw [frame_laid, laidF_pay hp]
theorem frame_nil (p : List UInt8) : frameB p = frameB p ++ [] := (List.append_nil _).symm
/-- One byte changed, but for those of the length, is told. -/
theorem frame_flip {p : List UInt8} (hp : p.length ≤ 131072) {j : Nat} (hj : j < (frameB p).length) (h14 : ¬ (1 ≤ j ∧ j ≤ 4)) {c : UInt8} (hc : (frameB p)[j] ≠ c) : payE ((frameB p).set j c) = 132 := by
  have hfl : (frameB p).length = p.length + 9 := by simp [frameB, big_length]; omega
  have hb4 : (big 4 (p.length : Int)).length = 4 := big_length 4 _
  by_cases h0 : j = 0
  · subst h0
    have e : (frameB p).set 0 c = c :: (big 4 p.length ++ (p ++ big 4 (sumB p))) := by simp [frameB]
    have h77 : c ≠ 77 := by
      intro e2
      apply hc
      subst e2
      simp [frameB]
    rw [e]
    unfold payE
    rw [if_neg (by simp), if_pos (by simpa using h77)]
  · by_cases hjp : j < 5 + p.length
    · obtain ⟨k, rfl⟩ : ∃ k, j = 5 + k := ⟨j - 5, by omega⟩
      have hk : k < p.length := by omega
      have e : (frameB p).set (5 + k) c = laidF (p.set k c) (big 4 (sumB p)) [] := by
        have e1 : frameB p = ([77] ++ big 4 p.length) ++ (p ++ big 4 (sumB p)) := by simp [frameB]
        have hl1 : ([77] ++ big 4 (p.length : Int) : List UInt8).length = 5 := by simp [hb4]
        rw [e1, List.set_append_right _ _ (by omega), hl1, Nat.add_sub_cancel_left, List.set_append_left _ _ hk]
        simp [laidF]
      have hpk : p[k] ≠ c := by
        intro e2
        apply hc
        rw [← e2]
        have : (frameB p)[5 + k]? = p[k]? := by
          have e1 : frameB p = ([77] ++ big 4 p.length) ++ (p ++ big 4 (sumB p)) := by simp [frameB]
          have hl1 : ([77] ++ big 4 (p.length : Int) : List UInt8).length = 5 := by simp [hb4]
          rw [e1, List.getElem?_append_right (by omega), hl1, Nat.add_sub_cancel_left, List.getElem?_append_left hk]
        rw [List.getElem?_eq_getElem hj, List.getElem?_eq_getElem hk] at this
        exact Option.some.inj this
      rw [e, laidF_err (by rw [List.length_set]; exact hp) (big_length 4 _), sum_back, if_pos (fun e2 => sumB_set hk hpk e2.symm)]
    · obtain ⟨k, rfl⟩ : ∃ k, j = 5 + p.length + k := ⟨j - 5 - p.length, by omega⟩
      have hk : k < 4 := by omega
      have hS : (big 4 (sumB p : Int)).length = 4 := big_length 4 _
      have e1 : frameB p = ([77] ++ big 4 p.length ++ p) ++ big 4 (sumB p) := by simp [frameB]
      have hl1 : ([77] ++ big 4 (p.length : Int) ++ p : List UInt8).length = 5 + p.length := by simp [hb4]; omega
      have e : (frameB p).set (5 + p.length + k) c = laidF p ((big 4 (sumB p)).set k c) [] := by
        rw [e1, List.set_append_right _ _ (by omega), hl1, Nat.add_sub_cancel_left]
        simp [laidF]
      have hpk : (big 4 (sumB p : Int))[k]'(by omega) ≠ c := by
        intro e2
        apply hc
        rw [← e2]
        have : (frameB p)[5 + p.length + k]? = (big 4 (sumB p : Int))[k]? := by
          rw [e1, List.getElem?_append_right (by omega), hl1, Nat.add_sub_cancel_left]
        rw [List.getElem?_eq_getElem hj, List.getElem?_eq_getElem (by omega)] at this
        exact Option.some.inj this
      have hne : unbig ((big 4 (sumB p)).set k c) ≠ sumB p := by
        intro e2
        have h4 := big_unbig 4 ((big 4 (sumB p)).set k c) (by rw [List.length_set]; exact hS)
        rw [e2] at h4
        have h5 := congrArg (fun l : List UInt8 => l[k]?) h4
        simp only [List.getElem?_set_self (show k < (big 4 (sumB p : Int)).length by omega)] at h5
        rw [List.getElem?_eq_getElem (by omega)] at h5
        exact hpk (Option.some.inj h5)
      rw [e, laidF_err hp (by rw [List.length_set]; exact hS), if_pos hne]
end Go.Proofs.YtmkohdepgfahnaaGreatDoor
