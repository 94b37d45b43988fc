/- What the answers of Encode and Decode say of each other. -/
import Derived.Test.YtehbclliiphglabKMath
namespace Go.Proofs.Ytehbclliiphglab
open Go.RowKit
set_option linter.unusedVariables false

theorem encAns_ok {op : Bool} {ps : List Pt} (h : (encAns op ps).2 = 0) : ps.all vldB = true ∧ (enc op ps).length ≤ 1024 ∧ (encAns op ps).1 = enc op ps := by
  unfold encAns at h ⊢
  split at h
  · split at h
    · rename_i h1 h2; rw [if_pos h1, if_pos h2]; exact ⟨h1, h2, rfl⟩
    · simp at h
  · simp at h
theorem encAns_mk {op : Bool} {ps : List Pt} (h1 : ps.all vldB = true) (h2 : (enc op ps).length ≤ 1024) : encAns op ps = (enc op ps, 0) := by
  unfold encAns; rw [if_pos h1, if_pos h2]
theorem encAns_err (op : Bool) (ps : List Pt) : (encAns op ps).2 = 0 ∨ ((encAns op ps).2 == 0) = false := by
  unfold encAns
  split
  · split
    · exact .inl rfl
    · exact .inr rfl
  · exact .inr rfl
theorem encAns_le (op : Bool) (ps : List Pt) : (encAns op ps).1.length ≤ 1024 := by
  unfold encAns
  split
  · split
    · assumption
    · simp
  · simp
theorem decAns_ok {l : List UInt8} (h : (decAns l).2 = 0) : l.length ≤ 1024 ∧ dec l = some (decAns l).1 := by
  unfold decAns at h ⊢
  split at h
  · simp at h
  · rename_i hl
    rw [if_neg hl]
    cases hd : dec l with
    | none => rw [hd] at h; simp at h
    | some ps => exact ⟨by omega, rfl⟩
theorem decAns_err (l : List UInt8) : (decAns l).2 = 0 ∨ (((decAns l).2 == 0) = false ∧ (decAns l).1 = []) := by
  unfold decAns
  split
  · exact .inr ⟨rfl, rfl⟩
  · cases dec l with
    | none => exact .inr ⟨rfl, rfl⟩
    | some ps => exact .inl rfl
theorem decAns_enc {ps : List Pt} (hv : ps.all vldB = true) (hl : (enc false ps).length ≤ 1024) (hn : ∀ p ∈ ps, p.wf) : decAns (enc false ps) = (ps, 0) := by
  unfold decAns
  rw [if_neg (by omega), dec_enc ps hv (fun p hp => (hn p hp).2.1)]

theorem enc_length_le (ps : List Pt) : ps.length ≤ (enc false ps).length := by
  induction ps with
  | nil => simp
  | cons p ps ih =>
    rw [enc_false_cons, List.length_append, List.length_cons]
    have : 0 < (piece p false).length := by
      unfold piece
      split
      · simp
      · split <;> simp
    omega

end Go.Proofs.Ytehbclliiphglab
