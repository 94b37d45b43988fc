/- Layer 18 (json): appendValue whole, by induction. -/
import Derived.Test.YtkpjfmnohdolaaaDoorJxApV4
import Derived.Test.YtkpjfmnohdolaaaDoorJxApV5
import Derived.Test.YtkpjfmnohdolaaaDoorJxApV6
namespace Go.Proofs.YtkpjfmnohdolaaaDoor
open Go.RowKit Go.MapKept Go.Sort
set_option linter.unusedVariables false
theorem specP_of (k n : Int) (t : List UInt8) (ns : List (List UInt8)) (its : List Js) (IH : ∀ x ∈ its, SpecP x) : SpecP (.mk k n t ns its) := by
  intro d w S cs B vt l hd hso hr hj hSB ho hl hB htab
  unfold JAt at hj
  obtain ⟨na, nc, ia, ic, rfl, h2, h3, h4, h5⟩ := hj
  by_cases k1 : k = 1
  · subst k1; exact appendV1_calls n t ns its IH d _ nc _ ic na ia w S B vt l hd rfl rfl hso hr h2 h3 h5 h4 hSB ho hl hB htab
  by_cases k2 : k = 2
  · subst k2; exact appendV2_calls n t ns its IH d _ nc _ ic na ia w S B vt l hd rfl rfl hso hr h2 h3 h5 h4 hSB ho hl hB htab
  by_cases k3 : k = 3
  · subst k3; exact appendV3_calls n t ns its IH d _ nc _ ic na ia w S B vt l hd rfl rfl hso hr h2 h3 h5 h4 hSB ho hl hB htab
  by_cases k4 : k = 4
  · subst k4; exact appendV4_calls n t ns its IH d _ nc _ ic na ia w S B vt l hd rfl rfl hso hr h2 h3 h5 h4 hSB ho hl hB htab
  by_cases k5 : k = 5
  · subst k5; exact appendV5_calls n t ns its IH d _ nc _ ic na ia w S B vt l hd rfl rfl hso hr h2 h3 h5 h4 hSB ho hl hB htab
  by_cases k6 : k = 6
  · subst k6; exact appendV6_calls n t ns its IH d _ nc _ ic na ia w S B vt l hd rfl rfl hso hr h2 h3 h5 h4 hSB ho hl hB htab
  have hz : soundJ (.mk k n t ns its) d = false := by
    unfold soundJ
    simp [k1, k2, k3, k4, k5, k6]
  rw [hz] at hso
  cases hso
mutual
theorem specP : ∀ v : Js, SpecP v
  | .mk k n t ns its => specP_of k n t ns its (specPs its)
theorem specPs : ∀ its : List Js, ∀ x ∈ its, SpecP x
  | [], x, hx => by cases hx
  | y :: ys, x, hx => by
    rcases List.mem_cons.1 hx with h | h
    · rw [h]; exact specP y
    · exact specPs ys x h
end
end Go.Proofs.YtkpjfmnohdolaaaDoor
