import Derived.Test.YtkpjfmnohdolaaaDoorJxSndI
import Derived.Test.YtkpjfmnohdolaaaDoorJxSnd3
import Derived.Test.YtkpjfmnohdolaaaDoorJxSnd2
import Derived.Test.YtkpjfmnohdolaaaDoorJxSnd4
import Derived.Test.YtkpjfmnohdolaaaDoorJxSnd5
import Derived.Test.YtkpjfmnohdolaaaDoorJxSnd6
/- Layer 18 (json): sound of one kind. -/
namespace Go.Proofs.YtkpjfmnohdolaaaDoor
open Go.RowKit Go.MapKept Go.Sort
set_option linter.unusedVariables false

set_option maxRecDepth 100000 in
set_option maxHeartbeats 4000000 in
theorem soundO_calls (k n : Int) (t : ByteArray) (d nl nc il ic : Nat) (na ia : Option Addr) (w : World) (h1 : k ≠ 1) (h2 : k ≠ 2) (h3 : k ≠ 3) (h4 : k ≠ 4) (h5 : k ≠ 5) (h6 : k ≠ 6) :
    Calls Tryd.prog 30 #[.agg (jC k n t (.slice na nl nc) (.slice ia il ic)), .int .i64 (d : Int)] w fun e w' => e = .returned (.bool false) ∧ Below w.heap.size w w' := by
  obtain ⟨w1, Hw1⟩ : ∃ w1, Hid (w1 = w.alloc (.cells #[.int .i64 k, .int .i64 n, .string t, .slice na nl nc, .slice ia il ic] 26)) := ⟨_, rfl⟩
  obtain ⟨g, Hg⟩ : ∃ g, Hid (g = w.heap.size) := ⟨_, rfl⟩
  have HB1 : Hid (Blk w1 g #[.int .i64 k, .int .i64 n, .string t, .slice na nl nc, .slice ia il ic] 26) := by rw [Hid, Hw1.out, Hg.out]; exact Blk.new _ _ _
  have HF1 : Hid (Below w.heap.size w w1) := by rw [Hid, Hw1.out]; exact below_new _ _
  obtain ⟨x0, x1, x2, x3, x4, -⟩ := Blk.five HB1.out
  have q1 : (k == 1) = false := by simpa using h1
  have q2 : (k == 2) = false := by simpa using h2
  have q3 : (k == 3) = false := by simpa using h3
  have q4 : (k == 4) = false := by simpa using h4
  have q5 : (k == 5) = false := by simpa using h5
  have q6 : (k == 6) = false := by simpa using h6
  clear h1 h2 h3 h4 h5 h6
  unfold jC
  go_enter Tryd.func30, Tryd.ntmps30
  go_upto_region 1 with fail
  rw [← Hw1.out, ← Hg.out]
  clear Hw1 Hg
  go_wp2
  go_ret
  exact ⟨rfl, HF1.out⟩
end Go.Proofs.YtkpjfmnohdolaaaDoor

/- Layer 18 (json): sound. -/
namespace Go.Proofs.YtkpjfmnohdolaaaDoor
open Go.RowKit Go.MapKept Go.Sort
set_option linter.unusedVariables false
theorem specS_of (k n : Int) (t : List UInt8) (ns : List (List UInt8)) (its : List Js) (IH : ∀ x ∈ its, SpecS x) : SpecS (.mk k n t ns its) := by
  intro d w S cs hd hr hj
  unfold Rng at hr
  obtain ⟨-, -, r3, r4, -, r6⟩ := hr
  unfold JAt at hj
  obtain ⟨na, nc, ia, ic, rfl, h2, h3, h4, h5⟩ := hj
  by_cases k1 : k = 1
  · subst k1; exact soundK1_calls n t ns its IH d _ nc _ ic na ia w S hd rfl rfl r3 r4 r6 h2 h5 h4
  by_cases k2 : k = 2
  · subst k2; exact soundK2_calls n t ns its IH d _ nc _ ic na ia w S hd rfl rfl r3 r4 r6 h2 h5 h4
  by_cases k3 : k = 3
  · subst k3; exact soundK3_calls n t ns its IH d _ nc _ ic na ia w S hd rfl rfl r3 r4 r6 h2 h5 h4
  by_cases k4 : k = 4
  · subst k4; exact soundK4_calls n t ns its IH d _ nc _ ic na ia w S hd rfl rfl r3 r4 r6 h2 h5 h4
  by_cases k5 : k = 5
  · subst k5; exact soundK5_calls n t ns its IH d _ nc _ ic na ia w S hd rfl rfl r3 r4 r6 h2 h5 h4
  by_cases k6 : k = 6
  · subst k6; exact soundK6_calls n t ns its IH d _ nc _ ic na ia w S hd rfl rfl r3 r4 r6 h2 h5 h4
  have hz : soundJ (.mk k n t ns its) d = false := by
    unfold soundJ
    simp [k1, k2, k3, k4, k5, k6]
  rw [hz]
  exact soundO_calls k n (nmB t) d _ nc _ ic na ia w k1 k2 k3 k4 k5 k6
mutual
theorem specS : ∀ v : Js, SpecS v
  | .mk k n t ns its => specS_of k n t ns its (specSs its)
theorem specSs : ∀ its : List Js, ∀ x ∈ its, SpecS x
  | [], x, hx => by cases hx
  | y :: ys, x, hx => by
    rcases List.mem_cons.1 hx with h | h
    · rw [h]; exact specS y
    · exact specSs ys x h
end
end Go.Proofs.YtkpjfmnohdolaaaDoor
