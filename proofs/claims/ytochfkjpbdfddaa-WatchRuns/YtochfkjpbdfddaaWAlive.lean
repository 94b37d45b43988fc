/- Layer 2 (watch): what the document fixes of one watch. -/
import Derived.Test.YtochfkjpbdfddaaWWatch
namespace Go.Proofs.Ytochfkjpbdfddaa
open Go.RowKit Go.Conc
set_option linter.unusedVariables false

/-- What the document fixes of one watch. -/
theorem alive_calls (w : World) : Calls Try.prog 4 #[] w fun e w' => e = .returned (.bool true) ∧ Below w.heap.size w w' := by
  have hnot : ∀ (x : Bool) (w : World), (Op.unary .not (.bool x)).run Try.prog w = .ok (.bool (!x)) w := fun _ _ => rfl
  go_enter Try.func4, Try.ntmps4
  go_wp2_with fail
  refine (new_calls w).mono ?_
  rintro e w1 ⟨rfl, hb1, hs1, hw1⟩
  go_wp2_with fail
  refine (fired_calls _ _ _ w1 hw1).mono ?_
  rintro e w2 ⟨rfl, rfl⟩
  go_wp2_with fail
  refine (fire_calls _ _ _ _ hw1).mono ?_
  rintro e w3 ⟨rfl, ht3, hw3⟩
  go_wp2_with fail
  refine (fired_calls _ _ _ w3 hw3).mono ?_
  rintro e w4 ⟨rfl, rfl⟩
  go_wp2_with fail
  refine (fire_calls _ _ _ _ hw3).mono ?_
  rintro e w5 ⟨rfl, ht5, hw5⟩
  go_wp2_with fail
  go_ret
  refine ⟨rfl, hb1.trans ((ht3.trans ht5).toBelow (by omega) ?_)⟩
  intro k hk
  simp only [List.mem_cons, List.not_mem_nil, or_false] at hk
  omega
end Go.Proofs.Ytochfkjpbdfddaa
