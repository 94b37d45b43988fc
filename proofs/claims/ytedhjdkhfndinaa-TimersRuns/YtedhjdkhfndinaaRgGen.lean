/- Single operations in whatever frame, for regions that draw their order (RgInv), of every seat: moves, picks. -/
import Derived.Test.YtedhjdkhfndinaaRgInv
namespace Go.Proofs.Ytedhjdkhfndinaa
open Go.RowKit
set_option linter.unusedVariables false

theorem add_off (g j : Nat) : (⟨g, 0, none⟩ : Addr).add j = ⟨g, j, none⟩ := by
  by_cases hj : j = 0
  · subst hj
    simp [Addr.add]
  · simp [Addr.add, hj]
section
variable {P : Program} {o : Oper} {a : Act} {W : World} {K : Act → World → Prop} {Q : Exit → Act → World → Prop}
theorem f_move {x : Operand} {v : Value} (ho : o.op = .move x) (hx : a.eval x = v) (h : K (a.put o.dst v) W) : o.wp P a W K Q :=
  wp_valF (v := v) (by unfold execOp; simp only [ho, hx]; rfl) h
theorem f_pick {c x y : Operand} {v : Value} (ho : o.op = .pick c x y) (hc : a.eval c = .bool true) (hx : a.eval x = v) (h : K (a.put o.dst v) W) : o.wp P a W K Q :=
  wp_valF (v := v) (by unfold execOp; simp only [ho, hc, hx]; simp [asBool, go_sem]) h
theorem f_pickF {c x y : Operand} {v : Value} (ho : o.op = .pick c x y) (hc : a.eval c = .bool false) (hx : a.eval y = v) (h : K (a.put o.dst v) W) : o.wp P a W K Q :=
  wp_valF (v := v) (by unfold execOp; simp only [ho, hc, hx]; simp [asBool, go_sem]) h
end
end Go.Proofs.Ytedhjdkhfndinaa
