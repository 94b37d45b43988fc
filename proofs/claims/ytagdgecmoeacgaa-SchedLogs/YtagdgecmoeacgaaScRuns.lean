/- Layer 17 (sched): the law on every choice. -/
import Derived.Test.YtagdgecmoeacgaaScRunsM
namespace Go.Proofs.Ytagdgecmoeacgaa
open Go.RowKit
set_option linter.unusedVariables false
variable {S S' : Nat → Prop}

theorem RAt.take {w : World} {ao : Option Addr} {rs : List Bl} (h : RAt w ao rs) (q : Nat) : RAt w ao (rs.take q) := fun k hk => by
  have hk' : k < rs.length := by rw [List.length_take] at hk; omega
  have := h k hk'
  simpa [List.getElem_take] using this
theorem next_bound (c : Ch) (r : List Bool) : (nextP c r).1.bound = c.bound := by unfold nextP; split <;> rfl
theorem next_none {c : Ch} {r : List Bool} (h : (nextP c r).2.2 = false) : (nextP c r).2.1 = 0 := by
  rw [nextP_eq] at h ⊢
  exact choose_none h
/-- What the document's Next leaves, q being what it chooses. -/
def RefQ (w : World) (B : Nat) (bd : Int) (q : Ch × Nat × Bool) (H : List He) (r : List Bool) (e : Ending) (w' : World) : Prop :=
  ∃ (po' : Option Addr) (pc' : Nat) (ho' : Option Addr) (hc' : Nat) (x : He), e = .returned (.tuple #[.agg #[.slice po' q.1.picks.length pc', .int .i64 bd, .slice ho' (H.length + 1) hc'], .int .i64 (chI q)]) ∧ VAt w' po' (q.1.picks.map iV) ∧ q.1.picks.length ≤ pc' ∧ HsAt w' ho' (H ++ [x]) ∧ x.r = r ∧ x.ch = chI q ∧ (ho' = none → hc' = 0) ∧ H.length + 1 ≤ hc' ∧ Below w.heap.size w w' ∧ OldP B po' q.1.picks ∧ (∀ a, ho' = some a → w.heap.size ≤ a.block) ∧ (∀ a, x.ao = some a → w.heap.size ≤ a.block ∧ a.block < w'.heap.size)
/-- Each of the first k turned round. -/
def flipK (r : List Bool) (k : Nat) : List Bool := (r.take k).map (!·) ++ r.drop k
theorem flipK_zero (r : List Bool) : flipK r 0 = r := by simp [flipK]
theorem flipK_length (r : List Bool) (k : Nat) (h : k ≤ r.length) : (flipK r k).length = r.length := by simp [flipK]; omega
theorem flipK_at {r : List Bool} {k : Nat} (h : k < r.length) : (flipK r k)[k]? = some (r.getD k false) := by
  unfold flipK
  rw [List.getElem?_append_right (by simp; omega), List.getD_eq_getElem?_getD, List.getElem?_eq_getElem h]
  simp [List.length_take, Nat.min_eq_left (Nat.le_of_lt h), h]
theorem flipK_succ {r : List Bool} {k : Nat} (h : k < r.length) : (flipK r k).set k (!(r.getD k false)) = flipK r (k + 1) := by
  unfold flipK
  have hl : ((r.take k).map (!·)).length = k := by rw [List.length_map, List.length_take]; omega
  rw [List.set_append_right _ _ (by omega), hl, Nat.sub_self, List.drop_eq_getElem_cons h, List.set_cons_zero, List.take_succ_eq_append_getElem h, List.map_append, List.append_assoc]
  congr 1
  rw [List.getD_eq_getElem?_getD, List.getElem?_eq_getElem h]
  rfl

end Go.Proofs.Ytagdgecmoeacgaa
