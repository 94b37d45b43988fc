/- Layer 17 (sched): the law on turns. -/
import Derived.Test.YtagdgecmoeacgaaScAlive
import Derived.Test.YtagdgecmoeacgaaScTurnM
namespace Go.Proofs.Ytagdgecmoeacgaa
open Go.RowKit
set_option linter.unusedVariables false
variable {S S' : Nat → Prop}

/-- The chooser is the law's own; so is the list, which is no block of the chooser's. -/
structure RdI (w : World) (S : Nat → Prop) (cb : Nat) (c : Ch) (g : Nat) (l : List Value) (wr : World) : Prop where
  own : Own1 w S cb c wr
  rd : VAt wr (some ⟨g, 0, none⟩) l
  ng : ¬ S g
  gl : g < wr.heap.size
theorem RdI.more {w wr w1 : World} {cb g : Nat} {c : Ch} {l : List Value} (h : RdI w S cb c g l wr) (hb : Below wr.heap.size wr w1) : RdI w S cb c g l w1 := ⟨h.own.more hb, h.rd.below hb, h.ng, Nat.lt_of_lt_of_le h.gl hb.size⟩
theorem RdI.next {w wr w1 : World} {cb g : Nat} {c c' : Ch} {l : List Value} (h : RdI w S cb c g l wr) (hc : ChAt w1 (fun k => S k ∨ (wr.heap.size ≤ k ∧ k < w1.heap.size)) cb c') (hf : Frm S wr w1) : RdI w (fun k => S k ∨ (wr.heap.size ≤ k ∧ k < w1.heap.size)) cb c' g l w1 :=
  ⟨h.own.next hc hf, h.rd.frm hf (fun a e => by cases e; exact h.ng), fun x => by
    rcases x with x | x
    · exact h.ng x
    · have := h.gl; omega, Nat.lt_of_lt_of_le h.gl hf.size⟩
/-- What append([]T{}, l...) makes: new memory. -/
theorem app_below {W W0 w' : World} {v v' : Value} (h0 : Below W0.heap.size W0 W) (hg : Grew W w' v v') (hv : ∀ k, v.ownBlock = some k → W0.heap.size ≤ k) : Below W0.heap.size W0 w' := h0.trans (hg.toBelow h0.size hv)
theorem Ow.shapeB {w : World} {B : Nat} {e : TypeId} {v : Value} {X : List Value} {l : List Bool} {n : Nat} (h : Ow w B e v X) (hX : X = l.map bV) (hn : l.length = n) : ∃ ao cap, v = .slice ao n cap ∧ VAt w ao (l.map bV) ∧ (∀ a, ao = some a → B ≤ a.block ∧ a.block < w.heap.size) ∧ (ao = none → cap = 0 ∧ n = 0) := by
  subst hX
  subst hn
  obtain ⟨ao, cap, e, h1, h2, -⟩ := h.shape
  rw [List.length_map] at e h1
  subst e
  exact ⟨ao, cap, rfl, h.v, fun a ea => (h.block a ea).2, fun en => ⟨h2 en, by have := h2 en; omega⟩⟩
theorem emptyB (W : World) (e : TypeId) : Ow (W.alloc (.cells #[] e)) W.heap.size e (.slice (some ⟨W.heap.size, 0, none⟩) 0 0) [] := World.ownsRow_lit (size := 1) W #[] 0 (Nat.le_refl _) (by unfold maxLen; omega) rfl
theorem set_true {m k : Nat} (hk : k < m) : (List.replicate k true ++ List.replicate (m - k) false).set k true = List.replicate (k + 1) true ++ List.replicate (m - (k + 1)) false := by
  rw [List.set_append_right _ _ (by simp), List.length_replicate, Nat.sub_self, show m - k = (m - (k + 1)) + 1 by omega, List.replicate_succ, List.set_cons_zero, List.replicate_succ', List.append_assoc]
  rfl
theorem okc_al {c : Ch} {n : Nat} {r : List Bool} (hn : r.length ≤ n) : (nextP c r).1.ages.length ≤ n := by rw [nextP_eq]; simp [ageP_length]; exact hn

end Go.Proofs.Ytagdgecmoeacgaa
