/- Layer 17 (sched): the law on waiting. -/
import Derived.Test.YtagdgecmoeacgaaScPicks
import Derived.Test.YtagdgecmoeacgaaScFairM
import Derived.Deep.CutRange
namespace Go.Proofs.Ytagdgecmoeacgaa
open Go.RowKit
set_option linter.unusedVariables false
variable {S S' : Nat → Prop}

/-- Lists of bools: where each lies, its capacity, what it holds. -/
structure Bl where
  ao : Option Addr
  cap : Nat
  r : List Bool
def RAt (w : World) (ao : Option Addr) (rs : List Bl) : Prop := ∀ k (h : k < rs.length), ∃ b off, ao = some ⟨b, off, none⟩ ∧ w.cell? ⟨b, off + k, none⟩ = some (.slice rs[k].ao rs[k].r.length rs[k].cap) ∧ VAt w rs[k].ao (rs[k].r.map bV) ∧ (rs[k].ao = none → rs[k].cap = 0 ∧ rs[k].r.length = 0)
theorem RAt.below {w w' : World} {ao : Option Addr} {rs : List Bl} (h : RAt w ao rs) (hb : Below w.heap.size w w') : RAt w' ao rs := fun k hk => by
  obtain ⟨b, off, e, hc, hv, hn⟩ := h k hk
  exact ⟨b, off, e, by rw [hb.cell (p := ⟨b, off + k, none⟩) (World.block_lt_of_cell? w ⟨b, off + k, none⟩ hc)]; exact hc, hv.below hb, hn⟩
/-- The greatest length of the first k. -/
def mxL (rs : List Bl) : Nat → Nat
  | 0 => 0
  | k + 1 => if mxL rs k < ((rs.map fun x => x.r.length).getD k 0) then (rs.map fun x => x.r.length).getD k 0 else mxL rs k
theorem len_at {rs : List Bl} {k : Nat} (hk : k < rs.length) : (rs.map fun x => x.r.length).getD k 0 = rs[k].r.length := by
  rw [List.getD_eq_getElem?_getD, List.getElem?_map, List.getElem?_eq_getElem hk]; rfl
theorem mxL_le {rs : List Bl} {N : Nat} (h : ∀ x ∈ rs, x.r.length ≤ N) : ∀ k, k ≤ rs.length → mxL rs k ≤ N
  | 0, _ => Nat.zero_le _
  | k + 1, hk => by
    have ih := mxL_le h k (by omega)
    unfold mxL
    split
    · rw [len_at (by omega)]; exact h _ (List.getElem_mem _)
    · exact ih
theorem mxL_ge {rs : List Bl} : ∀ k j, k ≤ rs.length → j < k → (rs.map fun x => x.r.length).getD j 0 ≤ mxL rs k
  | 0, j, _, h => by omega
  | k + 1, j, hk, hj => by
    unfold mxL
    rcases Nat.lt_or_ge j k with h1 | h1
    · have ih := mxL_ge (rs := rs) k j (by omega) h1
      split <;> omega
    · have : j = k := by omega
      subst this
      split <;> omega

/-- Between two rounds of the law's inner loop. -/
structure FaI (w : World) (S : Nat → Prop) (cb : Nat) (c : Ch) (g n : Nat) (A A' : Nat → Nat) (k : Nat) (wr : World) : Prop where
  own : Own1 w S cb c wr
  wt : Ow wr w.heap.size 3 (.slice (some ⟨g, 0, none⟩) n n) ((waitK n A A' k).map nV)
  ng : ¬ S g
theorem FaI.more {w wr w1 : World} {cb g n k : Nat} {c : Ch} {A A' : Nat → Nat} (h : FaI w S cb c g n A A' k wr) (hb : Below wr.heap.size wr w1) : FaI w S cb c g n A A' k w1 := ⟨h.own.more hb, h.wt.below hb, h.ng⟩
theorem FaI.next {w wr w1 : World} {cb g n k : Nat} {c c' : Ch} {A A' : Nat → Nat} (h : FaI w S cb c g n A A' k wr) (hc : ChAt w1 (fun k => S k ∨ (wr.heap.size ≤ k ∧ k < w1.heap.size)) cb c') (hf : Frm S wr w1) : FaI w (fun k => S k ∨ (wr.heap.size ≤ k ∧ k < w1.heap.size)) cb c' g n A A' k w1 :=
  ⟨h.own.next hc hf, h.wt.frm hf (fun k e => by simp [Value.ownBlock] at e; rw [← e]; exact h.ng), fun x => by
    rcases x with x | x
    · exact h.ng x
    · have := (h.wt.lt g rfl).2; omega⟩
theorem FaI.set {w wr : World} {cb g n k : Nat} {c : Ch} {A A' : Nat → Nat} (h : FaI w S cb c g n A A' k wr) (hk : k < n) (W : World) (hW : W = wr.setCell ⟨g, k, none⟩ (.int .i64 (A' k : Int))) : FaI w S cb c g n A A' (k + 1) W := by
  subst hW
  have hF : Frm (fun k => k = g) wr (wr.setCell ⟨g, k, none⟩ (.int .i64 (A' k : Int))) := (Frm.refl _ _).setCell _ _ (.inl rfl)
  refine ⟨⟨h.own.ch.frm hF fun k hk e => h.ng (by rw [← e]; exact hk), h.own.own, h.own.below.setCell (h.wt.lt g rfl).1 _⟩, ?_, h.ng⟩
  have := h.wt.stored k (nV (A' k))
  rw [← List.map_set, waitK_succ _ _ hk] at this
  exact this

theorem FaI.set2 {w wr : World} {cb g n k : Nat} {c : Ch} {A A' : Nat → Nat} (h : FaI w S cb c g n A A' k wr) (hk : k < n) (x : Nat) (W : World) (hW : W = (wr.setCell ⟨g, k, none⟩ (.int .i64 (x : Int))).setCell ⟨g, k, none⟩ (.int .i64 (A' k : Int))) : FaI w S cb c g n A A' (k + 1) W := by
  subst hW
  have hF : Frm (fun k => k = g) wr ((wr.setCell ⟨g, k, none⟩ (.int .i64 (x : Int))).setCell ⟨g, k, none⟩ (.int .i64 (A' k : Int))) := ((Frm.refl (fun k => k = g) wr).setCell ⟨g, k, none⟩ _ (.inl rfl)).setCell ⟨g, k, none⟩ _ (.inl rfl)
  refine ⟨⟨h.own.ch.frm hF fun k hk e => h.ng (by rw [← e]; exact hk), h.own.own, (h.own.below.setCell (h.wt.lt g rfl).1 _).setCell (h.wt.lt g rfl).1 _⟩, ?_, h.ng⟩
  have := (h.wt.stored k (nV x)).stored k (nV (A' k))
  rw [List.set_set, ← List.map_set, waitK_succ _ _ hk] at this
  exact this

end Go.Proofs.Ytagdgecmoeacgaa
