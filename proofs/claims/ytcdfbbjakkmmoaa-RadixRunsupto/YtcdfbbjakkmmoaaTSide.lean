/- Layer 5 (txn): trees stay where a base, a transaction or its map is written. -/
import Derived.Test.YtcdfbbjakkmmoaaXHeld
namespace Go.Proofs.Ytcdfbbjakkmmoaa
open Go.RowKit
set_option linter.unusedVariables false

/-- A block that is no part of a tree, and in which no array of nodes lies. -/
def Off (W : World) (b : Nat) : Prop :=
  (∃ es cl, W.heap[b]? = some (.map es cl)) ∨ ∃ cs ty, W.heap[b]? = some (.cells cs ty) ∧ (∀ (j : Nat) (a : Addr), cs[j]? = some (.pointer (some a)) → ∃ ds ty', W.heap[a.block]? = some (.cells ds ty') ∧ ty' ≠ 76) ∧
    ty ≠ 76 ∧ ty ≠ 97 ∧ ty ≠ 117 ∧ ty ≠ 68
theorem Off.typed {W : World} {b : Nat} (h : Off W b) {cs : Array Value} {ty : TypeId} (hb : W.heap[b]? = some (.cells cs ty)) : ty ≠ 76 ∧ ty ≠ 97 ∧ ty ≠ 117 ∧ ty ≠ 68 := by
  rcases h with ⟨es, cl, h⟩ | ⟨cs', ty', h, -, h1⟩
  · rw [hb] at h; cases h
  · rw [hb] at h
    simp at h
    rw [h.2]; exact h1
theorem Off.chan {W : World} {b : Nat} (h : Off W b) {f : Bool} : W.heap[b]? ≠ some (.chan 0 #[] f 0 0 false) := by
  rcases h with ⟨es, cl, h⟩ | ⟨cs', ty', h, -⟩ <;> rw [h] <;> intro e <;> cases e
theorem WAt.offs {W W' : World} {g c : Nat} {f : Bool} (E : Nat → Prop) (hk : ∀ b, b < W.heap.size → ¬ E b → W'.heap[b]? = W.heap[b]?) (hE : ∀ b, E b → Off W b) (h : WAt W g c f) : WAt W' g c f :=
  ⟨(hk g h.ltb (fun e => ((hE g e).typed h.blk).2.2.1 rfl)).trans h.blk, (hk c h.ltc (fun e => (hE c e).chan h.chn)).trans h.chn⟩
theorem TAt.isNode {R : Rg} {W : World} {t : Tr} (h : TAt R W t) : ∃ ds, W.heap[t.a]? = some (.cells ds 76) := by
  cases h with
  | mk blk _ _ _ _ _ _ _ => exact ⟨_, blk⟩
theorem TAt.offs {R : Rg} {W W' : World} {t : Tr} (E : Nat → Prop) (hk : ∀ b, b < W.heap.size → ¬ E b → W'.heap[b]? = W.heap[b]?) (hE : ∀ b, E b → Off W b) (h : TAt R W t) : TAt R W' t := by
  induction h with
  | mk blk kids val wat sub room nil psz ih =>
    refine .mk ((hk _ (lt_of_heap blk) (fun e => ((hE _ e).typed blk).1 rfl)).trans blk) (fun j hj => ?_) (fun x hx => ?_) ?_ ih room nil psz
    · obtain ⟨b, off, ha, h0, hr⟩ := kids j hj
      refine ⟨b, off, ha, (World.cell?_of_block (w := W) (hk b (World.block_lt_of_cell? W _ h0) (fun he => ?_))).trans h0, hr⟩
      rcases hE b he with ⟨es, cl, h1⟩ | ⟨cs, ty, h1, hp, -⟩
      · simp [World.cell?, h1] at h0
      · rw [cell_of_blk h1] at h0
        obtain ⟨ds, ty', h2, h3⟩ := hp _ _ h0
        obtain ⟨ds', h4⟩ := (sub _ (List.getElem_mem hj)).isNode
        rw [h4] at h2
        simp at h2
        exact h3 h2.2.symm
    · have hx' := val x hx
      obtain ⟨f, hw, ho⟩ := hx'.wat
      exact ⟨(hk _ (lt_of_heap hx'.blk) (fun e => ((hE _ e).typed hx'.blk).2.1 rfl)).trans hx'.blk, ⟨f, hw.offs E hk hE, ho⟩, hx'.num⟩
    · obtain ⟨f, hw, ho⟩ := wat
      exact ⟨f, hw.offs E hk hE, ho⟩
theorem TreeAt.offs {W W' : World} {tb : Nat} {t : Tr} {n : Int} (E : Nat → Prop) (hk : ∀ b, b < W.heap.size → ¬ E b → W'.heap[b]? = W.heap[b]?) (hE : ∀ b, E b → Off W b) (h : TreeAt W tb t n) : TreeAt W' tb t n :=
  ⟨(hk tb (lt_of_heap h.blk) (fun e => ((hE tb e).typed h.blk).2.2.2 rfl)).trans h.blk, h.tat.offs E hk hE⟩
theorem Off.one {W : World} {b : Nat} (h : Off W b) : ∀ k, k ∈ [b] → Off W k := fun k hk => by simp at hk; subst hk; exact h
end Go.Proofs.Ytcdfbbjakkmmoaa
