/- Layer 4 (walk): what stands between two rounds of WalkHeld's loop. -/
import Derived.Test.YtnmndjplbcpglaaXHeldM
namespace Go.Proofs.Ytnmndjplbcpglaa
open Go.RowKit Go.Shelf
set_option linter.unusedVariables false

/-- A tree that is made of another on the way. -/
structure Ut (W : World) (tb : Nat) (T : Tr) (ne : Int) (n : Nat) : Prop where
  tree : TreeAt W tb T ne
  wf : WF T
  root : T.p = kE
  dep : Dep (n + 1) T
  lo : -(n : Int) ≤ ne
  hi : ne ≤ n
theorem Ut.insert {W W' : World} {tb tb' N : Nat} {T T' : Tr} {ne : Int} {n : Nat} {k : ByteArray} {v : Vl} {o : Option Vl} (h : Ut W tb T ne n) (ht : TreeAt W' tb' T' (ne + plusNew o)) (hi : InsR N k v T T') : Ut W' tb' T' (ne + plusNew o) (n + 1) := by
  have hw := hi.wf h.wf (root_pre h.root _)
  have hp : 0 ≤ plusNew o ∧ plusNew o ≤ 1 := by unfold plusNew; split <;> omega
  have h1 := h.lo
  have h2 := h.hi
  exact ⟨ht, hw.1, hw.2.trans h.root, hi.dep h.dep, by omega, by omega⟩
theorem Ut.delete {W W' : World} {tb tb' N : Nat} {T T' : Tr} {ne : Int} {n : Nat} {k : ByteArray} (h : Ut W tb T ne n) (ht : TreeAt W' tb' T' (ne - 1)) (hi : DelR N k T T') : Ut W' tb' T' (ne - 1) (n + 1) := by
  have hw := hi.wf h.wf (root_pre h.root _)
  have h1 := h.lo
  have h2 := h.hi
  exact ⟨ht, hw.1, hw.2.trans h.root, Dep.mono (Nat.le_succ _) (hi.dep h.dep), by omega, by omega⟩
theorem Ut.more {W : World} {tb : Nat} {T : Tr} {ne : Int} {n : Nat} (h : Ut W tb T ne n) : Ut W tb T ne (n + 1) := ⟨h.tree, h.wf, h.root, Dep.mono (Nat.le_succ _) h.dep, by have := h.lo; omega, by have := h.hi; omega⟩
theorem Ut.keep {W W' : World} {tb : Nat} {T : Tr} {ne : Int} {n : Nat} (h : Ut W tb T ne n) (hb : Below W.heap.size W W') : Ut W' tb T ne n := ⟨h.tree.keep hb, h.wf, h.root, h.dep, h.lo, h.hi⟩

structure HeI (w₀ : World) (tc : Array Value) (l : List En) (n : Nat) (W : World) : Prop where
  below : Below w₀.heap.size w₀ W
  doc : W.heap[w₀.heap.size]? = some (.cells tc 28)
  got : ∃ ao k cap, W.heap[w₀.heap.size + 2]? = some (.cells #[.slice ao k cap] 22) ∧ OwnE W w₀.heap.size (.slice ao k cap) l ∧ OwnNP W (.slice ao k cap)
  u : ∃ tb T ne, W.heap[w₀.heap.size + 1]? = some (.cells #[.pointer (some ⟨tb, 0, none⟩)] 24) ∧ Ut W tb T ne n

theorem own_typed {W : World} {B : Nat} {v : Value} {l : List En} (h : OwnE W B v l) {g : Nat} (hg : v.ownBlock = some g) : ∃ cur, W.heap[g]? = some (.cells cur 35 (0, 0)) := ownsRow_typed h g hg
theorem OwnNP.same {W W' : World} {v : Value} (h : OwnNP W v) (hk : ∀ g, v.ownBlock = some g → W'.heap[g]? = W.heap[g]?) : OwnNP W' v := fun g cur hg hb => h g cur hg (by rw [← hk g hg]; exact hb)

theorem HeI.keep {w₀ : World} {tc : Array Value} {l : List En} {n : Nat} {W W' : World} (h : HeI w₀ tc l n W) (hb : Below W.heap.size W W') : HeI w₀ tc l n W' := by
  obtain ⟨ao, k, cap, g1, g2, g3⟩ := h.got
  obtain ⟨tb, T, ne, u1, u2⟩ := h.u
  refine ⟨h.below.trans (hb.mono h.below.size), (hb.block _ (lt_of_heap h.doc)).trans h.doc, ⟨ao, k, cap, (hb.block _ (lt_of_heap g1)).trans g1, World.ownsRow.kept (row := none) g2 ⟨hb.os, hb.tape, hb.output, hb.size, fun j hj _ => hb.block j hj⟩ (Classical.em _), g3.same fun g hg => ?_⟩, tb, T, ne, (hb.block _ (lt_of_heap u1)).trans u1, u2.keep hb⟩
  obtain ⟨cur, hc⟩ := own_typed g2 hg
  exact hb.block _ (lt_of_heap hc)
theorem HeI.ownFrom {w₀ : World} {tc : Array Value} {α : Type} {f : List α → List En} {q : List α → Nat} {B : Nat} (hB : w₀.heap.size ≤ B) : OwnM B (fun (l : List α) W => HeI w₀ tc (f l) (q l) W) := fun l X C row h hg hr => by
  obtain ⟨ao, k, cap, g1, g2, g3⟩ := h.got
  obtain ⟨tb, T, ne, u1, u2⟩ := h.u
  have hr' : ∀ r, row = some r → ∃ o : Obj, X.heap[r]? = some o ∧ isMark o = true := fun r e => (hr r e).2
  refine ⟨h.below.grown hg h.below.size (fun r e => by have := (hr r e).1; omega), heap_kept h.doc hg hr', ⟨ao, k, cap, heap_kept g1 hg hr', World.ownsRow.kept g2 hg ?_, g3.same fun g hgb => ?_⟩, tb, T, ne, heap_kept u1 hg hr', ⟨⟨heap_kept u2.tree.blk hg hr', u2.tree.tat.grown hg hr'⟩, u2.wf, u2.root, u2.dep, u2.lo, u2.hi⟩⟩
  · by_cases e : (Value.slice ao k cap).ownBlock = none
    · exact .inl e
    · refine .inr fun e' => ?_
      obtain ⟨g, hgb⟩ := Option.ne_none_iff_exists'.1 e
      obtain ⟨cur, hc⟩ := own_typed g2 hgb
      obtain ⟨o, ho, hcf⟩ := hr' g (by rw [← e', hgb])
      rw [hc] at ho; cases ho; cases hcf
  · obtain ⟨cur, hc⟩ := own_typed g2 hgb
    rw [heap_kept hc hg hr', hc]
/-- Another tree is put into the box. -/
theorem HeI.put {w₀ : World} {tc : Array Value} {l : List En} {n m : Nat} {W : World} {tb' : Nat} {T' : Tr} {ne' : Int} (h : HeI w₀ tc l n W) (hu : Ut W tb' T' ne' m) : HeI w₀ tc l m (W.setCell ⟨w₀.heap.size + 1, 0, none⟩ (.pointer (some ⟨tb', 0, none⟩))) := by
  obtain ⟨ao, k, cap, g1, g2, g3⟩ := h.got
  obtain ⟨tb, T, ne, u1, u2⟩ := h.u
  have other : ∀ (b : Nat) (cs : Array Value) (ty : TypeId), W.heap[b]? = some (.cells cs ty) → ty ≠ 24 → (W.setCell ⟨w₀.heap.size + 1, 0, none⟩ (.pointer (some ⟨tb', 0, none⟩))).heap[b]? = W.heap[b]? := fun b cs ty hb hty => heap_setCell_other _ _ _ _ (fun e => by
    have e' : b = w₀.heap.size + 1 := e
    subst e'
    rw [u1] at hb
    simp at hb
    exact hty hb.2.symm)
  refine ⟨h.below.setCell (p := ⟨w₀.heap.size + 1, 0, none⟩) (by show w₀.heap.size ≤ w₀.heap.size + 1; omega) _, (other _ _ _ h.doc (by decide)).trans h.doc, ⟨ao, k, cap, (other _ _ _ g1 (by decide)).trans g1, ownsRow_setCell_other g2 (fun e => own_ne (ownsRow_typed g2 _ e) u1 (by decide) rfl) _, g3.same fun g hg => ?_⟩, tb', T', ne', ?_, ⟨⟨(other _ _ _ hu.tree.blk (by decide)).trans hu.tree.blk, ((hu.tree.tat.treeBox u1 u2.tree.blk).poke rfl u1 (by decide) (by decide) (by decide) _).less (fun b hb => hb.elim)⟩, hu.wf, hu.root, hu.dep, hu.lo, hu.hi⟩⟩
  · obtain ⟨cur, hc⟩ := own_typed g2 hg
    exact other _ _ _ hc (by decide)
  · rw [setCell_blk u1]; rfl
theorem kp_box {n₀ : Nat} {X : Nat → Prop} {W : World} {b i : Nat} (hb : n₀ ≤ b) (hX : X b) (u : Value) : Kp n₀ X W (W.setCell ⟨b, i, none⟩ u) :=
  ⟨(Below.refl _ W).setCell hb u, fun k ds t hk htk hx => heap_setCell_other _ _ _ _ (fun e => hx (by have e' : k = b := e; rw [e']; exact hX))⟩
/-- An entry more is gathered. -/
theorem HeI.app {w₀ W w1 : World} {tc : Array Value} {l : List En} {n : Nat} {X : Nat → Prop} {ao : Option Addr} {q cap : Nat} {ao' : Option Addr} {q' cap' : Nat} {k : ByteArray} {v : Int} {tmp : Obj} {m : Nat} (hm : m = l.length + 1) (h : HeI w₀ tc l n W)
    (hbox : W.heap[w₀.heap.size + 2]? = some (.cells #[.slice ao q cap] 22)) (hown : OwnE W w₀.heap.size (.slice ao q cap) l) (hnp : OwnNP W (.slice ao q cap))
    (ho : w1.ownsRow w₀.heap.size 35 2 (.slice ao' q' cap') m (enCells l ++ [.string k, .int .i64 v])) (hg : (W.alloc tmp).grownBy w1 (Value.slice ao q cap).ownBlock) (hn1 : OwnNP w1 (.slice ao' q' cap')) :
    w1.heap[w₀.heap.size + 2]? = some (.cells #[.slice ao q cap] 22) ∧ KeepsOthers W (w1.setCell ⟨w₀.heap.size + 2, 0, none⟩ (.slice ao' q' cap')) ∧ Kp w₀.heap.size X W (w1.setCell ⟨w₀.heap.size + 2, 0, none⟩ (.slice ao' q' cap')) ∧ HeI w₀ tc (l ++ [(k, v)]) n (w1.setCell ⟨w₀.heap.size + 2, 0, none⟩ (.slice ao' q' cap')) := by
  obtain ⟨a1, a2, a3, a4⟩ := GoI.appended hm (by omega) h.below hbox hown ho hg
  obtain ⟨tb, T, ne, u1, u2⟩ := h.u
  have kept : ∀ b, b < W.heap.size → ¬ (some b = (Value.slice ao q cap).ownBlock ∨ b = w₀.heap.size + 2) → (w1.setCell ⟨w₀.heap.size + 2, 0, none⟩ (.slice ao' q' cap')).heap[b]? = W.heap[b]? := fun b hlt hne => by
    rw [heap_setCell_other _ _ _ _ (fun e => hne (.inr e))]
    exact (hg.block b (by simp; omega) (fun e => hne (.inl e))).trans (Below.heap_alloc _ _ _ hlt)
  have keptT : ∀ (b : Nat) (cs : Array Value) (ty : TypeId), W.heap[b]? = some (.cells cs ty) → ty ≠ 35 → ty ≠ 22 → (w1.setCell ⟨w₀.heap.size + 2, 0, none⟩ (.slice ao' q' cap')).heap[b]? = some (.cells cs ty) := fun b cs ty hbk h1 h2 => (kept b (lt_of_heap hbk) (fun e => by
    rcases e with e | e
    · obtain ⟨ds, hd⟩ := own_typed hown e.symm
      rw [hbk] at hd
      simp at hd
      exact h1 hd.2
    · subst e
      rw [hbk] at hbox
      simp at hbox
      exact h2 hbox.2)).trans hbk
  refine ⟨a1, a2, ⟨a3.below, fun b cs ty h1 h2 _ => a3.kept b cs ty h1 h2 (fun h => h)⟩, ⟨a4.below, keptT _ _ _ h.doc (by decide) (by decide), ?_, tb, T, ne, keptT _ _ _ u1 (by decide) (by decide), ⟨⟨keptT _ _ _ u2.tree.blk (by decide) (by decide), u2.tree.tat.off _ kept ?_⟩, u2.wf, u2.root, u2.dep, u2.lo, u2.hi⟩⟩⟩
  · obtain ⟨x, y, z, b1, b2⟩ := a4.got
    rw [setCell_blk a1] at b1
    simp at b1
    obtain ⟨rfl, rfl, rfl⟩ := b1
    refine ⟨_, _, _, by rw [setCell_blk a1]; rfl, b2, hn1.same fun g hgb => heap_setCell_other _ _ _ _ (fun e => ?_)⟩
    have e' : g = w₀.heap.size + 2 := e
    subst e'
    obtain ⟨ds, hd⟩ := ownsRow_typed ho _ hgb
    rw [a1] at hd
    simp at hd
  · rintro b (e | e)
    · obtain ⟨cur, hc⟩ := own_typed hown e.symm
      exact ⟨cur, _, hc, hnp b cur e.symm hc, by decide, by decide, by decide⟩
    · subst e
      exact ⟨_, _, hbox, fun x hx p => by simp at hx; rw [hx]; simp, by decide, by decide, by decide⟩

theorem docOf_keys {B : Nat} : ∀ (l : List En), (∀ e ∈ l, e.1.size ≤ B) → ∀ e ∈ docOf l, e.1.size ≤ B := fun l hl => by
  have key : ∀ (n : Nat), n ≤ l.length → ∀ e ∈ docOf (l.take n), e.1.size ≤ B := fun n => by
    induction n with
    | zero => intro _ e he; simp [docOf] at he
    | succ n ih =>
      intro hn e he
      rw [docOf_take l n (by omega), mem_insE (docOf_sorted _)] at he
      rcases he with rfl | ⟨-, he⟩
      · exact hl _ (List.getElem_mem _)
      · exact ih (by omega) e he
  have := key l.length (Nat.le_refl _)
  rwa [List.take_length] at this
theorem results_cell {fn : Func} {t : Tmp} {ty : TypeId} {ad : Addr} {v : Value} {tmps : Array Value} {P : Program} {w : World} (h : fn.results = #[.cell t ty]) (ht : tmps.getD t undef = .pointer (some ad)) (hl : (loadVar ty ad).run P w = .ok v w) :
    (results fn tmps).run P w = .ok v w := by
  have ht' : tmps[t]?.getD undef = .pointer (some ad) := by simpa using ht
  simp [results, h, ht', hl, asAddr]
theorem load_truth {w : World} {b : Nat} {v : Value} (h : w.heap[b]? = some (.cells #[v] 4)) : (loadVar 4 ⟨b, 0, none⟩).run Try.prog w = .ok v w := by
  have hc : w.cell? ⟨b, 0, none⟩ = some v := by rw [cell_of_blk h]; rfl
  simp [loadVar, Sem.run_bind, Result.andThen, hc, go_sem]
end Go.Proofs.Ytnmndjplbcpglaa
