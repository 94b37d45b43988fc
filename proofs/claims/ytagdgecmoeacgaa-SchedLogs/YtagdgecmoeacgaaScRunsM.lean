/- Layer 17 (sched): the program's chooser and the document's beside each other. -/
import Derived.Test.YtagdgecmoeacgaaScRefN
import Derived.Test.YtagdgecmoeacgaaScFair
namespace Go.Proofs.Ytagdgecmoeacgaa
open Go.RowKit
set_option linter.unusedVariables false
variable {S S' : Nat → Prop}

theorem HsAt.frm {T : Nat → Prop} {w w' : World} {ho : Option Addr} {H : List He} (h : HsAt w ho H) (hf : Frm T w w') (h1 : ∀ a, ho = some a → ¬ T a.block) (h2 : ∀ y ∈ H, ∀ a, y.ao = some a → ¬ T a.block) : HsAt w' ho H := fun k hk => by
  obtain ⟨b, off, e, c1, c2, c3⟩ := h k hk
  have hn := h1 _ e
  have hl := World.block_lt_of_cell? w ⟨b, off + k * 2, none⟩ c1
  exact ⟨b, off, e, by rw [World.cell?_of_block (a := ⟨b, off + k * 2, none⟩) (hf.block b hl hn)]; exact c1, by rw [World.cell?_of_block (a := ⟨b, off + k * 2 + 1, none⟩) (hf.block b hl hn)]; exact c2, c3.frm hf (h2 _ (List.getElem_mem hk))⟩
theorem VAt.back {w w' : World} {po : Option Addr} {ps : List Int} (h : VAt w' po (ps.map iV)) (ho : OldP w.heap.size po ps) (hb : Below w.heap.size w w') : VAt w po (ps.map iV) := fun k hk => by
  obtain ⟨b, off, e, hc⟩ := h k hk
  have hne : ps ≠ [] := fun e => by subst e; simp at hk
  have hl : b < w.heap.size := ho _ e hne
  exact ⟨b, off, e, by rw [← hc]; exact (World.cell?_of_block (a := ⟨b, off + k, none⟩) (hb.block b hl)).symm⟩
/-- The program's chooser c at cb, the document's d at mb, its history H. -/
structure RuI (w : World) (S : Nat → Prop) (cb mb : Nat) (c d : Ch) (po : Option Addr) (pc : Nat) (ho : Option Addr) (hc : Nat) (H : List He) (wr : World) : Prop where
  own : Own1 w S cb c wr
  mbx : wr.heap[mb]? = some (.cells #[.slice po d.picks.length pc, .int .i64 d.bound, .slice ho H.length hc] 50)
  mbs : w.heap.size ≤ mb
  ng : ¬ S mb
  pk : VAt w po (d.picks.map iV)
  old : OldP w.heap.size po d.picks
  room : d.picks.length ≤ pc
  hs : HsAt wr ho H
  hsn : ∀ a, ho = some a → ¬ S a.block ∧ a.block ≠ mb ∧ a.block < wr.heap.size
  hen : ∀ y ∈ H, ∀ a, y.ao = some a → ¬ S a.block ∧ a.block ≠ mb ∧ a.block < wr.heap.size
  hcap : H.length ≤ hc
  hnil : ho = none → hc = 0
  rl : ∀ y ∈ H, y.r.length ≤ 1048576
variable {w wr w' : World} {cb mb : Nat} {c d : Ch} {po ho : Option Addr} {pc hc : Nat} {H : List He}
theorem RuI.frm {T : Nat → Prop} (h : RuI w S cb mb c d po pc ho hc H wr) (hf : Frm T wr w') (h1 : ∀ k, S k → ¬ T k) (h2 : ¬ T mb) (h3 : ∀ a, ho = some a → ¬ T a.block) (h4 : ∀ y ∈ H, ∀ a, y.ao = some a → ¬ T a.block) (h5 : ∀ k, T k → w.heap.size ≤ k) : RuI w S cb mb c d po pc ho hc H w' :=
  ⟨⟨h.own.ch.frm hf h1, h.own.own, h.own.below.trans (hf.toBelow h.own.below.size h5)⟩, (hf.block mb (lt_of_heapT h.mbx) h2).trans h.mbx, h.mbs, h.ng, h.pk, h.old, h.room, h.hs.frm hf h3 h4,
    fun a e => ⟨(h.hsn a e).1, (h.hsn a e).2.1, Nat.lt_of_lt_of_le (h.hsn a e).2.2 hf.size⟩, fun y hy a e => ⟨(h.hen y hy a e).1, (h.hen y hy a e).2.1, Nat.lt_of_lt_of_le (h.hen y hy a e).2.2 hf.size⟩, h.hcap, h.hnil, h.rl⟩
theorem RuI.more (h : RuI w S cb mb c d po pc ho hc H wr) (hb : Below wr.heap.size wr w') : RuI w S cb mb c d po pc ho hc H w' :=
  h.frm (Frm.ofBelow hb (fun _ => False)) (fun _ _ h => h) id (fun _ _ h => h) (fun _ _ _ _ h => h) (fun _ h => h.elim)
theorem RuI.next {c' : Ch} (h : RuI w S cb mb c d po pc ho hc H wr) (hc' : ChAt w' (fun k => S k ∨ (wr.heap.size ≤ k ∧ k < w'.heap.size)) cb c') (hf : Frm S wr w') : RuI w (fun k => S k ∨ (wr.heap.size ≤ k ∧ k < w'.heap.size)) cb mb c' d po pc ho hc H w' := by
  have hml := lt_of_heapT h.mbx
  refine ⟨h.own.next hc' hf, (hf.block mb hml h.ng).trans h.mbx, h.mbs, fun x => ?_, h.pk, h.old, h.room, h.hs.frm hf (fun a e => (h.hsn a e).1) (fun y hy a e => (h.hen y hy a e).1), fun a e => ?_, fun y hy a e => ?_, h.hcap, h.hnil, h.rl⟩
  · rcases x with x | x
    · exact h.ng x
    · omega
  · obtain ⟨k1, k2, k3⟩ := h.hsn a e
    have := hf.size
    exact ⟨fun x => by rcases x with x | x; exact k1 x; omega, k2, by omega⟩
  · obtain ⟨k1, k2, k3⟩ := h.hen y hy a e
    have := hf.size
    exact ⟨fun x => by rcases x with x | x; exact k1 x; omega, k2, by omega⟩
/-- The document has chosen; its new state is put into its box. -/
theorem RuI.doc {d' : Ch} {w5 W : World} {po' ho' : Option Addr} {pc' hc' : Nat} {x : He} {o : Obj} (h : RuI w S cb mb c d po pc ho hc H wr) (hb : Below wr.heap.size wr w5) (hp : VAt w5 po' (d'.picks.map iV)) (hpc : d'.picks.length ≤ pc') (hH : HsAt w5 ho' (H ++ [x])) (hhn : ho' = none → hc' = 0) (hhc : H.length + 1 ≤ hc') (hold : OldP w.heap.size po' d'.picks)
    (h1 : ∀ a, ho' = some a → wr.heap.size ≤ a.block) (h2 : ∀ a, x.ao = some a → wr.heap.size ≤ a.block) (hxr : x.r.length ≤ 1048576) (hx0 : ∀ a, x.ao = some a → a.block < w5.heap.size) (hh0 : ∀ a, ho' = some a → a.block < w5.heap.size) (hW : W = (((w5.alloc o).setCell ⟨mb, 0, none⟩ (.slice po' d'.picks.length pc')).setCell ⟨mb, 1, none⟩ (.int .i64 d'.bound)).setCell ⟨mb, 2, none⟩ (.slice ho' (H.length + 1) hc')) :
    RuI w S cb mb c d' po' pc' ho' hc' (H ++ [x]) W := by
  have hml := lt_of_heapT h.mbx
  have hSl := h.own.ch.sb
  have hbs := hb.size
  have hba : Below wr.heap.size wr (w5.alloc o) := hb.alloc hbs o
  have hF : Frm (fun k => k = mb) (w5.alloc o) W := by
    rw [hW]
    exact (((Frm.refl (fun k => k = mb) (w5.alloc o)).setCell ⟨mb, 0, none⟩ _ (.inl rfl)).setCell ⟨mb, 1, none⟩ _ (.inl rfl)).setCell ⟨mb, 2, none⟩ _ (.inl rfl)
  have e0 : (w5.alloc o).heap[mb]? = some (.cells #[.slice po d.picks.length pc, .int .i64 d.bound, .slice ho H.length hc] 50) := (hba.block mb hml).trans h.mbx
  have e1 := heap_setCell_same _ mb 0 _ _ (.slice po' d'.picks.length pc') e0
  have e2 := heap_setCell_same _ mb 1 _ _ (.int .i64 d'.bound) e1
  have e3 := heap_setCell_same _ mb 2 _ _ (.slice ho' (H.length + 1) hc') e2
  rw [← hW] at e3
  have hBw : Below w.heap.size w W := h.own.below.trans ((hba.mono h.own.below.size).trans (hF.toBelow (by have := h.own.below.size; have := hba.size; omega) (fun k hk => by rw [hk]; exact h.mbs)))
  have hs5 : w5.heap.size ≤ W.heap.size := by have := hF.size; simp [World.size_alloc] at this; omega
  have hB5 : Below w.heap.size w w5 := h.own.below.trans (hb.mono h.own.below.size)
  refine ⟨⟨(h.own.ch.below hba).frm hF (fun k hk e => h.ng (by rw [← e]; exact hk)), h.own.own, hBw⟩, ?_, h.mbs, h.ng, hp.back hold hB5, hold, hpc, (hH.below (below_alloc w5 o)).frm hF (fun a e hh => ?_) (fun y hy a e hh => ?_), fun a e => ⟨fun hS => ?_, fun hh => ?_, ?_⟩, fun y hy a e => ?_, by simpa using hhc, hhn, fun y hy => ?_⟩
  · rw [e3, List.length_append]; simp
  · have := h1 a e; omega
  · rcases List.mem_append.1 hy with hy | hy
    · exact (h.hen y hy a e).2.1 hh
    · rw [List.mem_singleton.1 hy] at e; have := h2 a e; omega
  · have := hSl _ hS; have := h1 a e; omega
  · have := h1 a e; omega
  · have := hh0 a e; omega
  · rcases List.mem_append.1 hy with hy | hy
    · obtain ⟨k1, k2, k3⟩ := h.hen y hy a e
      exact ⟨k1, k2, by omega⟩
    · rw [List.mem_singleton.1 hy] at e
      have := h2 a e
      exact ⟨fun hS => by have := hSl _ hS; omega, by omega, by have := hx0 a e; omega⟩
  · rcases List.mem_append.1 hy with hy | hy
    · exact h.rl y hy
    · rw [List.mem_singleton.1 hy]; exact hxr
end Go.Proofs.Ytagdgecmoeacgaa
