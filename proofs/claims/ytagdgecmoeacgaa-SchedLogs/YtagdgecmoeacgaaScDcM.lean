/- Layer 17 (sched): the document's chooser in its box, beside blocks of the call's own. -/
import Derived.Test.YtagdgecmoeacgaaScRunsM
import Derived.Test.YtagdgecmoeacgaaScPlayW
namespace Go.Proofs.Ytagdgecmoeacgaa
open Go.RowKit
set_option linter.unusedVariables false
variable {S S' : Nat → Prop}

/-- The document's chooser d at mb, its history H; S: other blocks of the call's own. -/
structure DcI (w : World) (S : Nat → Prop) (mb : Nat) (d : Ch) (po : Option Addr) (pc : Nat) (ho : Option Addr) (hc : Nat) (H : List He) (wr : World) : Prop where
  below : Below w.heap.size w wr
  sb : ∀ k, S k → k < wr.heap.size
  so : ∀ k, S k → w.heap.size ≤ k
  mbx : wr.heap[mb]? = some (.cells #[.slice po d.picks.length pc, .int .i64 d.bound, .slice ho H.length hc] 50)
  mbs : w.heap.size ≤ mb
  ng : ¬ S mb
  pk : VAt w po (d.picks.map iV)
  old : OldP w.heap.size po d.picks
  room : d.picks.length ≤ pc
  hs : HsAt wr ho H
  hsn : ∀ a, ho = some a → ¬ S a.block ∧ a.block ≠ mb ∧ a.block < wr.heap.size
  hen : ∀ y ∈ H, ∀ a, y.ao = some a → ¬ S a.block ∧ a.block ≠ mb ∧ a.block < wr.heap.size
  hcap : H.length ≤ hc
  hnil : ho = none → hc = 0
  rl : ∀ y ∈ H, y.r.length ≤ 1048576
variable {w wr w' : World} {mb : Nat} {d : Ch} {po ho : Option Addr} {pc hc : Nat} {H : List He}
theorem DcI.frm {T : Nat → Prop} (h : DcI w S mb d po pc ho hc H wr) (hf : Frm T wr w') (h2 : ¬ T mb) (h3 : ∀ a, ho = some a → ¬ T a.block) (h4 : ∀ y ∈ H, ∀ a, y.ao = some a → ¬ T a.block) (h5 : ∀ k, T k → w.heap.size ≤ k) : DcI w S mb d po pc ho hc H w' :=
  ⟨h.below.trans (hf.toBelow h.below.size h5), fun k hk => Nat.lt_of_lt_of_le (h.sb k hk) hf.size, h.so, (hf.block mb (lt_of_heapT h.mbx) h2).trans h.mbx, h.mbs, h.ng, h.pk, h.old, h.room, h.hs.frm hf h3 h4,
    fun a e => ⟨(h.hsn a e).1, (h.hsn a e).2.1, Nat.lt_of_lt_of_le (h.hsn a e).2.2 hf.size⟩, fun y hy a e => ⟨(h.hen y hy a e).1, (h.hen y hy a e).2.1, Nat.lt_of_lt_of_le (h.hen y hy a e).2.2 hf.size⟩, h.hcap, h.hnil, h.rl⟩
theorem DcI.more (h : DcI w S mb d po pc ho hc H wr) (hb : Below wr.heap.size wr w') : DcI w S mb d po pc ho hc H w' :=
  h.frm (Frm.ofBelow hb (fun _ => False)) id (fun _ _ h => h) (fun _ _ _ _ h => h) (fun _ h => h.elim)
theorem DcI.grow (h : DcI w S mb d po pc ho hc H wr) (hb : Below wr.heap.size wr w') : DcI w (fun k => S k ∨ (wr.heap.size ≤ k ∧ k < w'.heap.size)) mb d po pc ho hc H w' := by
  have hml := lt_of_heapT h.mbx
  have g := h.more hb
  have hs := hb.size
  have hw := h.below.size
  refine ⟨g.below, fun k hk => ?_, fun k hk => ?_, g.mbx, g.mbs, fun x => ?_, g.pk, g.old, g.room, g.hs, fun a e => ?_, fun y hy a e => ?_, g.hcap, g.hnil, g.rl⟩
  · rcases hk with hk | hk
    · have := h.sb k hk; omega
    · exact hk.2
  · rcases hk with hk | hk
    · exact h.so k hk
    · omega
  · rcases x with x | x
    · exact h.ng x
    · omega
  · obtain ⟨k1, k2, k3⟩ := h.hsn a e
    exact ⟨fun x => by rcases x with x | x; exact k1 x; omega, k2, by omega⟩
  · obtain ⟨k1, k2, k3⟩ := h.hen y hy a e
    exact ⟨fun x => by rcases x with x | x; exact k1 x; omega, k2, by omega⟩
/-- Writes into the blocks of S, and what is new then is of S. -/
theorem DcI.step (h : DcI w S mb d po pc ho hc H wr) (hf : Frm S wr w') : DcI w (fun k => S k ∨ (wr.heap.size ≤ k ∧ k < w'.heap.size)) mb d po pc ho hc H w' := by
  have hml := lt_of_heapT h.mbx
  have g := h.frm hf h.ng (fun a e => (h.hsn a e).1) (fun y hy a e => (h.hen y hy a e).1) h.so
  have hs := hf.size
  have hw := h.below.size
  refine ⟨g.below, fun k hk => ?_, fun k hk => ?_, g.mbx, g.mbs, fun x => ?_, g.pk, g.old, g.room, g.hs, fun a e => ?_, fun y hy a e => ?_, g.hcap, g.hnil, g.rl⟩
  · rcases hk with hk | hk
    · have := h.sb k hk; omega
    · exact hk.2
  · rcases hk with hk | hk
    · exact h.so k hk
    · omega
  · rcases x with x | x
    · exact h.ng x
    · omega
  · obtain ⟨k1, k2, k3⟩ := h.hsn a e
    exact ⟨fun x => by rcases x with x | x; exact k1 x; omega, k2, by omega⟩
  · obtain ⟨k1, k2, k3⟩ := h.hen y hy a e
    exact ⟨fun x => by rcases x with x | x; exact k1 x; omega, k2, by omega⟩
/-- The document has chosen; its new state is put into its box. -/
theorem DcI.doc {d' : Ch} {w5 W : World} {po' ho' : Option Addr} {pc' hc' : Nat} {x : He} (h : DcI w S mb d po pc ho hc H wr) (hb : Below wr.heap.size wr w5) (hp : VAt w5 po' (d'.picks.map iV)) (hpc : d'.picks.length ≤ pc') (hH : HsAt w5 ho' (H ++ [x])) (hhn : ho' = none → hc' = 0) (hhc : H.length + 1 ≤ hc') (hold : OldP w.heap.size po' d'.picks)
    (h1 : ∀ a, ho' = some a → wr.heap.size ≤ a.block) (h2 : ∀ a, x.ao = some a → wr.heap.size ≤ a.block) (hxr : x.r.length ≤ 1048576) (hx0 : ∀ a, x.ao = some a → a.block < w5.heap.size) (hh0 : ∀ a, ho' = some a → a.block < w5.heap.size) (hW : W = ((w5.setCell ⟨mb, 0, none⟩ (.slice po' d'.picks.length pc')).setCell ⟨mb, 1, none⟩ (.int .i64 d'.bound)).setCell ⟨mb, 2, none⟩ (.slice ho' (H.length + 1) hc')) :
    DcI w S mb d' po' pc' ho' hc' (H ++ [x]) W := by
  have hml := lt_of_heapT h.mbx
  have hSl := h.sb
  have hbs := hb.size
  have hba : Below wr.heap.size wr w5 := hb
  have hF : Frm (fun k => k = mb) w5 W := by
    rw [hW]
    exact (((Frm.refl (fun k => k = mb) w5).setCell ⟨mb, 0, none⟩ _ (.inl rfl)).setCell ⟨mb, 1, none⟩ _ (.inl rfl)).setCell ⟨mb, 2, none⟩ _ (.inl rfl)
  have e0 : w5.heap[mb]? = some (.cells #[.slice po d.picks.length pc, .int .i64 d.bound, .slice ho H.length hc] 50) := (hba.block mb hml).trans h.mbx
  have e1 := heap_setCell_same _ mb 0 _ _ (.slice po' d'.picks.length pc') e0
  have e2 := heap_setCell_same _ mb 1 _ _ (.int .i64 d'.bound) e1
  have e3 := heap_setCell_same _ mb 2 _ _ (.slice ho' (H.length + 1) hc') e2
  rw [← hW] at e3
  have hBw : Below w.heap.size w W := h.below.trans ((hba.mono h.below.size).trans (hF.toBelow (by have := h.below.size; have := hba.size; omega) (fun k hk => by rw [hk]; exact h.mbs)))
  have hs5 : w5.heap.size ≤ W.heap.size := by exact hF.size
  have hB5 : Below w.heap.size w w5 := h.below.trans (hb.mono h.below.size)
  refine ⟨hBw, fun k hk => by have := h.sb k hk; omega, h.so, ?_, h.mbs, h.ng, hp.back hold hB5, hold, hpc, hH.frm hF (fun a e hh => ?_) (fun y hy a e hh => ?_), fun a e => ⟨fun hS => ?_, fun hh => ?_, ?_⟩, fun y hy a e => ?_, by simpa using hhc, hhn, fun y hy => ?_⟩
  · rw [e3, List.length_append]; simp
  · have := h1 a e; omega
  · rcases List.mem_append.1 hy with hy | hy
    · exact (h.hen y hy a e).2.1 hh
    · rw [List.mem_singleton.1 hy] at e; have := h2 a e; omega
  · have := hSl _ hS; have := h1 a e; omega
  · have := h1 a e; omega
  · have := hh0 a e; omega
  · rcases List.mem_append.1 hy with hy | hy
    · obtain ⟨k1, k2, k3⟩ := h.hen y hy a e
      exact ⟨k1, k2, by omega⟩
    · rw [List.mem_singleton.1 hy] at e
      have := h2 a e
      exact ⟨fun hS => by have := hSl _ hS; omega, by omega, by have := hx0 a e; omega⟩
  · rcases List.mem_append.1 hy with hy | hy
    · exact h.rl y hy
    · rw [List.mem_singleton.1 hy]; exact hxr
end Go.Proofs.Ytagdgecmoeacgaa
