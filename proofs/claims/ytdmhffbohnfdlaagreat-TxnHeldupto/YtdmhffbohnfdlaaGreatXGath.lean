/- A slice of whatever elements that a loop over an iterator gathers in its box. -/
import Derived.Test.YtdmhffbohnfdlaaGreatXFrom
import Derived.Test.YtdmhffbohnfdlaaGreatXFind
import Derived.Test.YtdmhffbohnfdlaaGreatXWith
import Derived.Test.YtdmhffbohnfdlaaGreatRTree
namespace Go.Proofs.YtdmhffbohnfdlaaGreat
open Go.RowKit Go.Shelf
set_option linter.unusedVariables false

/-- The slice, made since B, holds the elements l, each of which is sz cells. -/
def OwnG {α : Type} (f : α → List Value) (e : TypeId) (sz : Nat) (W : World) (B : Nat) (v : Value) (l : List α) : Prop := W.ownsRow B e sz v l.length (l.flatMap f)
/-- The slice lies in its box. -/
structure GaI {α : Type} (f : α → List Value) (e t : TypeId) (sz : Nat) (w₀ : World) (bg : Nat) (l : List α) (W : World) : Prop where
  below : Below w₀.heap.size w₀ W
  got : ∃ ao n cap, W.heap[bg]? = some (.cells #[.slice ao n cap] t) ∧ OwnG f e sz W w₀.heap.size (.slice ao n cap) l
theorem GaI.ownFrom {α : Type} {f : α → List Value} {e t : TypeId} {sz : Nat} {w₀ : World} {bg B : Nat} (hB : w₀.heap.size ≤ B) : OwnM B (fun (l : List α) W => GaI f e t sz w₀ bg l W) := fun l A C row hs hg hr => by
  obtain ⟨ao, n, cap, h1, h2⟩ := hs.got
  refine ⟨hs.below.grown hg hs.below.size (fun r e => by have := (hr r e).1; omega), ao, n, cap, heap_kept h1 hg (fun r e => (hr r e).2), World.ownsRow.kept h2 hg ?_⟩
  rcases h2.2 with ⟨h3, _⟩ | ⟨g, cap', cur, h3, _, hgb, _⟩
  · exact .inl (by rw [h3]; rfl)
  · refine .inr fun e' => ?_
    rw [h3] at e'
    obtain ⟨-, o, ho, hc⟩ := hr g (by simpa [Value.ownBlock] using e'.symm)
    rw [hgb] at ho; cases ho; cases hc
/-- What an append and the store back leave. -/
theorem GaI.appended {α : Type} {f : α → List Value} {e t : TypeId} {sz : Nat} (het : e ≠ t) (hk : ∀ ty, KTy ty → ty ≠ e ∧ ty ≠ t) {w₀ W w1 : World} {bg : Nat} {l : List α} {ao : Option Addr} {n cap : Nat} {ao' : Option Addr} {n' cap' : Nat} {x : α} {tmp : Obj} {m : Nat} (hm : m = l.length + 1) (hbg : w₀.heap.size ≤ bg) (hb : Below w₀.heap.size w₀ W) (hbox : W.heap[bg]? = some (.cells #[.slice ao n cap] t)) (hown : OwnG f e sz W w₀.heap.size (.slice ao n cap) l)
    (ho : w1.ownsRow w₀.heap.size e sz (.slice ao' n' cap') m (l.flatMap f ++ f x)) (hg : (W.alloc tmp).grownBy w1 (Value.slice ao n cap).ownBlock) :
    w1.heap[bg]? = some (.cells #[.slice ao n cap] t) ∧ KeepsOthers W (w1.setCell ⟨bg, 0, none⟩ (.slice ao' n' cap')) ∧ Kp w₀.heap.size (fun _ => False) W (w1.setCell ⟨bg, 0, none⟩ (.slice ao' n' cap')) ∧ GaI f e t sz w₀ bg (l ++ [x]) (w1.setCell ⟨bg, 0, none⟩ (.slice ao' n' cap')) := by
  subst hm
  have typed : ∀ r, (Value.slice ao n cap).ownBlock = some r → w₀.heap.size ≤ r ∧ ∃ cs, W.heap[r]? = some (.cells cs e) := fun r hr => ⟨(World.ownsRow.lt hown r hr).1, ownsRow_typed hown r hr⟩
  have kept : ∀ b, b < W.heap.size → some b ≠ (Value.slice ao n cap).ownBlock → w1.heap[b]? = W.heap[b]? := fun b hlt hne => (hg.block b (by simp; omega) hne).trans (Below.heap_alloc _ _ _ hlt)
  have keptT : ∀ (b : Nat) (cs : Array Value) (ty : TypeId), W.heap[b]? = some (.cells cs ty) → ty ≠ e → w1.heap[b]? = some (.cells cs ty) := fun b cs ty hbk hty => (kept b (lt_of_heap hbk) (fun e => by
    obtain ⟨ds, hd⟩ := (typed b e.symm).2
    rw [hbk] at hd
    simp at hd
    exact hty hd.2)).trans hbk
  have box1 := keptT bg _ _ hbox (Ne.symm het)
  have hsz : W.heap.size ≤ w1.heap.size := by have := hg.size; simp at this; omega
  have below1 : Below w₀.heap.size W w1 := ((Below.refl _ W).alloc hb.size tmp).grown hg (by have := hb.size; simp; omega) (fun r e => (typed r e).1)
  refine ⟨box1, ⟨by rw [size_setCell']; exact hsz, fun b o ho' hc => ?_⟩, ⟨below1.setCell (p := ⟨bg, 0, none⟩) hbg _, fun b cs ty hbk hty _ => ?_⟩, (hb.trans below1).setCell (p := ⟨bg, 0, none⟩) hbg _, ao', n', cap', ?_, ?_⟩
  · rw [heap_setCell_other _ _ _ _ (fun e => by
      have e' : b = bg := e
      subst e'
      rw [hbox] at ho'; cases ho'; cases hc)]
    exact (kept b (lt_of_heap ho') (fun e => by
      obtain ⟨ds, hd⟩ := (typed b e.symm).2
      rw [ho'] at hd; cases hd; cases hc)).trans ho'
  · have hne := hk ty hty
    rw [heap_setCell_other _ _ _ _ (fun e => by
      have e' : b = bg := e
      subst e'
      rw [hbox] at hbk
      simp at hbk
      exact hne.2 hbk.2.symm), keptT b cs ty hbk hne.1, hbk]
  · rw [setCell_blk box1]; rfl
  · unfold OwnG
    rw [List.flatMap_append, List.flatMap_singleton, List.length_append]
    refine ownsRow_setCell_other ho (fun e => ?_) _
    exact own_ne (ownsRow_typed ho _ e) box1 het rfl
theorem filAll' {w W : World} {tb : Nat} {T : Tr} {ne : Int} {d : Nat} {es : List En} (h : Held w W tb T ne d es) : fil (d + 1) T ⟨#[]⟩ = es := by
  rw [fil_root h.good.root, h.ents]
  refine filter_all fun e _ => ?_
  unfold notLt
  simp only [Bool.not_eq_true', decide_eq_false_iff_not]
  exact not_lt_nil _
end Go.Proofs.YtdmhffbohnfdlaaGreat
