/- The marks that loops over iterators leave in a frame, one a loop; taken one after the other at the function's end. -/
import Derived.Test.YtnmndjplbcpglaaXLaw
import Derived.RangeFuncLeaves
namespace Go.Proofs.Ytnmndjplbcpglaa
open Go.RowKit Go.Shelf
set_option linter.unusedVariables false

/-! ### the marks of loops over iterators -/
def marksOf (Ds : List Nat) : List Deferred := Ds.map fun D => { target := .collected D, args := #[] }
structure MarksAt (B : Nat) (w : World) (Ds : List Nat) : Prop where
  nd : Ds.Nodup
  here : ∀ D ∈ Ds, w.heap[D]? = some (.deferred (some []))
  own : ∀ D ∈ Ds, B ≤ D
theorem leaves_marks {F : Fence} {n : Nat} {P : Program} {fn : Func} {tmps : Array Value} {R : Ending → World → Prop} {B : Nat} : ∀ (Ds : List Nat) (w : World), MarksAt B w Ds → (∀ w', Below B w w' → LeavesIn F n P fn tmps R [] .returning w') → LeavesInM F n P fn tmps R (marksOf Ds) .returning w
  | [], w, _, hf => hf w (Below.refl _ _)
  | D :: Ds, w, hM, hf => by
    have hD := hM.here D (List.mem_cons_self ..)
    have hB := hM.own D (List.mem_cons_self ..)
    have hb : Below B w (w.putObj D (.deferred none)) := (Below.refl B w).grown (grownBy_putObj' _ _ _) (by have := lt_of_heap hD; omega) (fun k e => by cases e; exact hB)
    refine ⟨by simp, .inl ⟨D, _, rfl, run_takeDeferred hD, leaves_marks Ds _ ⟨(List.nodup_cons.1 hM.nd).2, fun D' h' => (World.putObj_heap_other (fun e => ?_)).trans (hM.here D' (List.mem_cons_of_mem _ h')), fun D' h' => hM.own D' (List.mem_cons_of_mem _ h')⟩ (fun w' h => hf w' (hb.trans h))⟩⟩
    subst e
    exact (List.nodup_cons.1 hM.nd).1 h'
end Go.Proofs.Ytnmndjplbcpglaa
