/- Layer 3 (radix): needed. -/
import Derived.Test.YtbbekihmllllhaaRIns
namespace Go.Proofs.Ytbbekihmllllhaa
open Go.RowKit
set_option linter.unusedVariables false
variable {R : Nat → Prop}

/-- What takes a node's place in a tree. -/
def neededOf (t : Tr) : List Tr := if t.v.isSome || decide (1 < t.ks.length) then [t] else t.ks
theorem neededOf_few (t : Tr) : (neededOf t).length ≤ 1 := by
  unfold neededOf
  split
  · simp
  · rename_i h
    simp at h
    omega

set_option maxRecDepth 100000 in
theorem needed_calls (t : Tr) (w : World) (h : TAt R w t) (hf : t.ks.length ≤ 1000) (hR : ∀ b, R b → b < w.heap.size) :
    Calls Try.prog 55 #[.pointer (some ⟨t.a, 0, none⟩)] w fun e w' => ∃ x : SlV, e = .returned (.slice x.ao x.ks.length x.cap) ∧ x.ks = neededOf t ∧ x.At R w' ∧ Below w.heap.size w w' := by
  obtain ⟨-, -, -, c1, -, -, -, -, -⟩ := h.cells
  obtain ⟨y, hy, hyA, c2⟩ := h.slv
  have hyl : y.ks.length ≤ 1000 := by rw [hy]; exact hf
  have HY : Hid (y.ks = t.ks ∧ y.At R w) := ⟨hy, hyA⟩
  have hone : w.heap.size < (w.alloc (.cells #[.pointer (some ⟨t.a, 0, none⟩)] 70)).heap.size := by simp [World.size_alloc]
  have HONE : Hid (neededOf t = [t] → ∃ x : SlV, Ending.returned (.slice (some ⟨w.heap.size, 0, none⟩) 1 1) = .returned (.slice x.ao x.ks.length x.cap) ∧ x.ks = neededOf t ∧ x.At R (w.alloc (.cells #[.pointer (some ⟨t.a, 0, none⟩)] 70)) ∧ Below w.heap.size w (w.alloc (.cells #[.pointer (some ⟨t.a, 0, none⟩)] 70))) := fun hn =>
    ⟨⟨some ⟨w.heap.size, 0, none⟩, 1, [t]⟩, rfl, hn.symm, one_kid (fun e => by have := hR _ e; omega) (heap_alloc_new _ _), (Below.refl _ _).alloc (Nat.le_refl _) _⟩
  clear hone
  cases hv : t.v with
  | some v =>
    have HN : Hid (neededOf t = [t]) := by show _ = _; unfold neededOf; rw [hv]; rfl
    rw [hv] at c1
    simp only [vptr] at c1
    clear h hy hyA hv
    go_enter Try.func55, Try.ntmps55
    go_wp2
    go_ret
    exact HONE.out HN.out
  | none =>
    rw [hv] at c1
    simp only [vptr] at c1
    by_cases hl : 1 < y.ks.length
    · have HN : Hid (neededOf t = [t]) := by show _ = _; unfold neededOf; rw [hv]; rw [hy] at hl; simp [hl]
      have hd : decide ((y.ks.length : Int) > 1) = true := by simpa using (show (1 : Int) < y.ks.length by omega)
      have hd1 : (1 : Int) < (y.ks.length : Int) := by omega
      clear h hy hyA hv
      go_enter Try.func55, Try.ntmps55
      go_wp2
      go_ret
      exact HONE.out HN.out
    · have HN : Hid (neededOf t = t.ks) := by show _ = _; unfold neededOf; rw [hv]; rw [hy] at hl; simp [hl]
      have hd1 : ¬ (1 : Int) < (y.ks.length : Int) := by omega
      have hd : decide ((y.ks.length : Int) > 1) = false := by simp; omega
      clear h hy hyA hv
      go_enter Try.func55, Try.ntmps55
      go_wp2
      go_ret
      exact ⟨y, rfl, by rw [HN.out]; exact HY.out.1, HY.out.2, Below.refl _ _⟩
end Go.Proofs.Ytbbekihmllllhaa
