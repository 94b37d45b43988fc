/- Layer 6 (schema): strings.Split at one byte. -/
import Derived.Test.YtbpmahchinblhaaDoorSFun3
namespace Go.Proofs.YtbpmahchinblhaaDoor
open Go.RowKit
set_option linter.unusedVariables false

theorem one_size (c : UInt8) : (⟨#[c]⟩ : ByteArray).size = 1 := rfl
theorem wsOf_length (s : ByteArray) (c : UInt8) : (wsOf s c).length = Lib.countB s ⟨#[c]⟩ + 1 := Lib.splitB_all _ (by rw [one_size]; decide) 0 _ s rfl
theorem wsOf_most (s : ByteArray) (c : UInt8) : (wsOf s c).length ≤ s.size + 1 := by
  rw [wsOf_length]
  have := Lib.countB_le ⟨#[c]⟩ (by rw [one_size]; decide) s.size s (Nat.le_refl _)
  omega
theorem splitB_size (sep : ByteArray) : ∀ (k : Nat) (s : ByteArray), ∀ x ∈ Lib.splitB sep 0 k s, x.size ≤ s.size
  | 0, s, x, hx => by
    rw [Lib.splitB_zero] at hx
    simp at hx; subst hx; exact Nat.le_refl _
  | k + 1, s, x, hx => by
    unfold Lib.splitB at hx
    split at hx
    · simp at hx; subst hx; exact Nat.le_refl _
    · rcases List.mem_cons.1 hx with rfl | hx
      · rw [ByteArray.size_extract]; omega
      · have := splitB_size sep k _ x hx
        rw [ByteArray.size_extract] at this
        omega
theorem wsOf_size (s : ByteArray) (c : UInt8) : ∀ x ∈ wsOf s c, x.size ≤ s.size := splitB_size _ _ s

theorem split_calls (s : ByteArray) (c : UInt8) (m : Int) (w : World) (hs : s.size ≤ 100000) (hm : w.cell? ⟨1, 0, none⟩ = some (.int .i64 m)) :
    Calls Tryd.prog 26 #[.string s, .string ⟨#[c]⟩] w fun e w' => e = .returned (.slice (some ⟨w.heap.size, 0, none⟩) (wsOf s c).length (wsOf s c).length) ∧ StrsAt w' w.heap.size (wsOf s c) ∧ Below w.heap.size w w' := by
  refine (Tryd.strings_Split s ⟨#[c]⟩ m w (by omega) hm (by rw [one_size]; decide)).mono ?_
  rintro e w' ⟨rfl, rfl⟩
  rw [wsOf_length]
  exact ⟨rfl, new_blk _ _, (Below.refl _ _).alloc (Nat.le_refl _) _⟩
end Go.Proofs.YtbpmahchinblhaaDoor
