/- Layer 3 (radix): what a tree holds for a key is what lies at the end of the key's way. -/
import Derived.Test.YtpnmkfbdfggnaaaGreatRHasI
namespace Go.Proofs.YtpnmkfbdfggnaaaGreat
open Go.RowKit
set_option linter.unusedVariables false

theorem has_along {k : ByteArray} {t : Tr} {l : List Tr} (h : Along k.data.toList t l) : ∀ {init : List Tr} {c : Tr}, l = init ++ [c] → WF t → t.path <+: k.data.toList → ∀ x, Has t k.data.toList x ↔ ∃ y, valAt c k = some y ∧ y.x = x := by
  induction h with
  | @stop t h =>
    intro init c hl ht hp x
    have hc : c = t := by
      cases init with
      | nil => simpa using hl.symm
      | cons a r => simp at hl
    subst hc
    have hle := hp.length_le
    rw [path_length, key_len] at hle
    have hno : ∀ d ∈ c.ks, ∀ x, ¬ Has d k.data.toList x := by
      intro d hd x hx
      have h1 := List.find?_eq_none.1 h d hd
      exact h1 (by simpa using hx.pre (ht.kids' _ hd))
    rw [has_tr]
    unfold valAt
    constructor
    · rintro (⟨y, h1, h2, h3⟩ | ⟨d, hd, h1⟩)
      · refine ⟨y, ?_, h3.symm⟩
        have := congrArg List.length h2
        rw [path_length, key_len] at this
        rw [if_neg (by omega)]
        exact h1
      · exact absurd h1 (hno d hd x)
    · rintro ⟨y, h1, h2⟩
      split at h1
      · cases h1
      · exact .inl ⟨y, h1, (path_eq hp (by omega)).symm, h2.symm⟩
  | @go t d l h r ih =>
    intro init c hl ht hp x
    obtain ⟨hd, hdp⟩ := nx_mem h
    have hinit : ∃ i', l = i' ++ [c] := by
      cases init with
      | nil => simp at hl; exact absurd hl.2 r.ne
      | cons a r => simp at hl; exact ⟨r, hl.2⟩
    obtain ⟨i', hi'⟩ := hinit
    rw [← ih hi' (ht.kids' d hd) hdp x]
    have hx := ht.ext' d hd
    constructor
    · intro h1
      obtain ⟨e, he, h2, h3⟩ := h1.down ht (by have := hdp.length_le; rw [path_length] at this; omega)
      have : e = d := ht.inj he hd (by
        rw [h3]
        exact prefix_getD hdp _ (by rw [path_length]; exact hx.2))
      exact this ▸ h2
    · exact fun h1 => .kid hd h1

/-! ### how many -/

end Go.Proofs.YtpnmkfbdfggnaaaGreat
