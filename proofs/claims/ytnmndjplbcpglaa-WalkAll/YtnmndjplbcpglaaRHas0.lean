/- Layer 3 (radix): what a tree holds. -/
import Derived.Test.YtnmndjplbcpglaaRInsM
namespace Go.Proofs.Ytnmndjplbcpglaa
open Go.RowKit
set_option linter.unusedVariables false

/-- The tree holds x for the key k. -/
inductive Has : Tr → List UInt8 → Value → Prop
  | here {t x} (h : t.v = some x) : Has t t.path x.x
  | kid {t c k x} (hc : c ∈ t.ks) (h : Has c k x) : Has t k x

theorem Has.pre {t : Tr} {k : List UInt8} {x : Value} (h : Has t k x) (ht : WF t) : t.path <+: k := by
  induction h with
  | here h => exact List.prefix_refl _
  | kid hc h ih => exact (ht.ext' _ hc).1.trans (ih (ht.kids' _ hc))
theorem Has.own {t : Tr} {k : List UInt8} {x : Value} (h : Has t k x) (ht : WF t) (hl : k.length ≤ t.p.size) : ∃ v, t.v = some v ∧ v.x = x := by
  cases h with
  | here h => exact ⟨_, h, rfl⟩
  | kid hc h =>
    have h1 := (h.pre (ht.kids' _ hc)).length_le
    rw [path_length] at h1
    have h2 := (ht.ext' _ hc).2
    omega
theorem Has.byte {t c : Tr} {k : List UInt8} {x : Value} (h : Has c k x) (ht : WF t) (hc : c ∈ t.ks) : c.byte t.p.size = k.getD t.p.size 0 :=
  (prefix_getD (h.pre (ht.kids' _ hc)) _ (by rw [path_length]; exact (ht.ext' _ hc).2)).symm
theorem Has.down {t : Tr} {k : List UInt8} {x : Value} (h : Has t k x) (ht : WF t) (hl : t.p.size < k.length) : ∃ c ∈ t.ks, Has c k x ∧ c.byte t.p.size = k.getD t.p.size 0 := by
  cases h with
  | here h => rw [path_length] at hl; omega
  | kid hc h => exact ⟨_, hc, h, h.byte ht hc⟩
theorem WF.inj {t c d : Tr} (ht : WF t) (hc : c ∈ t.ks) (hd : d ∈ t.ks) (h : c.byte t.p.size = d.byte t.p.size) : c = d := by
  obtain ⟨i, hi, rfl⟩ := List.getElem_of_mem hc
  obtain ⟨j, hj, rfl⟩ := List.getElem_of_mem hd
  rcases Nat.lt_trichotomy i j with h1 | h1 | h1
  · have := lt_of_sorted ht.ord' h1 hj
    rw [h] at this; exact absurd this (UInt8.lt_irrefl _)
  · subst h1; rfl
  · have := lt_of_sorted ht.ord' h1 hi
    rw [h] at this; exact absurd this (UInt8.lt_irrefl _)
theorem key_eq {t : Tr} {k : ByteArray} (hp : t.path <+: k.data.toList) (hs : t.p.size = k.size) : t.p = k := by
  have h : t.path = k.data.toList := hp.eq_of_length (by rw [path_length, hs]; simp)
  cases hk : k with
  | mk d =>
    cases ht : t.p with
    | mk e =>
      unfold Tr.path at h
      rw [hk, ht] at h
      simp only [ByteArray.mk.injEq]
      exact Array.toList_inj.1 h

end Go.Proofs.Ytnmndjplbcpglaa
