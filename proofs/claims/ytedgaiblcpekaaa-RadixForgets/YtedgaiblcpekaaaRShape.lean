/- Layer 3 (radix): the tree of "ab", "abc", "ax". -/
import Derived.Test.YtedgaiblcpekaaaRLook
namespace Go.Proofs.Ytedgaiblcpekaaa
open Go.RowKit
set_option linter.unusedVariables false

abbrev kE : ByteArray := ⟨#[]⟩
abbrev kA : ByteArray := ⟨#[97]⟩
abbrev kAB : ByteArray := ⟨#[97, 98]⟩
abbrev kABC : ByteArray := ⟨#[97, 98, 99]⟩
abbrev kAX : ByteArray := ⟨#[97, 120]⟩

def v7 (v : Vl) : Prop := v.x = .int .i64 7

/-- The trees on the way. -/
inductive Shape : Nat → Tr → Prop
  | zero (a g) : Shape 0 (.nd a kE none [] g)
  | one (a g b h v) (hv : v7 v) : Shape 1 (.nd a kE none [.nd b kAB (some v) [] h] g)
  | two (a g b h c i v u) (hv : v7 v) : Shape 2 (.nd a kE none [.nd b kAB (some v) [.nd c kABC (some u) [] i] h] g)
  | three (a g b h c i d j e m v u x) (hv : v7 v) : Shape 3 (.nd a kE none [.nd d kA none [.nd b kAB (some v) [.nd c kABC (some u) [] i] h, .nd e kAX (some x) [] m] j] g)

theorem shape0 {T : Tr} (h : Shape 0 T) : ∃ c, Along kAB.data.toList T ([] ++ [c]) ∧ valAt c kAB = none ∧ ∀ N v T', v7 v → InsR N kAB v T T' → Shape 1 T' := by
  cases h with
  | zero a g =>
    refine ⟨_, .stop rfl, rfl, fun N v T' hv hI => ?_⟩
    cases hI with
    | entry hn h => cases h with
      | here ha hg hp => exact absurd (show (0 : Nat) = 2 from hp) (by decide)
      | leaf ha hg hl hgl hp hno => exact .one _ _ _ _ _ hv
      | join ha hg hp hq hc hb hn hJ => exact absurd hq (by simp [Tr.ks])
    | down hn hp h ha hg => exact absurd hn (by simp [nx, Tr.ks])

theorem shape1 {T : Tr} (h : Shape 1 T) : ∃ t c, Along kABC.data.toList T ([t] ++ [c]) ∧ valAt c kABC = none ∧ ∀ N v T', InsR N kABC v T T' → Shape 2 T' := by
  cases h with
  | one a g b hh v0 hv0 =>
    refine ⟨_, _, .go (c := .nd b kAB (some v0) [] hh) rfl (.stop rfl), rfl, fun N v T' hI => ?_⟩
    cases hI with
    | entry hn h => exact absurd hn (by simp [nx, Tr.ks, Tr.path, Tr.p])
    | down hn hp h ha hg =>
      have e : nx (.nd a kE none [.nd b kAB (some v0) [] hh] g) kABC.data.toList = some (.nd b kAB (some v0) [] hh) := rfl
      rw [e] at hn
      simp only [Option.some.injEq] at hn
      subst hn
      cases h with
      | entry hn h => cases h with
        | here ha hg hp => exact absurd (show (2 : Nat) = 3 from hp) (by decide)
        | leaf ha hg hl hgl hp hno => exact .two _ _ _ _ _ _ _ _ hv0
        | join ha hg hp hq hc hb hn hJ => exact absurd hq (by simp [Tr.ks])
      | down hn hp h ha hg => exact absurd hn (by simp [nx, Tr.ks])

theorem ext1 : kAX.extract 0 1 = kA := by decide
theorem shape2 {T : Tr} (h : Shape 2 T) : ∃ c, Along kAX.data.toList T ([] ++ [c]) ∧ valAt c kAX = none ∧ ∀ N v T', InsR N kAX v T T' → Shape 3 T' := by
  cases h with
  | two a g b h c i v0 u0 hv0 =>
    refine ⟨_, .stop rfl, rfl, fun N v T' hI => ?_⟩
    cases hI with
    | down hn hp h ha hg => exact absurd hn (by simp [nx, Tr.ks, Tr.path, Tr.p])
    | entry hn h => cases h with
      | here ha hg hp => exact absurd (show (0 : Nat) = 2 from hp) (by decide)
      | leaf ha hg hl hgl hp hno => exact absurd (show true = false from hno) (by decide)
      | @join a' g' cc J ha hg hp hq hc hb hn hJ =>
        have hc' : Tr.nd b kAB (some v0) [.nd c kABC (some u0) [] i] h = cc := hc
        subst hc'
        show Shape 3 (.nd a' kE none [J] g')
        cases hJ with
        | above ha hg hp hl => exact absurd (show (2 : Nat) < 2 from hl) (by decide)
        | @less m _ _ _ _ ha hg hl hgl h1 h2 he hlt =>
          exfalso
          match m, h1, hlt with
          | 0, _, hlt => exact absurd (show (97 : UInt8) < 97 from hlt) (by decide)
          | 1, _, hlt => exact absurd (show (120 : UInt8) < 98 from hlt) (by decide)
          | m + 2, h1, _ => have h1' : m + 2 < 2 := h1; omega
        | @more m a2 g2 l2 gl2 ha hg hl hgl h1 h2 he hlt =>
          match m, h1, hlt with
          | 0, _, hlt => exact absurd (show (97 : UInt8) < 97 from hlt) (by decide)
          | 1, _, hlt => rw [ext1]; exact .three _ _ _ _ _ _ _ _ _ _ _ _ _ hv0
          | m + 2, h1, _ => have h1' : m + 2 < 2 := h1; omega

abbrev kABD : ByteArray := ⟨#[97, 98, 100]⟩
abbrev kAY : ByteArray := ⟨#[97, 121]⟩
theorem shape3 {T : Tr} (h : Shape 3 T) : (∃ l, Along kABD.data.toList T l ∧ (best T l).p = kAB ∧ held (best T l).v = .int .i64 7 ∧ (best T l).v.isSome = true ∧ best T l ∈ l) ∧ ∃ t c, Along kAY.data.toList T ([t] ++ [c]) ∧ c.p = kA := by
  cases h with
  | three a g b h c i d j e m v u x hv =>
    refine ⟨⟨_, .go (c := .nd d kA none [.nd b kAB (some v) [.nd c kABC (some u) [] i] h, .nd e kAX (some x) [] m] j) rfl (.go (c := .nd b kAB (some v) [.nd c kABC (some u) [] i] h) rfl (.stop rfl)), rfl, hv, rfl, ?_⟩, _, _, .go (c := .nd d kA none [.nd b kAB (some v) [.nd c kABC (some u) [] i] h, .nd e kAX (some x) [] m] j) rfl (.stop rfl), rfl⟩
    show Tr.nd b kAB (some v) [.nd c kABC (some u) [] i] h ∈ _
    simp
end Go.Proofs.Ytedgaiblcpekaaa
