/- Layer 3 (radix): trees built one key after the other, with whatever values. -/
import Derived.Test.YtedgaiblcpekaaaRSim
import Derived.Test.YtedgaiblcpekaaaRAlive
namespace Go.Proofs.Ytedgaiblcpekaaa
open Go.RowKit
set_option linter.unusedVariables false

/-- The keys were put in one after the other, the i-th with the value f i; n entries. -/
inductive Chain (f : Nat → ByteArray → Value) : List ByteArray → Tr → Int → Prop
  | nil (a g) : Chain f [] (.nd a kE none [] g) 0
  | snoc {l T k v T' N n init c} (h : Chain f l T n) (hv : v.x = f l.length k) (hA : Along k.data.toList T (init ++ [c])) (hi : InsR N k v T T') : Chain f (l ++ [k]) T' (n + plusNew (valAt c k))

theorem Chain.wf {f : Nat → ByteArray → Value} {l : List ByteArray} {T : Tr} {n : Int} (h : Chain f l T n) : WF T ∧ T.p = kE ∧ Dep (l.length + 1) T ∧ 0 ≤ n ∧ n ≤ l.length := by
  induction h with
  | nil a g => exact ⟨leaf_wf _ _ _ _, rfl, leaf_dep (by simp), by omega, by simp⟩
  | @snoc l T k v T' N n init c h hv hA hi ih =>
    obtain ⟨h1, h2, h3, h4, h5⟩ := ih
    have hw := hi.wf h1 (root_pre h2 _)
    have hp : 0 ≤ plusNew (valAt c k) ∧ plusNew (valAt c k) ≤ 1 := by unfold plusNew; split <;> omega
    exact ⟨hw.1, hw.2.trans h2, by rw [List.length_append]; exact hi.dep h3, by omega, by simp; omega⟩

theorem Chain.inv {f : Nat → ByteArray → Value} {m : List ByteArray} {T' : Tr} {n' : Int} (h : Chain f m T' n') : (m = [] ∧ n' = 0 ∧ ∃ a g, T' = .nd a kE none [] g) ∨ ∃ l T k v N n init c, m = l ++ [k] ∧ Chain f l T n ∧ v.x = f l.length k ∧ Along k.data.toList T (init ++ [c]) ∧ InsR N k v T T' ∧ n' = n + plusNew (valAt c k) := by
  cases h with
  | nil a g => exact .inl ⟨rfl, rfl, a, g, rfl⟩
  | snoc h hv hA hi => exact .inr ⟨_, _, _, _, _, _, _, _, rfl, h, hv, hA, hi, rfl⟩

/-- Values at the same place. -/
def same (f g : Nat → ByteArray → Value) (p : ByteArray) (x y : Value) : Prop := ∃ i : Nat, x = f i p ∧ y = g i p

theorem simL_last {ρ : ByteArray → Value → Value → Prop} {a b : List Tr} {c d : Tr} (h : SimL ρ (a ++ [c]) (b ++ [d])) : Sim ρ c d := by
  have hl : a.length = b.length := by simpa using h.1
  have := h.2 a.length (by simp) (by simp [hl])
  rw [List.getElem_append_right (Nat.le_refl _), List.getElem_append_right (by omega)] at this
  simpa [hl] using this

theorem chain_sim {f g : Nat → ByteArray → Value} {l : List ByteArray} {T : Tr} {n : Int} (h : Chain f l T n) : ∀ {U : Tr} {m : Int}, Chain g l U m → Sim (same f g) T U ∧ n = m := by
  induction h with
  | nil a b =>
    intro U m h'
    rcases h'.inv with ⟨_, h2, a', b', rfl⟩ | ⟨l, T, k, v, N, n, init, c, he, _⟩
    · exact ⟨Sim.of rfl trivial SimL.nil, h2.symm⟩
    · simp at he
  | @snoc l T k v T' N n init c h hv hA hi ih =>
    intro U m h'
    rcases h'.inv with ⟨he, _⟩ | ⟨l', U', k', v', N', n', init', c', he, hc, hv', hA', hi', hn⟩
    · simp at he
    · obtain ⟨e1, e2⟩ := List.append_inj' he rfl
      simp at e2
      subst e1 e2
      obtain ⟨hs, hnn⟩ := ih hc
      obtain ⟨w1, r1, -⟩ := h.wf
      obtain ⟨w2, r2, -⟩ := hc.wf
      refine ⟨ins_sim hi hi' hs w1 w2 (root_pre r1 _) ⟨_, hv, hv'⟩, ?_⟩
      have hcd := simL_last (along_sim hA hA' hs w1 w2)
      have : plusNew (valAt c k) = plusNew (valAt c' k) := by
        unfold plusNew valAt
        rw [hcd.p]
        split
        · rfl
        · rw [hcd.v.some_iff]
      rw [hn, hnn, this]
end Go.Proofs.Ytedgaiblcpekaaa
