/- An argument of type []uint64, opened. -/
import Derived.Test.YtedhjdkhfndinaaTiOnce
import Derived.Deep.Slices
import Derived.SizedLaws
import Derived.ProofKit
namespace Go.Proofs.Ytedhjdkhfndinaa
open Go.RowKit Go.Deep Go.ChangeShapes Go.WideShapes
set_option linter.unusedVariables false

def u64Data {H : Type} (t : Int) : DataW H := .lit (.int .u64 t)
theorem cells_u64 : Try.prog.cellsOf 26 = 1 := by kernel_rfl
theorem bytes_u64 : Try.prog.bytesOf 26 = 8 := by kernel_rfl
theorem u64_bnd {n : Int} (h : (Lit.int .u64 n).wf = true) : 0 ≤ n ∧ n ≤ 18446744073709551615 := by
  have h1 : IntKind.u64.min = 0 := rfl
  have h2 : IntKind.u64.max = 18446744073709551615 := rfl
  simp only [Lit.wf, Bool.and_eq_true, decide_eq_true_eq, h1, h2] at h
  exact h

theorem open_u64s {H : Type} {enc : TypeId × Value → H} {W : World} {fuel : Nat} {ao : Option Addr} {len cap : Nat} {x : DataW H × List MemPlace}
    (h : DataW.trod enc Try.prog W 0 (fun _ => true) true fuel 28 [.slice ao len cap] = some x) :
    ∃ (ps : List Int) (spare : List (DataW H)), ps.length = len ∧ (x.1 = .nil ∧ ps = [] ∨ x.1 = .slice (ps.map u64Data) spare) ∧ UAt W ao ps ∧ ∀ t ∈ ps, 0 ≤ t ∧ t ≤ 18446744073709551615 := by
  rcases open_slice Try.underlying28 h with ⟨hc, hx⟩ | ⟨a, len', cap', m, n, D, Pl, hc, hb, hl, hm, hmm, hx, hel⟩
  · simp at hc
    obtain ⟨rfl, rfl, rfl⟩ := hc
    exact ⟨[], [], rfl, .inl ⟨by rw [hx], rfl⟩, fun i hp => by simp at hp, fun t ht => by simp at ht⟩
  · simp at hc
    obtain ⟨rfl, rfl, rfl⟩ := hc
    simp only [if_true] at hmm
    subst hmm
    rw [cells_u64] at hel
    have each : ∀ i, i < len → ∃ p : Int, D i = u64Data p ∧ W.cell? (a.add i) = some (.int .u64 p) ∧ (0 ≤ p ∧ p ≤ 18446744073709551615) := by
      intro i hi
      obtain ⟨cs', h1, h2⟩ := hel i (by omega)
      obtain ⟨_, hlen, hcell⟩ := World.cells?_some h1
      match cs', hlen with
      | [v0], _ =>
        obtain ⟨s1, q1, r1, w1⟩ := DataW.trod_int Try.underlying26 h2
        have e0 := hcell 0 (by omega)
        rw [add_add] at e0
        simp at q1
        subst q1
        refine ⟨s1, ?_, by simpa using e0, u64_bnd w1⟩
        have := congrArg Prod.fst r1
        simpa [u64Data] using this
    obtain ⟨f, hf⟩ : ∃ f : Nat → Int, ∀ i, i < len → _ := @choose_lt Int ⟨0⟩ len _ each
    refine ⟨(List.range len).map f, (List.range (m - len)).map fun j => D (len + j), by simp, .inr ?_, ?_, ?_⟩
    · rw [hx]
      simp only [DataW.slice.injEq, and_true]
      rw [List.map_map]
      exact List.map_congr_left fun i hi => (hf i (List.mem_range.1 hi)).1
    · intro i hi
      have hi' : i < len := by simpa using hi
      obtain ⟨_, c0, _⟩ := hf i hi'
      obtain ⟨b, off, spot⟩ := a
      have hspot : spot = none := by simpa [Addr.add] using World.cell?_spot (hf 0 (by omega)).2.1
      subst hspot
      refine ⟨b, off, rfl, ?_⟩
      rw [← add_plain]
      simpa using c0
    · intro t ht
      obtain ⟨i, hi, rfl⟩ := List.mem_map.1 ht
      exact (hf i (List.mem_range.1 hi)).2.2
theorem u64s_reach {H : Type} {ps : List Int} {spare : List (DataW H)} {d : DataW H} (hd : d = .nil ∧ ps = [] ∨ d = .slice (ps.map u64Data) spare) (hw : ∀ n ∈ d.weights Try.prog 28, n ≤ reachBytes) : ps.length * 8 ≤ 140737488351232 := by
  rcases hd with ⟨_, rfl⟩ | rfl
  · simp
  · simp only [DataW.weights, Try.underlying28, bytes_u64] at hw
    have := hw _ (List.mem_cons_self ..)
    simp only [List.length_map, reachBytes] at this
    omega
end Go.Proofs.Ytedhjdkhfndinaa
