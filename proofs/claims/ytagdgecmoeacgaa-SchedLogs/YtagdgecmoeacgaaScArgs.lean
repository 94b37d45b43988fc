/- An argument of type []int, opened. -/
import Derived.Test.YtagdgecmoeacgaaScBase
import Derived.Deep.Slices
import Derived.OpenShut
import Derived.SizedLaws
import Derived.ProofKit
namespace Go.Proofs.Ytagdgecmoeacgaa
open Go.RowKit Go.Deep Go.ChangeShapes Go.WideShapes
set_option linter.unusedVariables false

def intData {H : Type} (t : Int) : DataW H := .lit (.int .i64 t)
theorem cells_intS : Try.prog.cellsOf 3 = 1 := by kernel_rfl
theorem bytes_intS : Try.prog.bytesOf 3 = 8 := by kernel_rfl
theorem i64_bnd {n : Int} (h : (Lit.int .i64 n).wf = true) : -9223372036854775808 ≤ n ∧ n ≤ 9223372036854775807 := by
  exact bounds_i64 h

theorem open_ints {H : Type} {enc : TypeId × Value → H} {W : World} {fuel : Nat} {ao : Option Addr} {len cap : Nat} {x : DataW H × List MemPlace}
    (h : DataW.trod enc Try.prog W 0 (fun _ => true) true fuel 23 [.slice ao len cap] = some x) :
    ∃ (ps : List Int) (spare : List (DataW H)), ps.length = len ∧ (x.1 = .nil ∧ ps = [] ∨ x.1 = .slice (ps.map intData) spare) ∧ VAt W ao (ps.map iV) ∧ (ao = none → cap = 0 ∧ len = 0) ∧ ∀ t ∈ ps, -9223372036854775808 ≤ t ∧ t ≤ 9223372036854775807 := by
  rcases open_slice Try.underlying23 h with ⟨hc, hx⟩ | ⟨a, len', cap', m, n, D, Pl, hc, hb, hl, hm, hmm, hx, hel⟩
  · simp at hc
    obtain ⟨rfl, rfl, rfl⟩ := hc
    exact ⟨[], [], rfl, .inl ⟨by rw [hx], rfl⟩, VAt.nil _ _, fun _ => ⟨rfl, rfl⟩, fun t ht => by simp at ht⟩
  · simp at hc
    obtain ⟨rfl, rfl, rfl⟩ := hc
    simp only [if_true] at hmm
    subst hmm
    rw [cells_intS] at hel
    have each : ∀ i, i < len → ∃ p : Int, D i = intData p ∧ W.cell? (a.add i) = some (.int .i64 p) ∧ (-9223372036854775808 ≤ p ∧ p ≤ 9223372036854775807) := by
      intro i hi
      obtain ⟨cs', h1, h2⟩ := hel i (by omega)
      obtain ⟨_, hlen, hcell⟩ := World.cells?_some h1
      match cs', hlen with
      | [v0], _ =>
        obtain ⟨s1, q1, r1, w1⟩ := DataW.trod_int Try.underlying3 h2
        have e0 := hcell 0 (by omega)
        rw [add_add] at e0
        simp at q1
        subst q1
        refine ⟨s1, ?_, by simpa using e0, i64_bnd w1⟩
        have := congrArg Prod.fst r1
        simpa [intData] using this
    obtain ⟨f, hf⟩ : ∃ f : Nat → Int, ∀ i, i < len → _ := @choose_lt Int ⟨0⟩ len _ each
    refine ⟨(List.range len).map f, (List.range (m - len)).map fun j => D (len + j), by simp, .inr ?_, ?_, fun e => (by cases e), ?_⟩
    · rw [hx]
      simp only [DataW.slice.injEq, and_true]
      rw [List.map_map]
      exact List.map_congr_left fun i hi => (hf i (List.mem_range.1 hi)).1
    · intro i hi
      have hi' : i < len := by simpa using hi
      obtain ⟨_, c0, _⟩ := hf i hi'
      obtain ⟨b, off, spot⟩ := a
      have hspot : spot = none := by simpa [Addr.add] using World.cell?_spot (hf 0 (by omega)).2.1
      subst hspot
      refine ⟨b, off, rfl, ?_⟩
      rw [← addr_add]
      simpa [iV] using c0
    · intro t ht
      obtain ⟨i, hi, rfl⟩ := List.mem_map.1 ht
      exact (hf i (List.mem_range.1 hi)).2.2
theorem ints_reach {H : Type} {ps : List Int} {spare : List (DataW H)} {d : DataW H} (hd : d = .nil ∧ ps = [] ∨ d = .slice (ps.map intData) spare) (hw : ∀ n ∈ d.weights Try.prog 23, n ≤ reachBytes) : ps.length * 8 ≤ 140737488351232 := by
  rcases hd with ⟨_, rfl⟩ | rfl
  · simp
  · simp only [DataW.weights, Try.underlying23, bytes_intS] at hw
    have := hw _ (List.mem_cons_self ..)
    simp only [List.length_map, reachBytes] at this
    omega
end Go.Proofs.Ytagdgecmoeacgaa
