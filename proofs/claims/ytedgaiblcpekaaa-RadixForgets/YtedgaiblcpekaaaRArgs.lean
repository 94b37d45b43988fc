/- An argument of type []string, opened. -/
import Derived.Test.YtedgaiblcpekaaaRBuilt
import Derived.Deep.Slices
import Derived.SizedLaws
import Derived.ProofKit
namespace Go.Proofs.Ytedgaiblcpekaaa
open Go.RowKit Go.Deep Go.ChangeShapes Go.WideShapes
set_option linter.unusedVariables false

def strData {H : Type} (t : ByteArray) : DataW H := .lit (.string t.data.toList)
theorem cells_str : Try.prog.cellsOf 9 = 1 := by kernel_rfl
theorem bytes_str : Try.prog.bytesOf 9 = 16 := by kernel_rfl

theorem open_strs {H : Type} {enc : TypeId × Value → H} {W : World} {fuel : Nat} {ao : Option Addr} {len cap : Nat} {x : DataW H × List MemPlace}
    (h : DataW.trod enc Try.prog W 0 (fun _ => true) true fuel 24 [.slice ao len cap] = some x) :
    ∃ (ps : List ByteArray) (spare : List (DataW H)), ps.length = len ∧ (x.1 = .nil ∧ ps = [] ∨ x.1 = .slice (ps.map strData) spare) ∧ ((∀ p ∈ ps, p.size ≤ 140737488351232) → StrsAt W ao ps) := by
  rcases open_slice Try.underlying24 h with ⟨hc, hx⟩ | ⟨a, len', cap', m, n, D, Pl, hc, hb, hl, hm, hmm, hx, hel⟩
  · simp at hc
    obtain ⟨rfl, rfl, rfl⟩ := hc
    exact ⟨[], [], rfl, .inl ⟨by rw [hx], rfl⟩, fun _ i hp => by simp at hp⟩
  · simp at hc
    obtain ⟨rfl, rfl, rfl⟩ := hc
    simp only [if_true] at hmm
    subst hmm
    rw [cells_str] at hel
    have each : ∀ i, i < len → ∃ p : ByteArray, D i = strData p ∧ W.cell? (a.add i) = some (.string p) := by
      intro i hi
      obtain ⟨cs', h1, h2⟩ := hel i (by omega)
      obtain ⟨_, hlen, hcell⟩ := World.cells?_some h1
      match cs', hlen with
      | [v0], _ =>
        obtain ⟨s1, q1, r1, w1⟩ := DataW.trod_string Try.underlying9 h2
        have e0 := hcell 0 (by omega)
        rw [add_add] at e0
        simp at q1
        subst q1
        refine ⟨s1, ?_, by simpa using e0⟩
        have := congrArg Prod.fst r1
        simpa [strData] using this
    obtain ⟨f, hf⟩ : ∃ f : Nat → ByteArray, ∀ i, i < len → _ := @choose_lt ByteArray ⟨⟨#[]⟩⟩ len _ each
    refine ⟨(List.range len).map f, (List.range (m - len)).map fun j => D (len + j), by simp, .inr ?_, ?_⟩
    · rw [hx]
      simp only [DataW.slice.injEq, and_true]
      rw [List.map_map]
      exact List.map_congr_left fun i hi => (hf i (List.mem_range.1 hi)).1
    · intro hts i hi
      have hi' : i < len := by simpa using hi
      obtain ⟨_, c0⟩ := hf i hi'
      obtain ⟨b, off, spot⟩ := a
      have hspot : spot = none := by simpa [Addr.add] using World.cell?_spot (hf 0 (by omega)).2
      subst hspot
      refine ⟨b, off, rfl, ?_, hts _ (List.getElem_mem hi)⟩
      rw [← add_plain]
      simpa using c0

theorem mem_weightsAll' {H : Type} {P : Program} {e : TypeId} : ∀ {l : List (DataW H)} {d : DataW H}, d ∈ l → ∀ n ∈ d.weights P e, n ∈ DataW.weightsAll P e l
  | d0 :: l, d, hd, n, hn => by
    simp only [DataW.weightsAll, List.mem_append]
    rcases List.mem_cons.1 hd with rfl | h
    · exact .inl hn
    · exact .inr (mem_weightsAll' h n hn)
  | [], _, hd, _, _ => by simp at hd

/-- By the form's own reach: how long the list and its texts can be. -/
theorem strs_reach {H : Type} {ps : List ByteArray} {spare : List (DataW H)} {d : DataW H} (hd : d = .nil ∧ ps = [] ∨ d = .slice (ps.map strData) spare) (hw : ∀ n ∈ d.weights Try.prog 24, n ≤ reachBytes) :
    ps.length * 16 ≤ 140737488351232 ∧ ∀ p ∈ ps, p.size ≤ 140737488351232 := by
  rcases hd with ⟨_, rfl⟩ | rfl
  · simp
  · simp only [DataW.weights, Try.underlying24, bytes_str] at hw
    refine ⟨?_, ?_⟩
    · have := hw _ (List.mem_cons_self ..)
      simp only [List.length_map, reachBytes] at this
      omega
    · intro p hp
      have := hw p.data.toList.length (List.mem_cons_of_mem _ (List.mem_append_left _ (mem_weightsAll' (List.mem_map_of_mem hp) _ (by
        simp [strData, DataW.weights]))))
      simpa [reachBytes] using this
end Go.Proofs.Ytedgaiblcpekaaa
