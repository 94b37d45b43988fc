/- An argument of type []musterlaw14.Op, opened. -/
import Derived.Test.YtedhjdkhfndinaaTiRuns
import Derived.Test.YtedhjdkhfndinaaTiArgs
namespace Go.Proofs.Ytedhjdkhfndinaa
open Go.RowKit Go.Deep Go.ChangeShapes Go.WideShapes
set_option linter.unusedVariables false

def sopData {H : Type} (p : Int × Int × Int) : DataW H := .agg [.lit (.int .i64 p.1), .lit (.int .i64 p.2.1), .lit (.int .u64 p.2.2)]
theorem cells_sop : Try.prog.cellsOf 34 = 3 := by kernel_rfl
theorem bytes_sop : Try.prog.bytesOf 34 = 24 := by kernel_rfl
theorem cells_i64 : Try.prog.cellsOf 3 = 1 := by kernel_rfl
set_option maxRecDepth 100000 in
theorem open_sops {H : Type} {enc : TypeId × Value → H} {W : World} {fuel : Nat} {ao : Option Addr} {len cap : Nat} {x : DataW H × List MemPlace}
    (h : DataW.trod enc Try.prog W 0 (fun _ => true) true fuel 23 [.slice ao len cap] = some x) :
    ∃ (ps : List (Int × Int × Int)) (spare : List (DataW H)), ps.length = len ∧ (x.1 = .nil ∧ ps = [] ∨ x.1 = .slice (ps.map sopData) spare) ∧ SOps W ao ps ∧ ∀ p ∈ ps, 0 ≤ p.2.2 ∧ p.2.2 ≤ 18446744073709551615 := by
  rcases open_slice Try.underlying23 h with ⟨hc, hx⟩ | ⟨a, len', cap', m, n, D, Pl, hc, hb, hl, hm, hmm, hx, hel⟩
  · simp at hc
    obtain ⟨rfl, rfl, rfl⟩ := hc
    exact ⟨[], [], rfl, .inl ⟨by rw [hx], rfl⟩, fun i hp => by simp at hp, fun t ht => by simp at ht⟩
  · simp at hc
    obtain ⟨rfl, rfl, rfl⟩ := hc
    simp only [if_true] at hmm
    subst hmm
    rw [cells_sop] at hel
    have each : ∀ i, i < len → ∃ p : Int × Int × Int, D i = sopData p ∧ W.cell? (a.add (i * 3)) = some (.int .i64 p.1) ∧ W.cell? (a.add (i * 3 + 1)) = some (.int .i64 p.2.1) ∧ W.cell? (a.add (i * 3 + 2)) = some (.int .u64 p.2.2) ∧ (0 ≤ p.2.2 ∧ p.2.2 ≤ 18446744073709551615) := by
      intro i hi
      obtain ⟨cs', h1, h2⟩ := hel i (by omega)
      obtain ⟨_, hlen, hcell⟩ := World.cells?_some h1
      match cs', hlen with
      | [v0, v1, v2], _ =>
        obtain ⟨xs, k, hk, hxy, _, hxl, hf⟩ := DataW.trod_struct Try.underlying34 h2
        match xs, hxl with
        | [y0, y1, y2], _ =>
          have g0 := hf 0 _ rfl
          have g1 := hf 1 _ rfl
          have g2 := hf 2 _ rfl
          simp [cells_u64, cells_i64] at g0 g1 g2
          obtain ⟨n0, q0, r0, w0⟩ := DataW.trod_int Try.underlying3 g0
          obtain ⟨n1, q1, r1, w1⟩ := DataW.trod_int Try.underlying3 g1
          obtain ⟨n2, q2, r2, w2⟩ := DataW.trod_int Try.underlying26 g2
          simp at q0 q1 q2
          subst q0 q1 q2
          have e0 := hcell 0 (by omega)
          have e1 := hcell 1 (by omega)
          have e2 := hcell 2 (by omega)
          rw [add_add] at e0 e1 e2
          refine ⟨(n0, n1, n2), ?_, by simpa using e0, by simpa using e1, by simpa using e2, u64_bnd w2⟩
          have := congrArg Prod.fst hxy
          simpa [sopData, r0, r1, r2] using this
    obtain ⟨f, hf⟩ : ∃ f : Nat → Int × Int × Int, ∀ i, i < len → _ := @choose_lt (Int × Int × Int) ⟨(0, 0, 0)⟩ len _ each
    refine ⟨(List.range len).map f, (List.range (m - len)).map fun j => D (len + j), by simp, .inr ?_, ?_, ?_⟩
    · rw [hx]
      simp only [DataW.slice.injEq, and_true]
      rw [List.map_map]
      exact List.map_congr_left fun i hi => (hf i (List.mem_range.1 hi)).1
    · intro i hi
      have hi' : i < len := by simpa using hi
      obtain ⟨_, c0, c1, c2, _⟩ := hf i hi'
      obtain ⟨b, off, spot⟩ := a
      have hspot : spot = none := by simpa [Addr.add] using World.cell?_spot (hf 0 (by omega)).2.1
      subst hspot
      rw [Addr.add_lit] at c0 c1 c2
      refine ⟨b, off, rfl, by simpa using c0, by simpa [Nat.add_assoc] using c1, by simpa [Nat.add_assoc] using c2⟩
    · intro t ht
      obtain ⟨i, hi, rfl⟩ := List.mem_map.1 ht
      exact (hf i (List.mem_range.1 hi)).2.2.2.2
theorem sops_reach {H : Type} {ps : List (Int × Int × Int)} {spare : List (DataW H)} {d : DataW H} (hd : d = .nil ∧ ps = [] ∨ d = .slice (ps.map sopData) spare) (hw : ∀ n ∈ d.weights Try.prog 23, n ≤ reachBytes) : ps.length * 24 ≤ 140737488351232 := by
  rcases hd with ⟨_, rfl⟩ | rfl
  · simp
  · simp only [DataW.weights, Try.underlying23, bytes_sop] at hw
    have := hw _ (List.mem_cons_self ..)
    simp only [List.length_map, reachBytes] at this
    omega
end Go.Proofs.Ytedhjdkhfndinaa
