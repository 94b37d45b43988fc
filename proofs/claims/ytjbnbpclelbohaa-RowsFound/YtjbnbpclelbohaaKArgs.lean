/- An argument of type []api.Part, opened. -/
import Derived.Test.YtjbnbpclelbohaaKOwn
import Derived.Test.YtjbnbpclelbohaaChecked
import Derived.Deep.Slices
import Derived.SizedLaws
import Derived.ProofKit
namespace Go.Proofs.Ytjbnbpclelbohaa
open Go.RowKit Go.Deep Go.ChangeShapes Go.WideShapes
set_option linter.unusedVariables false

def Pt.data {H : Type} (p : Pt) : DataW H := .agg [.lit (.int .i64 p.k), .lit (.string p.t.data.toList), .lit (.int .u64 p.n)]

theorem cells_part : Try.prog.cellsOf 57 = 3 := by kernel_rfl
theorem cells_int : Try.prog.cellsOf 3 = 1 := by kernel_rfl
theorem cells_string : Try.prog.cellsOf 9 = 1 := by kernel_rfl
theorem cells_u64 : Try.prog.cellsOf 53 = 1 := by kernel_rfl
theorem bytes_part : Try.prog.bytesOf 57 = 32 := by kernel_rfl

theorem int_bounds {n : Int} (h : (Lit.int .i64 n).wf = true) : -9223372036854775808 ≤ n ∧ n ≤ 9223372036854775807 := by
  have h1 : IntKind.i64.min = -9223372036854775808 := rfl
  have h2 : IntKind.i64.max = 9223372036854775807 := rfl
  simp only [Lit.wf, Bool.and_eq_true, decide_eq_true_eq, h1, h2] at h
  exact h
theorem u64_bounds {n : Int} (h : (Lit.int .u64 n).wf = true) : 0 ≤ n ∧ n ≤ 18446744073709551615 := by
  have h1 : IntKind.u64.min = 0 := rfl
  have h2 : IntKind.u64.max = 18446744073709551615 := rfl
  simp only [Lit.wf, Bool.and_eq_true, decide_eq_true_eq, h1, h2] at h
  exact h

set_option maxRecDepth 100000 in
/-- The argument's parts: where they lie, and what the datum says of them. -/
theorem open_parts {H : Type} {enc : TypeId × Value → H} {W : World} {fuel : Nat} {ao : Option Addr} {len cap : Nat} {x : DataW H × List MemPlace}
    (h : DataW.trod enc Try.prog W 0 (fun _ => true) true fuel 51 [.slice ao len cap] = some x) :
    ∃ (ps : List Pt) (spare : List (DataW H)), ps.length = len ∧ (x.1 = .nil ∧ ps = [] ∨ x.1 = .slice (ps.map Pt.data) spare) ∧ ((∀ p ∈ ps, p.t.size ≤ 140737488351232) → PartsAt W ao ps) := by
  rcases open_slice Try.underlying51 h with ⟨hc, hx⟩ | ⟨a, len', cap', m, n, D, Pl, hc, hb, hl, hm, hmm, hx, hel⟩
  · simp at hc
    obtain ⟨rfl, rfl, rfl⟩ := hc
    exact ⟨[], [], rfl, .inl ⟨by rw [hx], rfl⟩, fun _ i p hp => by simp at hp⟩
  · simp at hc
    obtain ⟨rfl, rfl, rfl⟩ := hc
    simp only [if_true] at hmm
    subst hmm
    rw [cells_part] at hel
    have each : ∀ i, i < len → ∃ p : Pt, D i = p.data ∧ W.cell? (a.add (i * 3)) = some (.int .i64 p.k) ∧ W.cell? (a.add (i * 3 + 1)) = some (.string p.t) ∧ W.cell? (a.add (i * 3 + 2)) = some (.int .u64 p.n) ∧
        (-9223372036854775808 ≤ p.k ∧ p.k ≤ 9223372036854775807) ∧ (0 ≤ p.n ∧ p.n ≤ 18446744073709551615) := by
      intro i hi
      obtain ⟨cs', h1, h2⟩ := hel i (by omega)
      obtain ⟨_, hlen, hcell⟩ := World.cells?_some h1
      obtain ⟨xs, k, hk, hxy, _, hxl, hf⟩ := DataW.trod_struct Try.underlying57 h2
      match xs, hxl, cs', hlen with
      | [y0, y1, y2], _, [v0, v1, v2], _ =>
        have g0 := hf 0 _ rfl
        have g1 := hf 1 _ rfl
        have g2 := hf 2 _ rfl
        simp [cells_int, cells_string, cells_u64] at g0 g1 g2
        have e0 := hcell 0 (by omega)
        have e1 := hcell 1 (by omega)
        have e2 := hcell 2 (by omega)
        rw [add_add] at e0 e1 e2
        obtain ⟨n0, q0, r0, w0⟩ := DataW.trod_int Try.underlying3 g0
        obtain ⟨s1, q1, r1, w1⟩ := DataW.trod_string Try.underlying9 g1
        obtain ⟨n2, q2, r2, w2⟩ := DataW.trod_int Try.underlying53 g2
        simp at q0 q1 q2
        subst q0 q1 q2
        simp only [Prod.mk.injEq] at hxy
        refine ⟨⟨n0, s1, n2⟩, ?_, by simpa using e0, by simpa using e1, by simpa using e2, int_bounds w0, u64_bounds w2⟩
        rw [hxy.1]
        simp [Pt.data, r0, r1, r2]
    obtain ⟨f, hf⟩ : ∃ f : Nat → Pt, ∀ i, i < len → _ := @choose_lt Pt ⟨⟨0, ⟨#[]⟩, 0⟩⟩ len _ each
    refine ⟨(List.range len).map f, (List.range (m - len)).map fun j => D (len + j), by simp, .inr ?_, ?_⟩
    · rw [hx]
      simp only [DataW.slice.injEq, and_true]
      rw [List.map_map]
      exact List.map_congr_left fun i hi => (hf i (List.mem_range.1 hi)).1
    · intro hts i p hp
      have hi : i < len := by have := (List.getElem?_eq_some_iff.1 hp).1; simpa using this
      have hpe : p = f i := by simp [hi] at hp; exact hp.symm
      have hpm := hts p (List.mem_of_getElem? hp)
      subst hpe
      obtain ⟨_, c0, c1, c2, wk, wn⟩ := hf i hi
      obtain ⟨b, off, spot⟩ := a
      have hspot : spot = none := by simpa [Addr.add] using World.cell?_spot (hf 0 (by omega)).2.1
      subst hspot
      refine ⟨b, off, rfl, ?_, ?_, ?_, wk, wn, hpm⟩
      · rw [← add_plain]; exact c0
      · rw [Nat.add_assoc, ← add_plain]; exact c1
      · rw [Nat.add_assoc, ← add_plain]; exact c2

theorem open_cap {H : Type} {enc : TypeId × Value → H} {W : World} {fuel : Nat} {ao : Option Addr} {len cap : Nat} {x : DataW H × List MemPlace}
    (h : DataW.trod enc Try.prog W 0 (fun _ => true) true fuel 51 [.slice ao len cap] = some x) : len ≤ cap ∧ (ao = none → cap = 0) := by
  rcases open_slice Try.underlying51 h with ⟨hc, _⟩ | ⟨a, len', cap', m, n, D, Pl, hc, _, hl, _⟩
  · simp at hc
    obtain ⟨rfl, rfl, rfl⟩ := hc
    exact ⟨Nat.le_refl _, fun _ => rfl⟩
  · simp at hc
    obtain ⟨rfl, rfl, rfl⟩ := hc
    exact ⟨hl, fun h => by simp at h⟩

theorem mem_weightsAll {H : Type} {P : Program} {e : TypeId} : ∀ {l : List (DataW H)} {d : DataW H}, d ∈ l → ∀ n ∈ d.weights P e, n ∈ DataW.weightsAll P e l
  | d0 :: l, d, hd, n, hn => by
    simp only [DataW.weightsAll, List.mem_append]
    rcases List.mem_cons.1 hd with rfl | h
    · exact .inl hn
    · exact .inr (mem_weightsAll h n hn)
  | [], _, hd, _, _ => by simp at hd

/-- By the form's own reach: how long the list and its texts can be. -/
theorem parts_reach {H : Type} {ps : List Pt} {spare : List (DataW H)} {d : DataW H} (hd : d = .nil ∧ ps = [] ∨ d = .slice (ps.map Pt.data) spare) (hw : ∀ n ∈ d.weights Try.prog 51, n ≤ reachBytes) :
    ps.length * 32 ≤ 140737488351232 ∧ ∀ p ∈ ps, p.t.size ≤ 140737488351232 := by
  rcases hd with ⟨_, rfl⟩ | rfl
  · simp
  · simp only [DataW.weights, Try.underlying51, bytes_part] at hw
    refine ⟨?_, ?_⟩
    · have := hw _ (List.mem_cons_self ..)
      simp only [List.length_map, reachBytes] at this
      omega
    · intro p hp
      have := hw p.t.data.toList.length (List.mem_cons_of_mem _ (List.mem_append_left _ (mem_weightsAll (List.mem_map_of_mem hp) _ (by
        simp [Pt.data, DataW.weights, Try.underlying57, DataW.weightsEach]))))
      simpa [reachBytes] using this

end Go.Proofs.Ytjbnbpclelbohaa
