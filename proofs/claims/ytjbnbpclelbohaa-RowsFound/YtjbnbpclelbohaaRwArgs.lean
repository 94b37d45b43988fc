/- Layer 7 (rows): an argument of type api.Row, opened. -/
import Derived.Test.YtjbnbpclelbohaaRwOwn
import Derived.Test.YtjbnbpclelbohaaKArgs
namespace Go.Proofs.Ytjbnbpclelbohaa
open Go.RowKit Go.Deep Go.ChangeShapes Go.WideShapes
set_option linter.unusedVariables false

def strData {H : Type} (t : ByteArray) : DataW H := .lit (.string t.data.toList)
theorem cells_cell : Try.prog.cellsOf 55 = 3 := by kernel_rfl
theorem cells_strs : Try.prog.cellsOf 39 = 1 := by kernel_rfl
theorem cells_cellsl : Try.prog.cellsOf 22 = 1 := by kernel_rfl
theorem cells_row : Try.prog.cellsOf 24 = 1 := by kernel_rfl
theorem bytes_cell : Try.prog.bytesOf 55 = 48 := by kernel_rfl
theorem bytes_str : Try.prog.bytesOf 9 = 16 := by kernel_rfl

def ListData {H : Type} (l : List ByteArray) (d : DataW H) : Prop := d = .nil ∧ l = [] ∨ ∃ sp, d = .slice (l.map strData) sp
def CellData {H : Type} (c : CV) (d : DataW H) : Prop := ∃ dl, d = .agg [.lit (.string c.t.data.toList), .lit (.int .u64 c.n), dl] ∧ ListData c.l dl

theorem open_list {H : Type} {enc : TypeId × Value → H} {W : World} {fuel : Nat} {ao : Option Addr} {len cap : Nat} {x : DataW H × List MemPlace}
    (h : DataW.trod enc Try.prog W 0 (fun _ => true) true fuel 39 [.slice ao len cap] = some x) :
    ∃ l : List ByteArray, l.length = len ∧ ListData l x.1 ∧ CellsAt W ao (l.map Value.string) := by
  rcases open_slice Try.underlying39 h with ⟨hc, hx⟩ | ⟨a, len', cap', m, n, D, Pl, hc, hb, hl, hm, hmm, hx, hel⟩
  · simp at hc
    obtain ⟨rfl, rfl, rfl⟩ := hc
    exact ⟨[], rfl, .inl ⟨by rw [hx], rfl⟩, fun h => absurd rfl h⟩
  · simp at hc
    obtain ⟨rfl, rfl, rfl⟩ := hc
    simp only [if_true] at hmm
    subst hmm
    rw [cells_string] at hel
    have each : ∀ i, i < len → ∃ p : ByteArray, D i = strData p ∧ W.cell? (a.add i) = some (.string p) := by
      intro i hi
      obtain ⟨cs', h1, h2⟩ := hel i (by omega)
      obtain ⟨_, hlen, hcell⟩ := World.cells?_some h1
      match cs', hlen with
      | [v0], _ =>
        obtain ⟨s1, q1, r1, w1⟩ := DataW.trod_string Try.underlying9 h2
        have e0 := hcell 0 (by omega)
        rw [add_add] at e0
        simp at q1
        subst q1
        refine ⟨s1, ?_, by simpa using e0⟩
        have := congrArg Prod.fst r1
        simpa [strData] using this
    obtain ⟨f, hf⟩ : ∃ f : Nat → ByteArray, ∀ i, i < len → _ := @choose_lt ByteArray ⟨⟨#[]⟩⟩ len _ each
    refine ⟨(List.range len).map f, by simp, .inr ⟨(List.range (m - len)).map fun j => D (len + j), ?_⟩, fun hne => ?_⟩
    · rw [hx]
      simp only [DataW.slice.injEq, and_true]
      rw [List.map_map]
      exact List.map_congr_left fun i hi => (hf i (List.mem_range.1 hi)).1
    · have h0 : 0 < len := by
        rcases Nat.eq_zero_or_pos len with h | h
        · subst h; exact absurd rfl hne
        · exact h
      obtain ⟨b, off, spot⟩ := a
      have hspot : spot = none := by simpa [Addr.add] using World.cell?_spot (hf 0 h0).2
      subst hspot
      refine ⟨b, off, rfl, fun j u hj => ?_⟩
      have hj' : j < len := by have := (List.getElem?_eq_some_iff.1 hj).1; simpa using this
      have hu : u = .string (f j) := by simp [hj'] at hj; exact hj.symm
      rw [hu, ← add_plain]
      exact (hf j hj').2

def CV.szOk (c : CV) : Prop := c.t.size ≤ 140737488351232 ∧ (∀ s ∈ c.l, s.size ≤ 140737488351232) ∧ c.l.length ≤ 8796093022208
set_option maxRecDepth 100000 in
theorem open_cells {H : Type} {enc : TypeId × Value → H} {W : World} {fuel : Nat} {ao : Option Addr} {len cap : Nat} {x : DataW H × List MemPlace}
    (h : DataW.trod enc Try.prog W 0 (fun _ => true) true fuel 22 [.slice ao len cap] = some x) :
    ∃ (cs : List CV) (D : Nat → DataW H) (spare : List (DataW H)), cs.length = len ∧ (x.1 = .nil ∧ cs = [] ∨ x.1 = .slice ((List.range cs.length).map D) spare ∧ ∀ i (h : i < cs.length), CellData cs[i] (D i)) ∧ ((∀ c ∈ cs, c.szOk) → RowAt W ao cs) := by
  rcases open_slice Try.underlying22 h with ⟨hc, hx⟩ | ⟨a, len', cap', m, n, D, Pl, hc, hb, hl, hm, hmm, hx, hel⟩
  · simp at hc
    obtain ⟨rfl, rfl, rfl⟩ := hc
    exact ⟨[], fun _ => .nil, [], rfl, .inl ⟨by rw [hx], rfl⟩, fun _ => ⟨fun h => absurd rfl h, fun c hc => by simp at hc, fun c hc => by simp at hc⟩⟩
  · simp at hc
    obtain ⟨rfl, rfl, rfl⟩ := hc
    simp only [if_true] at hmm
    subst hmm
    rw [cells_cell] at hel
    have each : ∀ i, i < len → ∃ c : CV, CellData c (D i) ∧ W.cell? (a.add (i * 3)) = some (.string c.t) ∧ W.cell? (a.add (i * 3 + 1)) = some (.int .u64 c.n) ∧ W.cell? (a.add (i * 3 + 2)) = some (.slice c.la c.l.length c.lc) ∧ (0 ≤ c.n ∧ c.n ≤ 18446744073709551615) ∧ CellsAt W c.la (c.l.map Value.string) := by
      intro i hi
      obtain ⟨cs', h1, h2⟩ := hel i (by omega)
      obtain ⟨_, hlen, hcell⟩ := World.cells?_some h1
      obtain ⟨xs, k, hk, hxy, _, hxl, hf⟩ := DataW.trod_struct Try.underlying55 h2
      match xs, hxl, cs', hlen with
      | [y0, y1, y2], _, [v0, v1, v2], _ =>
        have g0 := hf 0 _ rfl
        have g1 := hf 1 _ rfl
        have g2 := hf 2 _ rfl
        simp [cells_strs, cells_string, cells_u64] at g0 g1 g2
        have e0 := hcell 0 (by omega)
        have e1 := hcell 1 (by omega)
        have e2 := hcell 2 (by omega)
        rw [add_add] at e0 e1 e2
        obtain ⟨s0, q0, r0, w0⟩ := DataW.trod_string Try.underlying9 g0
        obtain ⟨n1, q1, r1, w1⟩ := DataW.trod_int Try.underlying53 g1
        simp at q0 q1
        subst q0 q1
        obtain ⟨la, ll, lc, hv2⟩ : ∃ la ll lc, v2 = .slice la ll lc := by
          rcases DataW.trod_slice Try.underlying39 g2 with ⟨hc, _⟩ | ⟨a, len, cap, _, _, _, _, hc, _⟩
          · simp at hc; exact ⟨_, _, _, hc⟩
          · simp at hc; exact ⟨_, _, _, hc⟩
        subst hv2
        obtain ⟨l, rfl, hld, hca⟩ := open_list g2
        simp only [Prod.mk.injEq] at hxy
        refine ⟨⟨s0, n1, l, la, lc⟩, ⟨y2.1, ?_, hld⟩, by simpa using e0, by simpa using e1, by simpa using e2, u64_bounds w1, hca⟩
        rw [hxy.1]
        simp [r0, r1]
    obtain ⟨f, hf⟩ : ∃ f : Nat → CV, ∀ i, i < len → _ := @choose_lt CV ⟨noC⟩ len _ each
    have hlen : ((List.range len).map f).length = len := by simp
    refine ⟨(List.range len).map f, D, (List.range (m - len)).map fun j => D (len + j), hlen, .inr ⟨?_, fun i hi => ?_⟩, fun hsz => ⟨fun hne => ?_, fun c hc => ?_, fun c hc => ?_⟩⟩
    · rw [hx, hlen]
    · have hi' : i < len := by simpa using hi
      have := (hf i hi').1
      simpa using this
    · have h0 : 0 < len := by
        rcases Nat.eq_zero_or_pos len with h | h
        · subst h; exact absurd rfl hne
        · exact h
      obtain ⟨b, off, spot⟩ := a
      have hspot : spot = none := by simpa [Addr.add] using World.cell?_spot (hf 0 h0).2.1
      subst hspot
      refine ⟨b, off, rfl, fun j u hj => ?_⟩
      have hjl : j < len * 3 := by
        have := (List.getElem?_eq_some_iff.1 hj).1
        unfold ccs at this
        rw [flat_length _ 3 (fun _ => rfl), hlen] at this
        exact this
      have hi : j / 3 < len := by omega
      have hg : ((List.range len).map f)[j / 3]? = some (f (j / 3)) := by simp [hi]
      have hfa := flat_at (fun c : CV => [Value.string c.t, .int .u64 c.n, .slice c.la c.l.length c.lc]) 3 (fun _ => rfl) ((List.range len).map f) (j / 3) (j % 3) _ hg (by omega)
      have hjj : j / 3 * 3 + j % 3 = j := by omega
      rw [hjj] at hfa
      have hj2 : ([Value.string (f (j / 3)).t, .int .u64 (f (j / 3)).n, .slice (f (j / 3)).la (f (j / 3)).l.length (f (j / 3)).lc] : List Value)[j % 3]? = some u := by rw [← hfa]; exact hj
      obtain ⟨_, c0, c1, c2, _, _⟩ := hf _ hi
      rw [← add_plain]
      have hm3 : j % 3 = 0 ∨ j % 3 = 1 ∨ j % 3 = 2 := by omega
      rcases hm3 with h3 | h3 | h3
      · rw [h3] at hj2 hjj
        have hu : u = .string (f (j / 3)).t := by simpa using hj2.symm
        rw [hu, ← hjj, Nat.add_zero]
        rw [show (j / 3 * 3) / 3 = j / 3 by omega]
        exact c0
      · rw [h3] at hj2 hjj
        have hu : u = .int .u64 (f (j / 3)).n := by simpa using hj2.symm
        rw [hu, ← hjj]
        rw [show (j / 3 * 3 + 1) / 3 = j / 3 by omega]
        exact c1
      · rw [h3] at hj2 hjj
        have hu : u = .slice (f (j / 3)).la (f (j / 3)).l.length (f (j / 3)).lc := by simpa using hj2.symm
        rw [hu, ← hjj]
        rw [show (j / 3 * 3 + 2) / 3 = j / 3 by omega]
        exact c2
    · obtain ⟨i, hi, rfl⟩ := List.mem_map.1 hc
      exact (hf i (List.mem_range.1 hi)).2.2.2.2.2
    · obtain ⟨h1, h2, h3⟩ := hsz c hc
      obtain ⟨i, hi, rfl⟩ := List.mem_map.1 hc
      exact ⟨h1, (hf i (List.mem_range.1 hi)).2.2.2.2.1, h2, h3⟩

theorem list_reach {H : Type} {l : List ByteArray} {d : DataW H} (hd : ListData l d) (hw : ∀ n ∈ d.weights Try.prog 39, n ≤ reachBytes) : l.length * 16 ≤ 140737488351232 ∧ ∀ p ∈ l, p.size ≤ 140737488351232 := by
  rcases hd with ⟨_, rfl⟩ | ⟨sp, rfl⟩
  · simp
  · simp only [DataW.weights, Try.underlying39, bytes_str] at hw
    refine ⟨?_, ?_⟩
    · have := hw _ (List.mem_cons_self ..)
      simp only [List.length_map, reachBytes] at this
      omega
    · intro p hp
      have := hw p.data.toList.length (List.mem_cons_of_mem _ (List.mem_append_left _ (mem_weightsAll (List.mem_map_of_mem hp) _ (by
        simp [strData, DataW.weights]))))
      simpa [reachBytes] using this
/-- By the form's own reach: how long the row, its texts and lists can be. -/
theorem row_reach {H : Type} {cs : List CV} {D : Nat → DataW H} {spare : List (DataW H)} {d : DataW H} (hd : d = .nil ∧ cs = [] ∨ d = .slice ((List.range cs.length).map D) spare ∧ ∀ i (h : i < cs.length), CellData cs[i] (D i)) (hw : ∀ n ∈ d.weights Try.prog 22, n ≤ reachBytes) :
    cs.length * 48 ≤ 140737488351232 ∧ ∀ c ∈ cs, c.szOk := by
  rcases hd with ⟨_, rfl⟩ | ⟨rfl, hD⟩
  · simp
  · simp only [DataW.weights, Try.underlying22, bytes_cell] at hw
    refine ⟨?_, ?_⟩
    · have := hw _ (List.mem_cons_self ..)
      simp only [List.length_map, List.length_range, reachBytes] at this
      omega
    · intro c hc
      obtain ⟨i, hi, rfl⟩ := List.getElem_of_mem hc
      obtain ⟨dl, hd, hl⟩ := hD i hi
      have hm : ∀ n ∈ (D i).weights Try.prog 55, n ≤ reachBytes := fun n hn => hw n (List.mem_cons_of_mem _ (List.mem_append_left _ (mem_weightsAll (List.mem_map_of_mem (List.mem_range.2 hi)) n hn)))
      rw [hd] at hm
      simp only [DataW.weights, Try.underlying55] at hm
      have h1 : cs[i].t.data.toList.length ≤ reachBytes := hm _ (by simp [DataW.weightsEach, DataW.weights])
      have h2 := list_reach hl fun n hn => hm n (by simp [DataW.weightsEach, hn])
      exact ⟨by simpa [reachBytes] using h1, h2.2, by omega⟩

/-- An argument of type Row. -/
theorem open_row {H : Type} {enc : TypeId × Value → H} {W : World} {fuel : Nat} {v : Value} {x : DataW H × List MemPlace}
    (h : DataW.trod enc Try.prog W 0 (fun _ => true) true fuel 24 [v] = some x) :
    ∃ (ao : Option Addr) (len cap : Nat) (y : DataW H × List MemPlace) (k : Nat), v = .slice ao len cap ∧ x.1 = .agg [y.1] ∧ DataW.trod enc Try.prog W 0 (fun _ => true) true k 22 [.slice ao len cap] = some y := by
  obtain ⟨xs, k, hk, hxy, _, hxl, hf⟩ := DataW.trod_struct Try.underlying24 h
  match xs, hxl with
  | [y0], _ =>
    have g0 := hf 0 _ rfl
    simp [cells_cellsl] at g0
    rcases DataW.trod_slice Try.underlying22 g0 with ⟨hc, _⟩ | ⟨a, len, cap, _, _, _, _, hc, _⟩
    · simp at hc
      subst hc
      exact ⟨none, 0, 0, y0, k, rfl, by rw [hxy]; rfl, g0⟩
    · simp at hc
      subst hc
      exact ⟨some a, len, cap, y0, k, rfl, by rw [hxy]; rfl, g0⟩
end Go.Proofs.Ytjbnbpclelbohaa
