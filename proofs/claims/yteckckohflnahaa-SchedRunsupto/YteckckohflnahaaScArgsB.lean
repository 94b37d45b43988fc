/- An argument of type [][]bool, opened. -/
import Derived.Test.YteckckohflnahaaScArgs
import Derived.Test.YteckckohflnahaaScFair
namespace Go.Proofs.Yteckckohflnahaa
open Go.RowKit Go.Deep Go.ChangeShapes Go.WideShapes
set_option linter.unusedVariables false

def boolData {H : Type} (p : Bool) : DataW H := .lit (.bool p)
theorem cells_boolS : Try.prog.cellsOf 4 = 1 := by kernel_rfl
theorem cells_boolsS : Try.prog.cellsOf 31 = 1 := by kernel_rfl
def BoolsData {H : Type} (ps : List Bool) (d : DataW H) : Prop := d = .nil ∧ ps = [] ∨ ∃ spare, d = .slice (ps.map boolData) spare
set_option maxRecDepth 100000 in
theorem open_bools {H : Type} {enc : TypeId × Value → H} {W : World} {fuel : Nat} {ao : Option Addr} {len cap : Nat} {x : DataW H × List MemPlace}
    (h : DataW.trod enc Try.prog W 0 (fun _ => true) true fuel 31 [.slice ao len cap] = some x) :
    ∃ (ps : List Bool), ps.length = len ∧ BoolsData ps x.1 ∧ VAt W ao (ps.map bV) ∧ (ao = none → cap = 0 ∧ len = 0) := by
  rcases open_slice Try.underlying31 h with ⟨hc, hx⟩ | ⟨a, len', cap', m, n, D, Pl, hc, hb, hl, hm, hmm, hx, hel⟩
  · simp at hc
    obtain ⟨rfl, rfl, rfl⟩ := hc
    exact ⟨[], rfl, .inl ⟨by rw [hx], rfl⟩, VAt.nil _ _, fun _ => ⟨rfl, rfl⟩⟩
  · simp at hc
    obtain ⟨rfl, rfl, rfl⟩ := hc
    simp only [if_true] at hmm
    subst hmm
    rw [cells_boolS] at hel
    have each : ∀ i, i < len → ∃ p : Bool, D i = boolData p ∧ W.cell? (a.add i) = some (.bool p) := by
      intro i hi
      obtain ⟨cs', h1, h2⟩ := hel i (by omega)
      obtain ⟨_, hlen, hcell⟩ := World.cells?_some h1
      match cs', hlen with
      | [v0], _ =>
        obtain ⟨s1, q1, r1⟩ := DataW.trod_bool Try.underlying4 h2
        have e0 := hcell 0 (by omega)
        rw [add_add] at e0
        simp at q1
        subst q1
        refine ⟨s1, ?_, by simpa using e0⟩
        have := congrArg Prod.fst r1
        simpa [boolData] using this
    obtain ⟨f, hf⟩ : ∃ f : Nat → Bool, ∀ i, i < len → _ := @choose_lt Bool ⟨false⟩ len _ each
    refine ⟨(List.range len).map f, by simp, .inr ⟨(List.range (m - len)).map fun j => D (len + j), ?_⟩, ?_, fun e => (by cases e)⟩
    · rw [hx]
      simp only [DataW.slice.injEq, and_true]
      rw [List.map_map]
      exact List.map_congr_left fun i hi => (hf i (List.mem_range.1 hi)).1
    · intro i hi
      have hi' : i < len := by simpa using hi
      obtain ⟨_, c0⟩ := hf i hi'
      obtain ⟨b, off, spot⟩ := a
      have hspot : spot = none := by simpa [Addr.add] using World.cell?_spot (hf 0 (by omega)).2
      subst hspot
      refine ⟨b, off, rfl, ?_⟩
      rw [← addr_add]
      simpa [bV] using c0

set_option maxRecDepth 100000 in
theorem open_bls {H : Type} {enc : TypeId × Value → H} {W : World} {fuel : Nat} {ao : Option Addr} {len cap : Nat} {x : DataW H × List MemPlace}
    (h : DataW.trod enc Try.prog W 0 (fun _ => true) true fuel 23 [.slice ao len cap] = some x) :
    ∃ (ls : List Bl) (D : Nat → DataW H) (spare : List (DataW H)), ls.length = len ∧ (x.1 = .nil ∧ ls = [] ∨ x.1 = .slice ((List.range ls.length).map D) spare ∧ ∀ i (h : i < ls.length), BoolsData ls[i].r (D i)) ∧ RAt W ao ls ∧ (ao = none → cap = 0 ∧ len = 0) ∧ len ≤ cap := by
  rcases open_slice1 Try.underlying23 cells_boolsS h with ⟨hc, hx⟩ | ⟨a, len', cap', m, n, V, D, Pl, hc, hb, hl, hm, hmm, hx, hel⟩
  · simp at hc
    obtain ⟨rfl, rfl, rfl⟩ := hc
    exact ⟨[], fun _ => .nil, [], rfl, .inl ⟨by rw [hx], rfl⟩, fun i hp => by simp at hp, fun _ => ⟨rfl, rfl⟩, by omega⟩
  · simp at hc
    obtain ⟨rfl, rfl, rfl⟩ := hc
    simp only [if_true] at hmm
    subst hmm
    have each : ∀ i, i < len → ∃ c : Bl, W.cell? (a.add i) = some (.slice c.ao c.r.length c.cap) ∧ BoolsData c.r (D i) ∧ VAt W c.ao (c.r.map bV) ∧ (c.ao = none → c.cap = 0 ∧ c.r.length = 0) := by
      intro i hi
      obtain ⟨h1, h2⟩ := hel i (by omega)
      obtain ⟨la, ll, lc, hv⟩ : ∃ la ll lc, V i = .slice la ll lc := by
        rcases DataW.trod_slice Try.underlying31 h2 with ⟨hc, _⟩ | ⟨a, len, cap, _, _, _, _, hc, _⟩
        · simp at hc; exact ⟨none, 0, 0, hc⟩
        · simp at hc; exact ⟨some a, len, cap, hc⟩
      rw [hv] at h1 h2
      obtain ⟨ps, rfl, hd, hat, hnil⟩ := open_bools h2
      exact ⟨⟨la, lc, ps⟩, h1, hd, hat, hnil⟩
    obtain ⟨f, hf⟩ : ∃ f : Nat → Bl, ∀ i, i < len → _ := @choose_lt Bl ⟨⟨none, 0, []⟩⟩ len _ each
    refine ⟨(List.range len).map f, D, (List.range (m - len)).map fun j => D (len + j), by simp, .inr ⟨by rw [hx]; simp, fun i hi => ?_⟩, ?_, fun e => (by cases e), hl⟩
    · have hi' : i < len := by simpa using hi
      simpa using (hf i hi').2.1
    · intro i hi
      have hi' : i < len := by simpa using hi
      obtain ⟨c0, -, c1, c2⟩ := hf i hi'
      obtain ⟨b, off, spot⟩ := a
      have hspot : spot = none := by simpa [Addr.add] using World.cell?_spot (hf 0 (by omega)).1
      subst hspot
      refine ⟨b, off, rfl, ?_, by simpa using c1, by simpa using c2⟩
      rw [← addr_add]; simpa using c0
end Go.Proofs.Yteckckohflnahaa
