import Derived.Test.YtgjcchafmcccjaaDoorKPartsG
import Derived.Laws.AppendOwnNone
import Derived.Lib.SliceRun
import Derived.Deep.DeepMust
import Derived.Deep.QuietTactic
import Derived.BigQuiet
import Derived.Laws.StructEq
/- Layer 7 (rows): slices.Clone, lowParts, slices.Contains over parts. -/
namespace Go.Proofs.YtgjcchafmcccjaaDoor
open Go.RowKit
set_option linter.unusedVariables false

def lowPt (p : Pt) : Pt := ⟨p.k, lowS p.t, p.n⟩
theorem lowPt_wf {p : Pt} (h : p.wf) : (lowPt p).wf := ⟨h.1, h.2.1, by show (lowS p.t).size ≤ _; rw [lowS_size]; exact h.2.2⟩
theorem parts_cells {w : World} {b off : Nat} {ps : List Pt} (h : PartsAt w (some ⟨b, off, none⟩) ps) : ∀ j u, (pcs ps)[j]? = some u → w.cell? ((⟨b, off, none⟩ : Addr).add j) = some u := by
  intro j u hj
  have hadd : (⟨b, off, none⟩ : Addr).add j = ⟨b, off + j, none⟩ := by unfold Addr.add; split <;> simp_all
  have hlt : j < ps.length * 3 := by have := (List.getElem?_eq_some_iff.1 hj).1; rw [pcs_length] at this; exact this
  have hi : j / 3 < ps.length := by omega
  have hg : ps[j / 3]? = some ps[j / 3] := List.getElem?_eq_getElem hi
  have hr : j % 3 < 3 := Nat.mod_lt _ (by decide)
  have h1 := pcs_at ps (j / 3) _ hg (j % 3) hr
  rw [show j / 3 * 3 + j % 3 = j by omega, hj] at h1
  obtain ⟨b', off', e, c0, c1, c2, _⟩ := h (j / 3) _ hg
  simp only [Option.some.injEq, Addr.mk.injEq] at e
  obtain ⟨rfl, rfl, _⟩ := e
  rw [hadd]
  have h3 : j % 3 = 0 ∨ j % 3 = 1 ∨ j % 3 = 2 := by omega
  rcases h3 with h3 | h3 | h3
  · rw [h3] at h1
    simp only [Pt.cells, List.getElem?_cons_zero, Option.some.injEq] at h1
    rw [show off + j = off + j / 3 * 3 by omega, c0, h1]
  · rw [h3] at h1
    simp only [Pt.cells, List.getElem?_cons_succ, List.getElem?_cons_zero, Option.some.injEq] at h1
    rw [show off + j = off + j / 3 * 3 + 1 by omega, c1, h1]
  · rw [h3] at h1
    simp only [Pt.cells, List.getElem?_cons_succ, List.getElem?_cons_zero, Option.some.injEq] at h1
    rw [show off + j = off + j / 3 * 3 + 2 by omega, c2, h1]
theorem parts_wf {w : World} {ao : Option Addr} {ps : List Pt} (h : PartsAt w ao ps) : ∀ p ∈ ps, p.wf := by
  intro p hp
  obtain ⟨i, hi, rfl⟩ := List.getElem_of_mem hp
  obtain ⟨_, _, _, _, _, _, hw⟩ := h i _ (List.getElem?_eq_getElem hi)
  exact hw

/-- One part's text in a slice of the call's own. -/
theorem pcs_set (ps : List Pt) (k : Nat) (hk : k < ps.length) (t : ByteArray) : (pcs ps).set (k * 3 + 1) (.string t) = pcs (ps.set k ⟨ps[k].k, t, ps[k].n⟩) := by
  induction ps generalizing k with
  | nil => simp at hk
  | cons p ps ih =>
    have e : ∀ (q : Pt) (qs : List Pt), pcs (q :: qs) = q.cells ++ pcs qs := fun q qs => by simp [pcs]
    cases k with
    | zero =>
      rw [e, List.set_cons_zero, e]
      simp [Pt.cells]
    | succ k =>
      rw [e, List.set_cons_succ, e, List.set_append_right _ _ (by simp [Pt.cells]; omega), show (k + 1) * 3 + 1 - p.cells.length = k * 3 + 1 by simp [Pt.cells]; omega, ih k (by simpa using hk)]
      simp
theorem low_take (ps : List Pt) (k : Nat) (hk : k < ps.length) : ((ps.take k).map lowPt ++ ps.drop k).set k ⟨ps[k].k, lowS ps[k].t, ps[k].n⟩ = (ps.take (k + 1)).map lowPt ++ ps.drop (k + 1) := by
  rw [List.set_append_right _ _ (by simp; omega), show k - ((ps.take k).map lowPt).length = 0 by simp; omega, List.drop_eq_getElem_cons hk, List.set_cons_zero, parts_take ps k hk, List.map_append, List.append_assoc]
  rfl
theorem low_at (ps : List Pt) (k : Nat) (hk : k < ps.length) : ((ps.take k).map lowPt ++ ps.drop k)[k]? = some ps[k] := by
  rw [List.getElem?_append_right (by simp; omega), show k - ((ps.take k).map lowPt).length = 0 by simp; omega, List.getElem?_drop, Nat.add_zero, List.getElem?_eq_getElem hk]
theorem low_len (ps : List Pt) (k : Nat) : ((ps.take k).map lowPt ++ ps.drop k).length = ps.length := by simp; omega

end Go.Proofs.YtgjcchafmcccjaaDoor

/- The walk of SameParts. -/
namespace Go.Proofs.YtgjcchafmcccjaaDoor
open Go.RowKit
set_option linter.unusedVariables false

def ptEq (p q : Pt) : Bool := p.k == q.k && (p.t.toList == q.t.toList && p.n == q.n)

theorem ptEq_iff (p q : Pt) : ptEq p q = true ↔ p = q := by
  obtain ⟨k, t, n⟩ := p
  obtain ⟨k', t', n'⟩ := q
  simp only [ptEq, Bool.and_eq_true, beq_iff_eq, Pt.mk.injEq]
  constructor
  · rintro ⟨h1, h2, h3⟩
    refine ⟨h1, ?_, h3⟩
    rw [ByteArray.toList_eq, ByteArray.toList_eq] at h2
    cases t; cases t'
    simpa using Array.toList_inj.1 h2
  · rintro ⟨rfl, rfl, rfl⟩; exact ⟨rfl, rfl, rfl⟩

def sameB : List Pt → List Pt → Bool
  | [], [] => true
  | p :: ps, q :: qs => ptEq p q && sameB ps qs
  | _, _ => false
theorem sameB_iff (ps qs : List Pt) : sameB ps qs = true ↔ ps = qs := by
  induction ps generalizing qs with
  | nil => cases qs <;> simp [sameB]
  | cons p ps ih =>
    cases qs with
    | nil => simp [sameB]
    | cons q qs => simp only [sameB, Bool.and_eq_true, ptEq_iff, ih, List.cons.injEq]
theorem sameB_ne {ps qs : List Pt} (h : ¬ ps = qs) : false = sameB ps qs := by
  cases he : sameB ps qs with
  | false => rfl
  | true => exact absurd ((sameB_iff _ _).1 he) h
theorem sameB_eq {ps qs : List Pt} (h : ps = qs) : true = sameB ps qs := ((sameB_iff _ _).2 h).symm

end Go.Proofs.YtgjcchafmcccjaaDoor

/- Layer 7 (rows): slices.Contains over parts. -/
namespace Go.Proofs.YtgjcchafmcccjaaDoor
open Go.RowKit
set_option linter.unusedVariables false

def idxPt (q : Pt) (ps : List Pt) : Int := match ps.findIdx? (ptEq q) with | some i => (i : Int) | none => -1
theorem idxPt_hit {q : Pt} {ps : List Pt} {k : Nat} (hk : k < ps.length) (h : ptEq q ps[k] = true) (hb : noneTo (ptEq q) ps k) : (k : Int) = idxPt q ps := by
  have : ps.findIdx? (ptEq q) = some k := by
    rw [List.findIdx?_eq_some_iff_getElem]
    exact ⟨hk, h, fun j hj => by simp [hb j (by omega) hj]⟩
  simp [idxPt, this]
theorem idxPt_none {q : Pt} {ps : List Pt} {k : Nat} (hk : ps.length ≤ k) (hb : noneTo (ptEq q) ps k) : -1 = idxPt q ps := by
  have : ps.findIdx? (ptEq q) = none := by
    rw [List.findIdx?_eq_none_iff]
    intro x hx
    obtain ⟨j, hj, rfl⟩ := List.getElem_of_mem hx
    exact hb j hj (by omega)
  simp [idxPt, this]
theorem idxPt_any (q : Pt) (ps : List Pt) : decide (0 ≤ idxPt q ps) = ps.any (ptEq q) := by
  unfold idxPt
  cases h : ps.findIdx? (ptEq q) with
  | none =>
    have : ps.any (ptEq q) = false := by
      rw [List.any_eq_false]
      intro x hx
      rw [List.findIdx?_eq_none_iff] at h
      simp [h x hx]
    rw [this]; rfl
  | some i =>
    have : ps.any (ptEq q) = true := by
      rw [List.findIdx?_eq_some_iff_getElem] at h
      obtain ⟨hi, h1, _⟩ := h
      exact List.any_eq_true.2 ⟨_, List.getElem_mem hi, h1⟩
    rw [this]
    simp

end Go.Proofs.YtgjcchafmcccjaaDoor

/- Layer 7 (rows): a row in memory; ownParts, elementsOf. -/
namespace Go.Proofs.YtgjcchafmcccjaaDoor
open Go.RowKit
set_option linter.unusedVariables false

/-- A cell with the slice that holds its list. -/
structure CV where
  t : ByteArray
  n : Int
  l : List ByteArray
  la : Option Addr
  lc : Nat
def ccs (cs : List CV) : List Value := cs.flatMap fun c => [.string c.t, .int .u64 c.n, .slice c.la c.l.length c.lc]
def CV.wf (c : CV) : Prop := c.t.size ≤ 140737488351232 ∧ (0 ≤ c.n ∧ c.n ≤ 18446744073709551615) ∧ (∀ s ∈ c.l, s.size ≤ 140737488351232) ∧ c.l.length ≤ 8796093022208
theorem CellsAt.cel {w : World} {ao : Option Addr} {cs : List CV} (h : CellsAt w ao (ccs cs)) (k : Nat) (hk : k < cs.length) :
    ∃ b off, ao = some ⟨b, off, none⟩ ∧ w.cell? ⟨b, off + k * 3, none⟩ = some (.string cs[k].t) ∧ w.cell? ⟨b, off + k * 3 + 1, none⟩ = some (.int .u64 cs[k].n) ∧ w.cell? ⟨b, off + k * 3 + 2, none⟩ = some (.slice cs[k].la cs[k].l.length cs[k].lc) := by
  obtain ⟨b, off, ha, hc⟩ := h (flat_ne _ 3 (fun _ => rfl) (by decide) hk)
  have hg : cs[k]? = some cs[k] := by simp [hk]
  refine ⟨b, off, ha, hc _ _ ?_, ?_, ?_⟩
  · exact flat_at _ 3 (fun _ => rfl) cs k 0 _ hg (by decide)
  · rw [Nat.add_assoc]; exact hc _ _ (flat_at _ 3 (fun _ => rfl) cs k 1 _ hg (by decide))
  · rw [Nat.add_assoc]; exact hc _ _ (flat_at _ 3 (fun _ => rfl) cs k 2 _ hg (by decide))
structure RowAt (w : World) (ca : Option Addr) (cs : List CV) : Prop where
  row : CellsAt w ca (ccs cs)
  lst : ∀ c ∈ cs, CellsAt w c.la (c.l.map Value.string)
  wf : ∀ c ∈ cs, c.wf
theorem RowAt.below {w w' : World} {ca : Option Addr} {cs : List CV} (h : RowAt w ca cs) (hb : Below w.heap.size w w') : RowAt w' ca cs := ⟨h.row.below hb, fun c hc => (h.lst c hc).below hb, h.wf⟩

def noC : CV := ⟨⟨#[]⟩, 0, [], none, 0⟩
def noF : Fd := ⟨⟨#[]⟩, 0⟩
def cellP (fs : List Fd) (cs : List CV) (e : ByteArray) (p : Int) : Pt :=
  ⟨partK (fs.getD p.toNat noF).k, if (fs.getD p.toNat noF).k = 1 then (cs.getD p.toNat noC).t else if (fs.getD p.toNat noF).k = 3 then e else ⟨#[]⟩, if (fs.getD p.toNat noF).k = 2 then (cs.getD p.toNat noC).n else 0⟩
def ownP (fs : List Fd) (x : Ix) (cs : List CV) (e : ByteArray) : List Pt := if x.l then (x.ov.map (cellP fs cs e)).map lowPt else x.ov.map (cellP fs cs e)
theorem cellP_at {fs : List Fd} {cs : List CV} (e : ByteArray) {p : Nat} (h1 : p < fs.length) (h2 : p < cs.length) : cellP fs cs e (p : Int) = ⟨partK fs[p].k, if fs[p].k = 1 then cs[p].t else if fs[p].k = 3 then e else ⟨#[]⟩, if fs[p].k = 2 then cs[p].n else 0⟩ := by
  unfold cellP
  rw [show ((p : Int).toNat) = p from rfl, List.getD_eq_getElem?_getD, List.getElem?_eq_getElem h1, List.getD_eq_getElem?_getD, List.getElem?_eq_getElem h2]
  rfl
theorem cellP_wf {fs : List Fd} {cs : List CV} {e : ByteArray} {p : Nat} (h1 : p < fs.length) (h2 : p < cs.length) (hw : cs[p].wf) (he : e.size ≤ 140737488351232) : (cellP fs cs e (p : Int)).wf := by
  rw [cellP_at e h1 h2]
  refine ⟨?_, ?_, ?_⟩
  · show _ ≤ partK _ ∧ partK _ ≤ _
    unfold partK
    split
    · exact ⟨by omega, by omega⟩
    · split
      · exact ⟨by omega, by omega⟩
      · exact ⟨by omega, by omega⟩
  · dsimp only
    split
    · exact hw.2.1
    · exact ⟨by omega, by omega⟩
  · dsimp only
    split
    · exact hw.1
    · split
      · exact he
      · show (0 : Nat) ≤ _
        omega

/-- What is asked of an index over a row's cells. -/
structure OvOk (x : XV) (fs : List Fd) (cs : List CV) : Prop where
  one : 0 < x.x.ov.length
  most : x.x.ov.length ≤ 4
  place : ∀ p ∈ x.x.ov, 0 ≤ p ∧ p < fs.length
  same : cs.length = fs.length
  fmost : fs.length ≤ 16
  kind : ∀ f ∈ fs, 1 ≤ f.k ∧ f.k ≤ 3

end Go.Proofs.YtgjcchafmcccjaaDoor
