import Derived.Test.YtgjcchafmcccjaaGreatDoorSRIndex
import Derived.Test.YtgjcchafmcccjaaGreatDoorRwOwn
/- Layer 6 (schema): what the document's line comes to. -/
namespace Go.Proofs.YtgjcchafmcccjaaGreatDoor
open Go.RowKit
set_option linter.unusedVariables false

/-- What line answers, by what the line comes to. -/
def LineR (B : Nat) (w : World) (o : Out) (e : Ending) (w' : World) : Prop :=
  match o with
  | .error (l, c) => Fr B w w' ∧ ∃ v, e = .returned (.tuple #[v, .int .i64 c])
  | .ok st => Fr B w w' ∧ ∃ v ts, e = .returned (.tuple #[v, .int .i64 0]) ∧ tbs ts = st.1 ∧ Tabs w' B v ts

theorem row_fr {B B' : Nat} {w w' : World} {v : Value} {n : Nat} {l : List Value} (h : w.ownsRow B 9 1 v n l) (hf : Fr B' w w') : w'.ownsRow B 9 1 v n l := by
  refine ⟨h.1, ?_⟩
  rcases h.2 with h | ⟨g, cap, cur, hv, hb, hg, r⟩
  · exact .inl h
  · exact .inr ⟨g, cap, cur, hv, hb, hf.strs g cur hg, r⟩
theorem words_cell {w : World} {g : Nat} {ws : List ByteArray} (hc : CellsAt w (some ⟨g, 0, none⟩) (ws.map Value.string)) (k : Nat) (h : k < ws.length) : w.cell? ⟨g, k, none⟩ = some (.string ws[k]) := by
  obtain ⟨b1, o1, e, c⟩ := hc.str k h
  simp only [Option.some.injEq, Addr.mk.injEq] at e
  obtain ⟨rfl, rfl, _⟩ := e
  simpa using c
theorem cell_set_other {w : World} {b i c j : Nat} {v x : Value} (h : w.cell? ⟨b, i, none⟩ = some x) (hne : b ≠ c) : (w.setCell ⟨c, j, none⟩ v).cell? ⟨b, i, none⟩ = some x := by
  have := heap_setCell_other w ⟨c, j, none⟩ b v (by simpa using hne)
  simp only [World.cell?] at h ⊢
  rw [this]
  exact h
end Go.Proofs.YtgjcchafmcccjaaGreatDoor

/- Layer 6 (schema): the document's line of a table. -/
namespace Go.Proofs.YtgjcchafmcccjaaGreatDoor
open Go.RowKit
set_option linter.unusedVariables false

end Go.Proofs.YtgjcchafmcccjaaGreatDoor

/- Layer 6 (schema): the document's line of a field. -/
namespace Go.Proofs.YtgjcchafmcccjaaGreatDoor
open Go.RowKit
set_option linter.unusedVariables false
attribute [local go_sem] Oper.semAt_some

end Go.Proofs.YtgjcchafmcccjaaGreatDoor

/- Layer 6 (schema): the document's line of an index. -/
namespace Go.Proofs.YtgjcchafmcccjaaGreatDoor
open Go.RowKit
set_option linter.unusedVariables false
attribute [local go_sem] Oper.semAt_some

theorem idxP_good {t : TV} {x : Ix} {ns : List ByteArray} (h : idxP t.tb x ns = 0) : t.xs.length ≠ 8 ∧ ns.length ≤ 4 ∧ x.ov.contains (-1) = false := by
  rw [idxP_tv] at h
  split at h
  · cases h
  · split at h
    · cases h
    · next h8 =>
      split at h
      · cases h
      · next hc => exact ⟨fun e => h8 (.inl e), by omega, by simpa using hc⟩
theorem rIndex_idxP (ln : Int) (ws : List ByteArray) (st : St) (t : Tb) (h3 : ¬ ws.length < 3) (hz : (flagsW (ws.drop 3)).2.length = 0) (hn : ¬ (nameB (ws.getD 1 ⟨#[]⟩) = false ∨ (wsOf (ws.getD 2 ⟨#[]⟩) 44).all nameB = false)) (ht : st.1.getLast? = some t) (X : Ix) (hX : X = ⟨ws.getD 1 ⟨#[]⟩, (wsOf (ws.getD 2 ⟨#[]⟩) 44).map (placeF t.fs), (flagsW (ws.drop 3)).1.1, (flagsW (ws.drop 3)).1.2.1, (flagsW (ws.drop 3)).1.2.2⟩) :
    rIndex ln ws st = if idxP t X (wsOf (ws.getD 2 ⟨#[]⟩) 44) = 0 then .ok (st.1.dropLast ++ [{ t with xs := t.xs ++ [X] }], st.2) else .error (ln, idxP t X (wsOf (ws.getD 2 ⟨#[]⟩) 44)) := by
  subst hX
  unfold rIndex idxP
  rw [if_neg h3, if_neg (by omega), if_neg hn, ht]
  dsimp only
  split
  · rfl
  · split
    · rfl
    · split
      · rfl
      · split
        · rfl
        · rfl

end Go.Proofs.YtgjcchafmcccjaaGreatDoor

/- Layer 6 (schema): the document's Parse. -/
namespace Go.Proofs.YtgjcchafmcccjaaGreatDoor
open Go.RowKit
set_option linter.unusedVariables false

theorem formP_range (ws : List ByteArray) : formP ws = 0 ∨ formP ws = 61 ∨ formP ws = 62 := by
  unfold formP
  repeat' split
  all_goals simp
theorem rTable_out (ln : Int) (ws : List ByteArray) (st : St) : (∀ l c, rTable ln ws st = .error (l, c) → c ≠ 0 ∧ ((c = 68 ∧ l = st.2) ∨ (c ≠ 68 ∧ l = ln))) ∧ (∀ st', rTable ln ws st = .ok st' → st'.2 = ln) := by
  unfold rTable
  refine ⟨fun l c h => ?_, fun st' h => ?_⟩
  · repeat' split at h
    all_goals first | (simp only [Except.error.injEq, Prod.mk.injEq] at h; obtain ⟨rfl, rfl⟩ := h; simp) | cases h
  · repeat' split at h
    all_goals first | (simp only [Except.ok.injEq] at h; subst h; rfl) | cases h
theorem rField_out (ln : Int) (ws : List ByteArray) (st : St) : (∀ l c, rField ln ws st = .error (l, c) → c ≠ 0 ∧ ((c = 68 ∧ l = st.2) ∨ (c ≠ 68 ∧ l = ln))) ∧ (∀ st', rField ln ws st = .ok st' → st'.2 = st.2) := by
  unfold rField
  refine ⟨fun l c h => ?_, fun st' h => ?_⟩
  · repeat' split at h
    all_goals first | (simp only [Except.error.injEq, Prod.mk.injEq] at h; obtain ⟨rfl, rfl⟩ := h; simp) | cases h
  · repeat' split at h
    all_goals first | (simp only [Except.ok.injEq] at h; subst h; rfl) | cases h
theorem rIndex_out (ln : Int) (ws : List ByteArray) (st : St) : (∀ l c, rIndex ln ws st = .error (l, c) → c ≠ 0 ∧ ((c = 68 ∧ l = st.2) ∨ (c ≠ 68 ∧ l = ln))) ∧ (∀ st', rIndex ln ws st = .ok st' → st'.2 = st.2) := by
  unfold rIndex
  refine ⟨fun l c h => ?_, fun st' h => ?_⟩
  · repeat' split at h
    all_goals first | (simp only [Except.error.injEq, Prod.mk.injEq] at h; obtain ⟨rfl, rfl⟩ := h; simp) | cases h
  · repeat' split at h
    all_goals first | (simp only [Except.ok.injEq] at h; subst h; rfl) | cases h
theorem rLine_err {ln : Int} {ws : List ByteArray} {st : St} {l c : Int} (h : rLine ln ws st = .error (l, c)) : c ≠ 0 ∧ ((c = 68 ∧ l = st.2) ∨ (c ≠ 68 ∧ l = ln)) := by
  unfold rLine at h
  split at h
  · exact (rTable_out ln ws st).1 l c h
  · split at h
    · exact (rField_out ln ws st).1 l c h
    · split at h
      · exact (rIndex_out ln ws st).1 l c h
      · simp only [Except.error.injEq, Prod.mk.injEq] at h
        obtain ⟨rfl, rfl⟩ := h
        simp
theorem rLine_ok {ln : Int} {ws : List ByteArray} {st st' : St} (h : rLine ln ws st = .ok st') : st'.2 = if ws.getD 0 ⟨#[]⟩ = tableW then ln else st.2 := by
  unfold rLine at h
  split at h
  · next h0 => rw [if_pos h0]; exact (rTable_out ln ws st).2 st' h
  · next h0 =>
    rw [if_neg h0]
    split at h
    · exact (rField_out ln ws st).2 st' h
    · split at h
      · exact (rIndex_out ln ws st).2 st' h
      · cases h

/-- The document's Parse ahead of line k + 1. -/
structure PaI (w : World) (lb lc : Nat) (ls : List ByteArray) (k : Nat) (v : Value) (ts : List TV) (bg : Int) (wr : World) : Prop where
  run : rLines 1 ls ([], 0) = rLines (k + 1) (ls.drop k) (tbs ts, bg)
  tb : Tabs wr (w.heap.size + 1) v ts
  nr : wr.ownsRow w.heap.size 9 1 (.slice (some ⟨lb, 0, none⟩) ls.length lc) ls.length (ls.map Value.string)
  rs : wr.heap[w.heap.size]? = some (.cells #[.slice none 0 0] 31)
  be : Below w.heap.size w wr
theorem PaI.cell {w : World} {lb lc : Nat} {ls : List ByteArray} {k : Nat} {v : Value} {ts : List TV} {bg : Int} {wr : World} (h : PaI w lb lc ls k v ts bg wr) (j : Nat) (hj : j < ls.length) : wr.cell? ⟨lb, j, none⟩ = some (.string ls[j]) := words_cell (row_cells h.nr) j hj
def PParsed (w : World) (o : Except (Int × Int) (List Tb)) (e : Ending) (w' : World) : Prop :=
  match o with
  | .error (l, c) => e = .returned (.tuple #[.agg #[.slice none 0 0], .int .i64 l, .int .i64 c]) ∧ Below w.heap.size w w'
  | .ok us => Below w.heap.size w w' ∧ ∃ ao cap ts, e = .returned (.tuple #[.agg #[.slice ao ts.length cap], .int .i64 0, .int .i64 0]) ∧ tbs ts = us ∧ Tabs w' w.heap.size (.slice ao ts.length cap) ts
end Go.Proofs.YtgjcchafmcccjaaGreatDoor

/- Layer 7 (rows): elementsOf, usesOwn, fitCells. -/
namespace Go.Proofs.YtgjcchafmcccjaaGreatDoor
open Go.RowKit
set_option linter.unusedVariables false
attribute [local go_sem] Oper.semAt_some

/-- The place of the index's list field. -/
def listP (fs : List Fd) (ov : List Int) : Option Int := ov.find? fun p => decide ((fs.getD p.toNat noF).k = 3)
def elemsOf (fs : List Fd) (ov : List Int) (cs : List CV) : List ByteArray := match listP fs ov with | some p => (cs.getD p.toNat noC).l | none => [⟨#[]⟩]
theorem elems_hit {fs : List Fd} {ov : List Int} {cs : List CV} {k p : Nat} (hk : k < ov.length) (hp : ov[k] = (p : Int)) (h1 : p < fs.length) (h2 : p < cs.length) (h3 : fs[p].k = 3) (hn : noneTo (fun p => decide ((fs.getD p.toNat noF).k = 3)) ov k) : elemsOf fs ov cs = cs[p].l := by
  have : listP fs ov = some (p : Int) := by
    unfold listP
    rw [List.find?_eq_some_iff_getElem]
    refine ⟨?_, k, hk, hp, fun j hj => ?_⟩
    · rw [show ((p : Int).toNat) = p from rfl, List.getD_eq_getElem?_getD, List.getElem?_eq_getElem h1]
      simpa using h3
    · have h := hn j (by omega) hj
      simpa using h
  unfold elemsOf
  rw [this]
  dsimp only
  rw [show ((p : Int).toNat) = p from rfl, List.getD_eq_getElem?_getD, List.getElem?_eq_getElem h2]
  rfl
theorem elems_none {fs : List Fd} {ov : List Int} {cs : List CV} {k : Nat} (hk : ov.length ≤ k) (hn : noneTo (fun p => decide ((fs.getD p.toNat noF).k = 3)) ov k) : elemsOf fs ov cs = [⟨#[]⟩] := by
  have : listP fs ov = none := by
    unfold listP
    rw [List.find?_eq_none]
    intro x hx
    obtain ⟨j, hj, rfl⟩ := List.getElem_of_mem hx
    have h := hn j hj (by omega)
    simpa using h
  unfold elemsOf
  rw [this]

set_option maxRecDepth 100000 in
set_option maxHeartbeats 1000000 in
theorem elementsOf_calls (fa : Option Addr) (fc : Nat) (fs : List Fd) (x : XV) (ca : Option Addr) (cc : Nat) (cs : List CV) (w w0 : World) (hok : OvOk x fs cs) (hf : CellsAt w fa (fcs fs)) (ho : CellsAt w x.va (ics x.x.ov)) (hr : RowAt w ca cs) (hr0 : RowAt w0 ca cs) :
    Calls Tryz.prog 52 #[.slice fa fs.length fc, .agg #[.string x.x.n, .slice x.va x.x.ov.length x.vc, .bool x.x.u, .bool x.x.l, .bool x.x.s], .slice ca cs.length cc] w fun e' w' => (∃ ao c, e' = .returned (.slice ao (elemsOf fs x.x.ov cs).length c) ∧ CellsAt w' ao ((elemsOf fs x.x.ov cs).map Value.string) ∧ (∀ g off, ao = some ⟨g, off, none⟩ → 0 < (elemsOf fs x.x.ov cs).length → g < w0.heap.size ∨ ∃ q, w'.heap[g]? = some (.cells q 9))) ∧ Below w.heap.size w w' := by
  have HOK : Hid (OvOk x fs cs) := hok
  have HF : Hid (CellsAt w fa (fcs fs)) := hf
  have HO : Hid (CellsAt w x.va (ics x.x.ov)) := ho
  have HR : Hid (RowAt w ca cs) := hr
  have HR0 : Hid (RowAt w0 ca cs) := hr0
  have hfm := hok.fmost
  have hom := hok.most
  clear hok hf ho hr hr0
  obtain ⟨⟨xn, ov, u, l, s⟩, va, vc⟩ := x
  dsimp only at *
  go_enter Tryz.func52, Tryz.ntmps52
  go_wp2
  go_loopw [8, 12] (fun a8 i wr => ∃ k : Nat, k ≤ ov.length ∧ i = .int .i64 k ∧ Hid (noneTo (fun p => decide ((fs.getD p.toNat noF).k = 3)) ov k) ∧ Hid (Below w.heap.size w wr)) (fun _ i _ => ov.length - (intOf i).toNat)
  case atStart => exact ⟨0, Nat.zero_le _, rfl, noneTo.zero _ _, (Below.refl _ _).alloc (Nat.le_refl _) _⟩
  case round =>
    obtain ⟨k, hk, rfl, HN, HB⟩ := hrel
    by_cases hlt : k < ov.length
    · obtain ⟨ob, oo, rfl, c0⟩ := (HO.out.below HB.out).num k hlt
      have hpl := HOK.out.place ov[k] (List.getElem_mem hlt)
      obtain ⟨p, hp⟩ : ∃ p : Nat, ov[k] = (p : Int) := ⟨ov[k].toNat, by omega⟩
      have hpf : p < fs.length := by omega
      have hpc : p < cs.length := by have := HOK.out.same; omega
      have HHit : Hid (fs[p].k = 3 → elemsOf fs ov cs = cs[p].l) := fun h3 => elems_hit (fs := fs) (cs := cs) hlt hp hpf hpc h3 HN.out
      have HNX : Hid (¬ fs[p].k = 3 → noneTo (fun p => decide ((fs.getD p.toNat noF).k = 3)) ov (k + 1)) := fun h3 => HN.out.succ hlt (by
        rw [hp, show ((p : Int).toNat) = p from rfl, List.getD_eq_getElem?_getD, List.getElem?_eq_getElem hpf]
        simpa using h3)
      rw [hp] at c0
      clear hpl hp
      have HKA : Hid (Calls Tryz.prog 74 #[.slice fa fs.length fc, .int .i64 p] wr fun e w' => e = .returned (.int .i64 fs[p].k) ∧ w' = wr) := kindAt_calls fa fc fs p wr hfm hpf (HF.out.below HB.out)
      obtain ⟨cb, co, rfl, d0, d1, d2⟩ := ((HR.out.below HB.out).row).cel p hpc
      have HL : Hid (CellsAt wr cs[p].la (cs[p].l.map Value.string)) := (HR.out.below HB.out).lst _ (List.getElem_mem hpc)
      generalize fs[p].k = kk at *
      by_cases h3 : kk = 3
      · have HE : Hid (elemsOf fs ov cs = cs[p].l) := HHit.out h3
        subst h3
        clear HHit HNX
        go_wp2_with fail
        refine HKA.out.mono ?_
        rintro e1 w1 ⟨rfl, hw1⟩
        rw [hw1]
        clear hw1 HKA
        go_wp2
        go_ret
        rw [HE.out]
        refine ⟨⟨_, _, rfl, HL.out, fun g off hg hn => .inl ?_⟩, HB.out⟩
        obtain ⟨b1, o1, e1, c1⟩ := (HR0.out.lst _ (List.getElem_mem hpc)).str 0 hn
        rw [hg] at e1
        simp only [Option.some.injEq, Addr.mk.injEq] at e1
        obtain ⟨rfl, _⟩ := e1
        exact World.block_lt_of_cell? w0 _ c1
      · have HN2 : Hid (noneTo (fun p => decide ((fs.getD p.toNat noF).k = 3)) ov (k + 1)) := HNX.out h3
        have q3 : (kk == 3) = false := by simpa using h3
        clear HHit HNX h3
        go_wp2_with fail
        refine HKA.out.mono ?_
        rintro e1 w1 ⟨rfl, hw1⟩
        rw [hw1]
        clear hw1 HKA
        go_wp2
        go_roundw
        case rel => exact ⟨k + 1, by omega, by go_num, HN2, HB⟩
        case measure => simp [intOf]; omega
    · have HE : Hid (elemsOf fs ov cs = [⟨#[]⟩]) := elems_none (by omega) HN.out
      go_wp2
      go_ret
      rw [HE.out]
      refine ⟨⟨_, _, rfl, fun _ => ⟨wr.heap.size, 0, rfl, fun j u hj => ?_⟩, fun g off hg _ => .inr ?_⟩, HB.out.alloc HB.out.size _⟩
      · rw [Nat.zero_add, cell_blk (new_blk _ _)]
        simpa using hj
      · simp only [Option.some.injEq, Addr.mk.injEq] at hg
        obtain ⟨rfl, _⟩ := hg
        exact ⟨_, new_blk _ _⟩

/-- Is nothing in the cell but in its kind's part? -/
def usesB (k : Int) (c : CV) : Bool := (k == 1 || c.t.toList.isEmpty) && ((k == 2 || c.n == 0) && (k == 3 || decide (c.l.length = 0)))
set_option maxRecDepth 100000 in
set_option maxHeartbeats 1000000 in
theorem usesOwn_calls (k : Int) (c : CV) (w : World) (hk : k = 1 ∨ k = 2 ∨ k = 3) (hl : c.l.length ≤ 8796093022208) :
    Calls Tryz.prog 37 #[.int .i64 k, .agg #[.string c.t, .int .u64 c.n, .slice c.la c.l.length c.lc]] w fun e w' => e = .returned (.bool (usesB k c)) ∧ Below w.heap.size w w' := by
  obtain ⟨t, n, l, la, lc⟩ := c
  have HU : Hid (usesB k ⟨t, n, l, la, lc⟩ = ((k == 1 || t.toList.isEmpty) && ((k == 2 || n == 0) && (k == 3 || decide (l.length = 0))))) := rfl
  dsimp only at *
  have hz := zero_beq l.length
  generalize l.length = ll at *
  have hem : (t.toList == []) = t.toList.isEmpty := by cases t.toList <;> rfl
  cases ht : t.toList.isEmpty <;> cases hn : (n == 0) <;> cases hq : decide (ll = 0) <;> rcases hk with rfl | rfl | rfl
  all_goals
    rw [ht, hn, hq] at HU
    rw [hq] at hz
    rw [ht] at hem
    have HB : Hid (Below w.heap.size w (w.alloc (.cells #[.string t, .int .u64 n, .slice la ll lc] 70))) := (Below.refl _ _).alloc (Nat.le_refl _) _
    clear hq
    go_enter Tryz.func37, Tryz.ntmps37
    go_wp2
    go_ret
    rw [HU.out]
    exact ⟨rfl, HB.out⟩
end Go.Proofs.YtgjcchafmcccjaaGreatDoor
