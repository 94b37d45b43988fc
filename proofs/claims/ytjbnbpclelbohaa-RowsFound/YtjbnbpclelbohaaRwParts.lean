/- Layer 7 (rows): slices.Clone, lowParts, slices.Contains over parts. -/
import Derived.Test.YtjbnbpclelbohaaKPartsG
import Derived.Laws.AppendOwnNone
import Derived.Lib.SliceRun
import Derived.Deep.DeepMust
namespace Go.Proofs.Ytjbnbpclelbohaa
open Go.RowKit
set_option linter.unusedVariables false

def lowPt (p : Pt) : Pt := ⟨p.k, lowS p.t, p.n⟩
theorem lowPt_wf {p : Pt} (h : p.wf) : (lowPt p).wf := ⟨h.1, h.2.1, by show (lowS p.t).size ≤ _; rw [lowS_size]; exact h.2.2⟩
theorem parts_cells {w : World} {b off : Nat} {ps : List Pt} (h : PartsAt w (some ⟨b, off, none⟩) ps) : ∀ j u, (pcs ps)[j]? = some u → w.cell? ((⟨b, off, none⟩ : Addr).add j) = some u := by
  intro j u hj
  have hadd : (⟨b, off, none⟩ : Addr).add j = ⟨b, off + j, none⟩ := by unfold Addr.add; split <;> simp_all
  have hlt : j < ps.length * 3 := by have := (List.getElem?_eq_some_iff.1 hj).1; rw [pcs_length] at this; exact this
  have hi : j / 3 < ps.length := by omega
  have hg : ps[j / 3]? = some ps[j / 3] := List.getElem?_eq_getElem hi
  have hr : j % 3 < 3 := Nat.mod_lt _ (by decide)
  have h1 := pcs_at ps (j / 3) _ hg (j % 3) hr
  rw [show j / 3 * 3 + j % 3 = j by omega, hj] at h1
  obtain ⟨b', off', e, c0, c1, c2, _⟩ := h (j / 3) _ hg
  simp only [Option.some.injEq, Addr.mk.injEq] at e
  obtain ⟨rfl, rfl, _⟩ := e
  rw [hadd]
  have h3 : j % 3 = 0 ∨ j % 3 = 1 ∨ j % 3 = 2 := by omega
  rcases h3 with h3 | h3 | h3
  · rw [h3] at h1
    simp only [Pt.cells, List.getElem?_cons_zero, Option.some.injEq] at h1
    rw [show off + j = off + j / 3 * 3 by omega, c0, h1]
  · rw [h3] at h1
    simp only [Pt.cells, List.getElem?_cons_succ, List.getElem?_cons_zero, Option.some.injEq] at h1
    rw [show off + j = off + j / 3 * 3 + 1 by omega, c1, h1]
  · rw [h3] at h1
    simp only [Pt.cells, List.getElem?_cons_succ, List.getElem?_cons_zero, Option.some.injEq] at h1
    rw [show off + j = off + j / 3 * 3 + 2 by omega, c2, h1]
theorem parts_wf {w : World} {ao : Option Addr} {ps : List Pt} (h : PartsAt w ao ps) : ∀ p ∈ ps, p.wf := by
  intro p hp
  obtain ⟨i, hi, rfl⟩ := List.getElem_of_mem hp
  obtain ⟨_, _, _, _, _, _, hw⟩ := h i _ (List.getElem?_eq_getElem hi)
  exact hw

set_option maxRecDepth 100000 in
/-- append(s, ps...), ps anywhere. -/
theorem append_from (W : World) {ops : Array Oper} {rest : List Oper} {o : Oper} {a : Act} {Q : Exit → Act → World → Prop} (hgd : o.guard = none) (s x : Operand)
    (ho : o.op = .call { callee := .builtin .append, args := #[s, x], argTypes := #[51, 51] })
    (B : Nat) (v : Value) (l : List Pt) (hs : a.eval s = v) (b off n c : Nat) (news : List Pt) (hx : a.eval x = .slice (some ⟨b, off, none⟩) n c) (hn : news.length = n) (hp : PartsAt W (some ⟨b, off, none⟩) news)
    (hown : OwnP W B v l) (hlen : (l.length + n) * 32 ≤ 140737488355328) (hB : B ≤ W.heap.size)
    (h : ∀ v' w', OwnP w' B v' (l ++ news) → Grew W w' v v' → (v' = .slice none 0 0 → v = .slice none 0 0) → wpList Try.prog ops Q rest (a.put o.dst v') w') : wpList Try.prog ops Q (o :: rest) a W := by
  obtain ⟨i0, hi, hz0, hz1, hz2⟩ := info_parts info_part
  subst hn
  refine wpList_append_grew _ hgd s x 51 ho B 57 i0 _ 3 32 Try.underlying51 hi hz0 hz1 hz2 rfl (by decide) v l.length (pcs l) hs hown ⟨b, off, none⟩ news.length c (pcs news) hx (pcs_length _) (parts_cells hp) (pcs_one _) (by unfold maxLen; omega) hlen hB ?_
  intro v' w' h1 h2 h3
  refine h v' w' ?_ h2 fun e => (h3.1 e).1
  unfold OwnP
  rw [pcs_append, List.length_append]
  exact h1

set_option maxRecDepth 100000 in
set_option maxHeartbeats 1000000 in
theorem clone_calls (b off cap : Nat) (ps : List Pt) (w : World) (hl : ps.length ≤ 4398046511103) (hp : PartsAt w (some ⟨b, off, none⟩) ps) :
    Calls Try.prog 44 #[.slice (some ⟨b, off, none⟩) ps.length cap] w fun e w' => (∃ g c, e = .returned (.slice (some ⟨g, 0, none⟩) ps.length c) ∧ OwnP w' w.heap.size (.slice (some ⟨g, 0, none⟩) ps.length c) ps) ∧ Below w.heap.size w w' := by
  have hb0 : Below w.heap.size w (w.alloc (.cells #[] 57)) := (Below.refl _ _).alloc (Nat.le_refl _) _
  have HP : Hid (PartsAt (w.alloc (.cells #[] 57)) (some ⟨b, off, none⟩) ps) := hp.below hb0
  have HO : Hid (OwnP (w.alloc (.cells #[] 57)) w.heap.size (.slice (some ⟨w.heap.size, 0, none⟩) 0 0) []) := World.ownsRow_lit (size := 3) w #[] 0 (Nat.le_refl _) (by unfold maxLen; omega) rfl
  clear hp
  have hq : ∀ W : World, (binOp .eql 51 (.slice (some ⟨b, off, none⟩) ps.length cap) (.slice none 0 0)).run Try.prog W = .ok (.bool false) W := fun W => Lib.run_eql_slice_nil W 51 57 (some ⟨b, off, none⟩) ps.length cap 0 0 Try.underlying51
  go_enter Try.func44, Try.ntmps44
  go_wp2_with (at_builtin; go_must (refine append_from _ rfl (.tmp 5) (.tmp 6) rfl w.heap.size _ [] rfl b off ps.length cap ps rfl rfl HP.out HO.out (by simp; omega) (by simp) ?_))
  intro v1 w1 ho1 hg1 hn1
  have hb1 : Below w.heap.size w w1 := hb0.trans ((HO.out.toBelow (by simp) hg1).mono (Nat.le_refl _))
  have HO1 : Hid (OwnP w1 w.heap.size v1 ps) := ho1
  have hne : ∃ g c, v1 = .slice (some ⟨g, 0, none⟩) ps.length c := by
    rcases ho1.2 with ⟨rfl, h0⟩ | ⟨g, c, cur, rfl, _⟩
    · cases hn1 rfl
    · exact ⟨g, c, rfl⟩
  obtain ⟨g, c, rfl⟩ := hne
  clear ho1 hg1
  go_wp2
  go_ret
  exact ⟨⟨g, c, rfl, HO1.out⟩, hb1⟩
/-- One part's text in a slice of the call's own. -/
theorem pcs_set (ps : List Pt) (k : Nat) (hk : k < ps.length) (t : ByteArray) : (pcs ps).set (k * 3 + 1) (.string t) = pcs (ps.set k ⟨ps[k].k, t, ps[k].n⟩) := by
  induction ps generalizing k with
  | nil => simp at hk
  | cons p ps ih =>
    have e : ∀ (q : Pt) (qs : List Pt), pcs (q :: qs) = q.cells ++ pcs qs := fun q qs => by simp [pcs]
    cases k with
    | zero =>
      rw [e, List.set_cons_zero, e]
      simp [Pt.cells]
    | succ k =>
      rw [e, List.set_cons_succ, e, List.set_append_right _ _ (by simp [Pt.cells]; omega), show (k + 1) * 3 + 1 - p.cells.length = k * 3 + 1 by simp [Pt.cells]; omega, ih k (by simpa using hk)]
      simp
theorem OwnP.cellAt {w : World} {B g c n : Nat} {ps : List Pt} (h : OwnP w B (.slice (some ⟨g, 0, none⟩) n c) ps) (hn : ps.length = n) (i : Nat) (p : Pt) (hp : ps[i]? = some p) (j : Nat) (hj : j < 3) : w.cell? ⟨g, i * 3 + j, none⟩ = p.cells[j]? := by
  subst hn
  have hi : i < ps.length := (List.getElem?_eq_some_iff.1 hp).1
  rw [World.ownsRow.cellAt h (i * 3 + j) (by omega), pcs_at ps i p hp j hj]
theorem OwnP.free {w : World} {B g c n : Nat} {ps : List Pt} (h : OwnP w B (.slice (some ⟨g, 0, none⟩) n c) ps) (hn : ps.length = n) (i : Nat) : w.frozen? ⟨g, i, none⟩ = false := by
  subst hn
  exact World.ownsRow.frozenAt h _
theorem OwnP.setText {w : World} {B g c n : Nat} {ps : List Pt} (h : OwnP w B (.slice (some ⟨g, 0, none⟩) n c) ps) (hn : ps.length = n) (k : Nat) (hk : k < ps.length) (t : ByteArray) : OwnP (w.setCell ⟨g, k * 3 + 1, none⟩ (.string t)) B (.slice (some ⟨g, 0, none⟩) n c) (ps.set k ⟨ps[k].k, t, ps[k].n⟩) := by
  subst hn
  have := (World.ownsRow.stored h (k * 3 + 1) (.string t)).1
  rw [pcs_set ps k hk] at this
  unfold OwnP
  rw [List.length_set]
  exact this
theorem low_take (ps : List Pt) (k : Nat) (hk : k < ps.length) : ((ps.take k).map lowPt ++ ps.drop k).set k ⟨ps[k].k, lowS ps[k].t, ps[k].n⟩ = (ps.take (k + 1)).map lowPt ++ ps.drop (k + 1) := by
  rw [List.set_append_right _ _ (by simp; omega), show k - ((ps.take k).map lowPt).length = 0 by simp; omega, List.drop_eq_getElem_cons hk, List.set_cons_zero, parts_take ps k hk, List.map_append, List.append_assoc]
  rfl
theorem low_at (ps : List Pt) (k : Nat) (hk : k < ps.length) : ((ps.take k).map lowPt ++ ps.drop k)[k]? = some ps[k] := by
  rw [List.getElem?_append_right (by simp; omega), show k - ((ps.take k).map lowPt).length = 0 by simp; omega, List.getElem?_drop, Nat.add_zero, List.getElem?_eq_getElem hk]
theorem low_len (ps : List Pt) (k : Nat) : ((ps.take k).map lowPt ++ ps.drop k).length = ps.length := by simp; omega

set_option maxRecDepth 100000 in
set_option maxHeartbeats 1000000 in
theorem lowParts_calls (b off cap : Nat) (ps : List Pt) (w : World) (hl : ps.length ≤ 4398046511103) (hp : PartsAt w (some ⟨b, off, none⟩) ps) :
    Calls Try.prog 28 #[.slice (some ⟨b, off, none⟩) ps.length cap] w fun e w' => (∃ g c, e = .returned (.slice (some ⟨g, 0, none⟩) ps.length c) ∧ OwnP w' w.heap.size (.slice (some ⟨g, 0, none⟩) ps.length c) (ps.map lowPt)) ∧ Below w.heap.size w w' := by
  have HW : Hid (∀ p ∈ ps, p.wf) := parts_wf hp
  have HC : Hid (Calls Try.prog 44 #[.slice (some ⟨b, off, none⟩) ps.length cap] w fun e w' => (∃ g c, e = .returned (.slice (some ⟨g, 0, none⟩) ps.length c) ∧ OwnP w' w.heap.size (.slice (some ⟨g, 0, none⟩) ps.length c) ps) ∧ Below w.heap.size w w') := clone_calls b off cap ps w hl hp
  clear hp
  go_enter Try.func28, Try.ntmps28
  go_wp2_with fail
  refine HC.out.mono ?_
  clear HC
  rintro e w1 ⟨⟨g, c, rfl, ho1⟩, hb1⟩
  have HO1 : Hid (OwnP w1 w.heap.size (.slice (some ⟨g, 0, none⟩) ps.length c) ps) := ho1
  have HB1 : Hid (Below w.heap.size w w1) := hb1
  clear ho1 hb1
  go_wp2
  go_loopw [4, 9] (fun a4 x wr => ∃ k : Nat, k ≤ ps.length ∧ x = .int .i64 k ∧ Hid (OwnP wr w.heap.size (.slice (some ⟨g, 0, none⟩) ps.length c) ((ps.take k).map lowPt ++ ps.drop k)) ∧ Hid (Below w.heap.size w wr)) (fun _ x _ => ps.length - (intOf x).toNat)
  case atStart => exact ⟨0, Nat.zero_le _, rfl, by simpa using HO1, HB1⟩
  case round =>
    obtain ⟨k, hk, rfl, HO, HB⟩ := hrel
    clear HO1 HB1
    by_cases hlt : k < ps.length
    · have hwk := HW.out _ (List.getElem_mem hlt)
      have hlen := low_len ps k
      have hcell : wr.cell? ⟨g, k * 3 + 1, none⟩ = some (.string ps[k].t) := by
        exact HO.out.cellAt hlen k _ (low_at ps k hlt) 1 (by decide)
      have hsz := hwk.2.2
      have HLC : Hid (Calls Try.prog 16 #[.string ps[k].t] wr fun e w' => e = .returned (.string (lowS ps[k].t)) ∧ Below wr.heap.size wr w') := low_calls ps[k].t wr (by omega)
      clear hwk hlen hsz
      go_wp2_with fail
      refine HLC.out.mono ?_
      clear HLC
      rintro e w2 ⟨rfl, hb2⟩
      have HO2 : Hid (OwnP w2 w.heap.size (.slice (some ⟨g, 0, none⟩) ps.length c) ((ps.take k).map lowPt ++ ps.drop k)) := HO.out.below hb2
      have HB2 : Hid (Below w.heap.size w w2) := HB.out.trans (hb2.mono HB.out.size)
      have hc2 : w2.cell? ⟨g, k * 3 + 1, none⟩ = some (.string ps[k].t) := by rw [hb2.cell (by exact World.block_lt_of_cell? wr _ hcell)]; exact hcell
      have hz2 : w2.frozen? ⟨g, k * 3 + 1, none⟩ = false := HO2.out.free (low_len ps k) _
      have HN : Hid (OwnP (w2.setCell ⟨g, k * 3 + 1, none⟩ (.string (lowS ps[k].t))) w.heap.size (.slice (some ⟨g, 0, none⟩) ps.length c) ((ps.take (k + 1)).map lowPt ++ ps.drop (k + 1))) := by
        have h1 := HO2.out.setText (low_len ps k) k (by rw [low_len]; exact hlt) (lowS ps[k].t)
        have h2 := low_at ps k hlt
        have h3 : ((ps.take k).map lowPt ++ ps.drop k)[k]'(by rw [low_len]; exact hlt) = ps[k] := by rw [List.getElem?_eq_getElem (by rw [low_len]; exact hlt)] at h2; exact Option.some.inj h2
        rw [h3, low_take ps k hlt] at h1
        exact h1
      have hgB : w.heap.size ≤ g := (HO2.out.lt g rfl).1
      clear hcell hb2
      go_wp2
      go_roundw
      case rel => exact ⟨k + 1, by omega, by go_num, HN, HB2.out.setCell hgB _⟩
      case measure => simp [intOf]; omega
    · have HE : Hid ((ps.take k).map lowPt ++ ps.drop k = ps.map lowPt) := by rw [Hid, List.drop_of_length_le (by omega), List.append_nil, List.take_of_length_le (by omega)]
      rw [HE.out] at HO
      go_wp2
      go_ret
      exact ⟨⟨g, c, rfl, HO.out⟩, HB.out⟩
end Go.Proofs.Ytjbnbpclelbohaa
