import Derived.Test.YtgjcchafmcccjaaGreatDoorKPartsG
import Derived.Laws.AppendOwnNone
import Derived.Lib.SliceRun
import Derived.Deep.DeepMust
import Derived.Deep.QuietTactic
import Derived.BigQuiet
import Derived.Laws.StructEq
/- Layer 7 (rows): slices.Clone, lowParts, slices.Contains over parts. -/
namespace Go.Proofs.YtgjcchafmcccjaaGreatDoor
open Go.RowKit
set_option linter.unusedVariables false

def lowPt (p : Pt) : Pt := ⟨p.k, lowS p.t, p.n⟩
theorem lowPt_wf {p : Pt} (h : p.wf) : (lowPt p).wf := ⟨h.1, h.2.1, by show (lowS p.t).size ≤ _; rw [lowS_size]; exact h.2.2⟩
theorem parts_cells {w : World} {b off : Nat} {ps : List Pt} (h : PartsAt w (some ⟨b, off, none⟩) ps) : ∀ j u, (pcs ps)[j]? = some u → w.cell? ((⟨b, off, none⟩ : Addr).add j) = some u := by
  intro j u hj
  have hadd : (⟨b, off, none⟩ : Addr).add j = ⟨b, off + j, none⟩ := by unfold Addr.add; split <;> simp_all
  have hlt : j < ps.length * 3 := by have := (List.getElem?_eq_some_iff.1 hj).1; rw [pcs_length] at this; exact this
  have hi : j / 3 < ps.length := by omega
  have hg : ps[j / 3]? = some ps[j / 3] := List.getElem?_eq_getElem hi
  have hr : j % 3 < 3 := Nat.mod_lt _ (by decide)
  have h1 := pcs_at ps (j / 3) _ hg (j % 3) hr
  rw [show j / 3 * 3 + j % 3 = j by omega, hj] at h1
  obtain ⟨b', off', e, c0, c1, c2, _⟩ := h (j / 3) _ hg
  simp only [Option.some.injEq, Addr.mk.injEq] at e
  obtain ⟨rfl, rfl, _⟩ := e
  rw [hadd]
  have h3 : j % 3 = 0 ∨ j % 3 = 1 ∨ j % 3 = 2 := by omega
  rcases h3 with h3 | h3 | h3
  · rw [h3] at h1
    simp only [Pt.cells, List.getElem?_cons_zero, Option.some.injEq] at h1
    rw [show off + j = off + j / 3 * 3 by omega, c0, h1]
  · rw [h3] at h1
    simp only [Pt.cells, List.getElem?_cons_succ, List.getElem?_cons_zero, Option.some.injEq] at h1
    rw [show off + j = off + j / 3 * 3 + 1 by omega, c1, h1]
  · rw [h3] at h1
    simp only [Pt.cells, List.getElem?_cons_succ, List.getElem?_cons_zero, Option.some.injEq] at h1
    rw [show off + j = off + j / 3 * 3 + 2 by omega, c2, h1]
theorem parts_wf {w : World} {ao : Option Addr} {ps : List Pt} (h : PartsAt w ao ps) : ∀ p ∈ ps, p.wf := by
  intro p hp
  obtain ⟨i, hi, rfl⟩ := List.getElem_of_mem hp
  obtain ⟨_, _, _, _, _, _, hw⟩ := h i _ (List.getElem?_eq_getElem hi)
  exact hw

set_option maxRecDepth 100000 in
/-- append(s, ps...), ps anywhere. -/
theorem append_from (W : World) {ops : Array Oper} {rest : List Oper} {o : Oper} {a : Act} {Q : Exit → Act → World → Prop} (hgd : o.guard = none) (s x : Operand)
    (ho : o.op = .call { callee := .builtin .append, args := #[s, x], argTypes := #[94, 94] })
    (B : Nat) (v : Value) (l : List Pt) (hs : a.eval s = v) (b off n c : Nat) (news : List Pt) (hx : a.eval x = .slice (some ⟨b, off, none⟩) n c) (hn : news.length = n) (hp : PartsAt W (some ⟨b, off, none⟩) news)
    (hown : OwnP W B v l) (hlen : (l.length + n) * 32 ≤ 140737488355328) (hB : B ≤ W.heap.size)
    (h : ∀ v' w', OwnP w' B v' (l ++ news) → Grew W w' v v' → (v' = .slice none 0 0 → v = .slice none 0 0) → wpList Tryz.prog ops Q rest (a.put o.dst v') w') : wpList Tryz.prog ops Q (o :: rest) a W := by
  obtain ⟨i0, hi, hz0, hz1, hz2⟩ := info_parts info_part
  subst hn
  refine wpList_append_grew _ hgd s x 94 ho B 112 i0 _ 3 32 Tryz.underlying94 hi hz0 hz1 hz2 rfl (by decide) v l.length (pcs l) hs hown ⟨b, off, none⟩ news.length c (pcs news) hx (pcs_length _) (parts_cells hp) (pcs_one _) (by unfold maxLen; omega) hlen hB ?_
  intro v' w' h1 h2 h3
  refine h v' w' ?_ h2 fun e => (h3.1 e).1
  unfold OwnP
  rw [pcs_append, List.length_append]
  exact h1

set_option maxRecDepth 100000 in
set_option maxHeartbeats 1000000 in
theorem clone_calls (b off cap : Nat) (ps : List Pt) (w : World) (hl : ps.length ≤ 4398046511103) (hp : PartsAt w (some ⟨b, off, none⟩) ps) :
    Calls Tryz.prog 108 #[.slice (some ⟨b, off, none⟩) ps.length cap] w fun e w' => (∃ g c, e = .returned (.slice (some ⟨g, 0, none⟩) ps.length c) ∧ OwnP w' w.heap.size (.slice (some ⟨g, 0, none⟩) ps.length c) ps) ∧ Below w.heap.size w w' := by
  have hb0 : Below w.heap.size w (w.alloc (.cells #[] 112)) := (Below.refl _ _).alloc (Nat.le_refl _) _
  have HP : Hid (PartsAt (w.alloc (.cells #[] 112)) (some ⟨b, off, none⟩) ps) := hp.below hb0
  have HO : Hid (OwnP (w.alloc (.cells #[] 112)) w.heap.size (.slice (some ⟨w.heap.size, 0, none⟩) 0 0) []) := World.ownsRow_lit (size := 3) w #[] 0 (Nat.le_refl _) (by unfold maxLen; omega) rfl
  clear hp
  have hq : ∀ W : World, (binOp .eql 94 (.slice (some ⟨b, off, none⟩) ps.length cap) (.slice none 0 0)).run Tryz.prog W = .ok (.bool false) W := fun W => Lib.run_eql_slice_nil W 94 112 (some ⟨b, off, none⟩) ps.length cap 0 0 Tryz.underlying94
  go_enter Tryz.func108, Tryz.ntmps108
  go_wp2_with (at_builtin; go_must (refine append_from _ rfl (.tmp 5) (.tmp 6) rfl w.heap.size _ [] rfl b off ps.length cap ps rfl rfl HP.out HO.out (by simp; omega) (by simp) ?_))
  intro v1 w1 ho1 hg1 hn1
  have hb1 : Below w.heap.size w w1 := hb0.trans ((HO.out.toBelow (by simp) hg1).mono (Nat.le_refl _))
  have HO1 : Hid (OwnP w1 w.heap.size v1 ps) := ho1
  have hne : ∃ g c, v1 = .slice (some ⟨g, 0, none⟩) ps.length c := by
    rcases ho1.2 with ⟨rfl, h0⟩ | ⟨g, c, cur, rfl, _⟩
    · cases hn1 rfl
    · exact ⟨g, c, rfl⟩
  obtain ⟨g, c, rfl⟩ := hne
  clear ho1 hg1
  go_wp2
  go_ret
  exact ⟨⟨g, c, rfl, HO1.out⟩, hb1⟩
/-- One part's text in a slice of the call's own. -/
theorem pcs_set (ps : List Pt) (k : Nat) (hk : k < ps.length) (t : ByteArray) : (pcs ps).set (k * 3 + 1) (.string t) = pcs (ps.set k ⟨ps[k].k, t, ps[k].n⟩) := by
  induction ps generalizing k with
  | nil => simp at hk
  | cons p ps ih =>
    have e : ∀ (q : Pt) (qs : List Pt), pcs (q :: qs) = q.cells ++ pcs qs := fun q qs => by simp [pcs]
    cases k with
    | zero =>
      rw [e, List.set_cons_zero, e]
      simp [Pt.cells]
    | succ k =>
      rw [e, List.set_cons_succ, e, List.set_append_right _ _ (by simp [Pt.cells]; omega), show (k + 1) * 3 + 1 - p.cells.length = k * 3 + 1 by simp [Pt.cells]; omega, ih k (by simpa using hk)]
      simp
theorem OwnP.cellAt {w : World} {B g c n : Nat} {ps : List Pt} (h : OwnP w B (.slice (some ⟨g, 0, none⟩) n c) ps) (hn : ps.length = n) (i : Nat) (p : Pt) (hp : ps[i]? = some p) (j : Nat) (hj : j < 3) : w.cell? ⟨g, i * 3 + j, none⟩ = p.cells[j]? := by
  subst hn
  have hi : i < ps.length := (List.getElem?_eq_some_iff.1 hp).1
  rw [World.ownsRow.cellAt h (i * 3 + j) (by omega), pcs_at ps i p hp j hj]
theorem OwnP.free {w : World} {B g c n : Nat} {ps : List Pt} (h : OwnP w B (.slice (some ⟨g, 0, none⟩) n c) ps) (hn : ps.length = n) (i : Nat) : w.frozen? ⟨g, i, none⟩ = false := by
  subst hn
  exact World.ownsRow.frozenAt h _
theorem OwnP.setText {w : World} {B g c n : Nat} {ps : List Pt} (h : OwnP w B (.slice (some ⟨g, 0, none⟩) n c) ps) (hn : ps.length = n) (k : Nat) (hk : k < ps.length) (t : ByteArray) : OwnP (w.setCell ⟨g, k * 3 + 1, none⟩ (.string t)) B (.slice (some ⟨g, 0, none⟩) n c) (ps.set k ⟨ps[k].k, t, ps[k].n⟩) := by
  subst hn
  have := (World.ownsRow.stored h (k * 3 + 1) (.string t)).1
  rw [pcs_set ps k hk] at this
  unfold OwnP
  rw [List.length_set]
  exact this
theorem low_take (ps : List Pt) (k : Nat) (hk : k < ps.length) : ((ps.take k).map lowPt ++ ps.drop k).set k ⟨ps[k].k, lowS ps[k].t, ps[k].n⟩ = (ps.take (k + 1)).map lowPt ++ ps.drop (k + 1) := by
  rw [List.set_append_right _ _ (by simp; omega), show k - ((ps.take k).map lowPt).length = 0 by simp; omega, List.drop_eq_getElem_cons hk, List.set_cons_zero, parts_take ps k hk, List.map_append, List.append_assoc]
  rfl
theorem low_at (ps : List Pt) (k : Nat) (hk : k < ps.length) : ((ps.take k).map lowPt ++ ps.drop k)[k]? = some ps[k] := by
  rw [List.getElem?_append_right (by simp; omega), show k - ((ps.take k).map lowPt).length = 0 by simp; omega, List.getElem?_drop, Nat.add_zero, List.getElem?_eq_getElem hk]
theorem low_len (ps : List Pt) (k : Nat) : ((ps.take k).map lowPt ++ ps.drop k).length = ps.length := by simp; omega

set_option maxRecDepth 100000 in
set_option maxHeartbeats 1000000 in
theorem lowParts_calls (b off cap : Nat) (ps : List Pt) (w : World) (hl : ps.length ≤ 4398046511103) (hp : PartsAt w (some ⟨b, off, none⟩) ps) :
    Calls Tryz.prog 75 #[.slice (some ⟨b, off, none⟩) ps.length cap] w fun e w' => (∃ g c, e = .returned (.slice (some ⟨g, 0, none⟩) ps.length c) ∧ OwnP w' w.heap.size (.slice (some ⟨g, 0, none⟩) ps.length c) (ps.map lowPt)) ∧ Below w.heap.size w w' := by
  have HW : Hid (∀ p ∈ ps, p.wf) := parts_wf hp
  have HC : Hid (Calls Tryz.prog 108 #[.slice (some ⟨b, off, none⟩) ps.length cap] w fun e w' => (∃ g c, e = .returned (.slice (some ⟨g, 0, none⟩) ps.length c) ∧ OwnP w' w.heap.size (.slice (some ⟨g, 0, none⟩) ps.length c) ps) ∧ Below w.heap.size w w') := clone_calls b off cap ps w hl hp
  clear hp
  go_enter Tryz.func75, Tryz.ntmps75
  go_wp2_with fail
  refine HC.out.mono ?_
  clear HC
  rintro e w1 ⟨⟨g, c, rfl, ho1⟩, hb1⟩
  have HO1 : Hid (OwnP w1 w.heap.size (.slice (some ⟨g, 0, none⟩) ps.length c) ps) := ho1
  have HB1 : Hid (Below w.heap.size w w1) := hb1
  clear ho1 hb1
  go_wp2
  go_loopw [4, 9] (fun a4 x wr => ∃ k : Nat, k ≤ ps.length ∧ x = .int .i64 k ∧ Hid (OwnP wr w.heap.size (.slice (some ⟨g, 0, none⟩) ps.length c) ((ps.take k).map lowPt ++ ps.drop k)) ∧ Hid (Below w.heap.size w wr)) (fun _ x _ => ps.length - (intOf x).toNat)
  case atStart => exact ⟨0, Nat.zero_le _, rfl, by simpa using HO1, HB1⟩
  case round =>
    obtain ⟨k, hk, rfl, HO, HB⟩ := hrel
    clear HO1 HB1
    by_cases hlt : k < ps.length
    · have hwk := HW.out _ (List.getElem_mem hlt)
      have hlen := low_len ps k
      have hcell : wr.cell? ⟨g, k * 3 + 1, none⟩ = some (.string ps[k].t) := by
        exact HO.out.cellAt hlen k _ (low_at ps k hlt) 1 (by decide)
      have hsz := hwk.2.2
      have HLC : Hid (Calls Tryz.prog 29 #[.string ps[k].t] wr fun e w' => e = .returned (.string (lowS ps[k].t)) ∧ Below wr.heap.size wr w') := low_calls ps[k].t wr (by omega)
      clear hwk hlen hsz
      go_wp2_with fail
      refine HLC.out.mono ?_
      clear HLC
      rintro e w2 ⟨rfl, hb2⟩
      have HO2 : Hid (OwnP w2 w.heap.size (.slice (some ⟨g, 0, none⟩) ps.length c) ((ps.take k).map lowPt ++ ps.drop k)) := HO.out.below hb2
      have HB2 : Hid (Below w.heap.size w w2) := HB.out.trans (hb2.mono HB.out.size)
      have hc2 : w2.cell? ⟨g, k * 3 + 1, none⟩ = some (.string ps[k].t) := by rw [hb2.cell (by exact World.block_lt_of_cell? wr _ hcell)]; exact hcell
      have hz2 : w2.frozen? ⟨g, k * 3 + 1, none⟩ = false := HO2.out.free (low_len ps k) _
      have HN : Hid (OwnP (w2.setCell ⟨g, k * 3 + 1, none⟩ (.string (lowS ps[k].t))) w.heap.size (.slice (some ⟨g, 0, none⟩) ps.length c) ((ps.take (k + 1)).map lowPt ++ ps.drop (k + 1))) := by
        have h1 := HO2.out.setText (low_len ps k) k (by rw [low_len]; exact hlt) (lowS ps[k].t)
        have h2 := low_at ps k hlt
        have h3 : ((ps.take k).map lowPt ++ ps.drop k)[k]'(by rw [low_len]; exact hlt) = ps[k] := by rw [List.getElem?_eq_getElem (by rw [low_len]; exact hlt)] at h2; exact Option.some.inj h2
        rw [h3, low_take ps k hlt] at h1
        exact h1
      have hgB : w.heap.size ≤ g := (HO2.out.lt g rfl).1
      clear hcell hb2
      go_wp2
      go_roundw
      case rel => exact ⟨k + 1, by omega, by go_num, HN, HB2.out.setCell hgB _⟩
      case measure => simp [intOf]; omega
    · have HE : Hid ((ps.take k).map lowPt ++ ps.drop k = ps.map lowPt) := by rw [Hid, List.drop_of_length_le (by omega), List.append_nil, List.take_of_length_le (by omega)]
      rw [HE.out] at HO
      go_wp2
      go_ret
      exact ⟨⟨g, c, rfl, HO.out⟩, HB.out⟩
end Go.Proofs.YtgjcchafmcccjaaGreatDoor

/- The walk of SameParts. -/
namespace Go.Proofs.YtgjcchafmcccjaaGreatDoor
open Go.RowKit
set_option linter.unusedVariables false

def ptEq (p q : Pt) : Bool := p.k == q.k && (p.t.toList == q.t.toList && p.n == q.n)

theorem ptEq_iff (p q : Pt) : ptEq p q = true ↔ p = q := by
  obtain ⟨k, t, n⟩ := p
  obtain ⟨k', t', n'⟩ := q
  simp only [ptEq, Bool.and_eq_true, beq_iff_eq, Pt.mk.injEq]
  constructor
  · rintro ⟨h1, h2, h3⟩
    refine ⟨h1, ?_, h3⟩
    rw [ByteArray.toList_eq, ByteArray.toList_eq] at h2
    cases t; cases t'
    simpa using Array.toList_inj.1 h2
  · rintro ⟨rfl, rfl, rfl⟩; exact ⟨rfl, rfl, rfl⟩

theorem run_equal_part (k n k' n' : Int) (t t' : ByteArray) (w : World) :
    (Op.equalIn 10000 112 (.agg #[.int .i64 k, .string t, .int .u64 n]) (.agg #[.int .i64 k', .string t', .int .u64 n'])).run Tryz.prog w = .ok (ptEq ⟨k, t, n⟩ ⟨k', t', n'⟩) w := by
  have u3 := Tryz.underlying3
  have a3 := Tryz.isAgg3
  have u9 := Tryz.underlying9
  have a9 := Tryz.isAgg9
  have u42 := Tryz.underlying23
  have a42 := Tryz.isAgg23
  have hS : Tryz.prog.underlying 112 = some (.struct (Tryz.prog.fieldsOf 112)) := by kernel_rfl
  have hp : Tryz.prog.stoodInHeld 112 = false := by kernel_rfl
  rw [show (10000 : Nat) = 9999 + 1 from rfl, run_equalIn_agg w 9999 112 _ _ hS hp]
  simp only [Program.fieldsOf, Tryz.underlying112]
  go_simp
  by_cases h1 : k = k' <;> by_cases h2 : t.toList = t'.toList <;> by_cases h3 : n = n' <;> simp [h1, h2, h3, ptEq]

theorem run_neq_part (k n k' n' : Int) (t t' : ByteArray) (w : World) :
    (binOp .neq 112 (.agg #[.int .i64 k, .string t, .int .u64 n]) (.agg #[.int .i64 k', .string t', .int .u64 n'])).run Tryz.prog w = .ok (.bool (!ptEq ⟨k, t, n⟩ ⟨k', t', n'⟩)) w := by
  rw [run_neq_struct, run_equal_part]; rfl
theorem run_eql_part (k n k' n' : Int) (t t' : ByteArray) (w : World) :
    (binOp .eql 112 (.agg #[.int .i64 k, .string t, .int .u64 n]) (.agg #[.int .i64 k', .string t', .int .u64 n'])).run Tryz.prog w = .ok (.bool (ptEq ⟨k, t, n⟩ ⟨k', t', n'⟩)) w := by
  rw [run_eql_struct, run_equal_part]; rfl
theorem guard_part : Tryz.prog.eqGuardType Tryz.prog.depth 112 = false := by kernel_rfl

def sameB : List Pt → List Pt → Bool
  | [], [] => true
  | p :: ps, q :: qs => ptEq p q && sameB ps qs
  | _, _ => false
theorem sameB_iff (ps qs : List Pt) : sameB ps qs = true ↔ ps = qs := by
  induction ps generalizing qs with
  | nil => cases qs <;> simp [sameB]
  | cons p ps ih =>
    cases qs with
    | nil => simp [sameB]
    | cons q qs => simp only [sameB, Bool.and_eq_true, ptEq_iff, ih, List.cons.injEq]
theorem sameB_ne {ps qs : List Pt} (h : ¬ ps = qs) : false = sameB ps qs := by
  cases he : sameB ps qs with
  | false => rfl
  | true => exact absurd ((sameB_iff _ _).1 he) h
theorem sameB_eq {ps qs : List Pt} (h : ps = qs) : true = sameB ps qs := ((sameB_iff _ _).2 h).symm

end Go.Proofs.YtgjcchafmcccjaaGreatDoor

/- Layer 7 (rows): slices.Contains over parts. -/
namespace Go.Proofs.YtgjcchafmcccjaaGreatDoor
open Go.RowKit
set_option linter.unusedVariables false

def idxPt (q : Pt) (ps : List Pt) : Int := match ps.findIdx? (ptEq q) with | some i => (i : Int) | none => -1
theorem idxPt_hit {q : Pt} {ps : List Pt} {k : Nat} (hk : k < ps.length) (h : ptEq q ps[k] = true) (hb : noneTo (ptEq q) ps k) : (k : Int) = idxPt q ps := by
  have : ps.findIdx? (ptEq q) = some k := by
    rw [List.findIdx?_eq_some_iff_getElem]
    exact ⟨hk, h, fun j hj => by simp [hb j (by omega) hj]⟩
  simp [idxPt, this]
theorem idxPt_none {q : Pt} {ps : List Pt} {k : Nat} (hk : ps.length ≤ k) (hb : noneTo (ptEq q) ps k) : -1 = idxPt q ps := by
  have : ps.findIdx? (ptEq q) = none := by
    rw [List.findIdx?_eq_none_iff]
    intro x hx
    obtain ⟨j, hj, rfl⟩ := List.getElem_of_mem hx
    exact hb j hj (by omega)
  simp [idxPt, this]
theorem idxPt_any (q : Pt) (ps : List Pt) : decide (0 ≤ idxPt q ps) = ps.any (ptEq q) := by
  unfold idxPt
  cases h : ps.findIdx? (ptEq q) with
  | none =>
    have : ps.any (ptEq q) = false := by
      rw [List.any_eq_false]
      intro x hx
      rw [List.findIdx?_eq_none_iff] at h
      simp [h x hx]
    rw [this]; rfl
  | some i =>
    have : ps.any (ptEq q) = true := by
      rw [List.findIdx?_eq_some_iff_getElem] at h
      obtain ⟨hi, h1, _⟩ := h
      exact List.any_eq_true.2 ⟨_, List.getElem_mem hi, h1⟩
    rw [this]
    simp

set_option maxHeartbeats 1000000 in
theorem index_calls (ao : Option Addr) (cap : Nat) (ps : List Pt) (q : Pt) (w : World) (hl : ps.length ≤ 4398046511103) (hp : PartsAt w ao ps) :
    Calls Tryz.prog 76 #[.slice ao ps.length cap, .agg #[.int .i64 q.k, .string q.t, .int .u64 q.n]] w fun e w' => e = .returned (.int .i64 (idxPt q ps)) ∧ Below w.heap.size w w' := by
  have HP : Hid (PartsAt w ao ps) := hp
  clear hp
  go_enter Tryz.func76, Tryz.ntmps76
  go_wp2
  go_loopw [5, 8] (fun a5 x wr => ∃ k : Nat, k ≤ ps.length ∧ x = .int .i64 k ∧ Hid (noneTo (ptEq q) ps k) ∧ Hid (Below w.heap.size w wr ∧ wr.heap[w.heap.size]? = some (.cells #[.int .i64 q.k, .string q.t, .int .u64 q.n] 112))) (fun _ x _ => ps.length - (intOf x).toNat)
  case atStart => exact ⟨0, Nat.zero_le _, rfl, noneTo.zero _ _, (Below.refl _ _).alloc (Nat.le_refl _) _, new_blk _ _⟩
  case round =>
    obtain ⟨k, hk, rfl, HK, HB⟩ := hrel
    by_cases hlt : k < ps.length
    · obtain ⟨b, off, rfl, c0, c1, c2, -⟩ := (HP.out.below HB.out.1) k _ (List.getElem?_eq_getElem hlt)
      have d0 : wr.cell? ⟨w.heap.size, 0, none⟩ = some (.int .i64 q.k) := by rw [cell_blk HB.out.2]; rfl
      have d1 : wr.cell? ⟨w.heap.size, 1, none⟩ = some (.string q.t) := by rw [cell_blk HB.out.2]; rfl
      have d2 : wr.cell? ⟨w.heap.size, 2, none⟩ = some (.int .u64 q.n) := by rw [cell_blk HB.out.2]; rfl
      have hpe : ∀ W : World, (binOp .eql 112 (.agg #[.int .i64 q.k, .string q.t, .int .u64 q.n]) (.agg #[.int .i64 ps[k].k, .string ps[k].t, .int .u64 ps[k].n])).run Tryz.prog W = .ok (.bool (ptEq q ps[k])) W := fun W => run_eql_part _ _ _ _ _ _ W
      have hgp := guard_part
      cases e1 : ptEq q ps[k] with
      | true =>
        have HE : Hid ((k : Int) = idxPt q ps) := idxPt_hit hlt e1 HK.out
        rw [e1] at hpe
        clear e1
        go_wp2
        go_quiet (fail)
        go_wp2
        go_ret
        exact ⟨ret_num HE.out, HB.out.1.trans ((below_draws _ _).mono HB.out.1.size)⟩
      | false =>
        have HE : Hid (ptEq q ps[k] = false) := e1
        rw [e1] at hpe
        clear e1
        go_wp2
        go_quiet (fail)
        go_wp2
        go_roundw
        case rel => exact ⟨k + 1, by omega, by go_num, HK.out.succ hlt HE.out, HB.out.1.trans ((below_draws _ _).mono HB.out.1.size), HB.out.2⟩
        case measure => simp [intOf]; omega
    · go_wp2
      go_ret
      exact ⟨ret_num (idxPt_none (by omega) HK.out), HB.out.1⟩

set_option maxHeartbeats 1000000 in
theorem contains_calls (ao : Option Addr) (cap : Nat) (ps : List Pt) (q : Pt) (w : World) (hl : ps.length ≤ 4398046511103) (hp : PartsAt w ao ps) :
    Calls Tryz.prog 53 #[.slice ao ps.length cap, .agg #[.int .i64 q.k, .string q.t, .int .u64 q.n]] w fun e w' => e = .returned (.bool (ps.any (ptEq q))) ∧ Below w.heap.size w w' := by
  have hb0 : Below w.heap.size w (w.alloc (.cells #[.int .i64 q.k, .string q.t, .int .u64 q.n] 112)) := (Below.refl _ _).alloc (Nat.le_refl _) _
  have HC := index_calls ao cap ps q (w.alloc (.cells #[.int .i64 q.k, .string q.t, .int .u64 q.n] 112)) hl (hp.below hb0)
  have HC : Hid (Calls Tryz.prog 76 #[.slice ao ps.length cap, .agg #[.int .i64 q.k, .string q.t, .int .u64 q.n]] (w.alloc (.cells #[.int .i64 q.k, .string q.t, .int .u64 q.n] 112)) fun e w' => e = .returned (.int .i64 (idxPt q ps)) ∧ Below (w.alloc (.cells #[.int .i64 q.k, .string q.t, .int .u64 q.n] 112)).heap.size (w.alloc (.cells #[.int .i64 q.k, .string q.t, .int .u64 q.n] 112)) w') := HC
  clear hp
  go_enter Tryz.func53, Tryz.ntmps53
  go_wp2_with fail
  refine HC.out.mono ?_
  rintro e w1 ⟨rfl, hb1⟩
  clear HC
  go_wp2
  go_ret
  exact ⟨ret_bool (idxPt_any q ps), hb0.trans (hb1.mono hb0.size)⟩
end Go.Proofs.YtgjcchafmcccjaaGreatDoor
