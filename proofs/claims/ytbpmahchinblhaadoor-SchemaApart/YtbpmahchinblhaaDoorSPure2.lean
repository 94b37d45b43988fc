/- Layer 6 (schema): Print of what Parse gave, and Parse of that (plain). -/
import Derived.Test.YtbpmahchinblhaaDoorSPure
namespace Go.Proofs.YtbpmahchinblhaaDoor
open Go.RowKit
set_option linter.unusedVariables false

theorem rTable_prints {ln : Int} {ws : List ByteArray} {st st' : St} (h0 : ws.getD 0 ⟨#[]⟩ = tableW) (h : rTable ln ws st = .ok st') : printL st'.1 = printL st.1 ++ lineL ws ∧ ∀ ln2 bg2, ∃ bg3, rTable ln2 ws (st.1, bg2) = .ok (st'.1, bg3) := by
  unfold rTable at h ⊢
  split at h
  · cases h
  split at h
  · cases h
  split at h
  · cases h
  split at h
  · cases h
  split at h
  · cases h
  next h1 h2 h3 h4 h5 =>
  cases h
  have hw : ws = [tableW, ws.getD 1 ⟨#[]⟩] := by
    match ws, h1 with
    | [], h1 => simp at h1
    | [a], h1 => simp at h1
    | [a, b], _ => simp at h0; rw [h0]; rfl
    | a :: b :: c :: r, h1 => simp at h1
  refine ⟨?_, fun ln2 bg2 => ⟨ln2, ?_⟩⟩
  · rw [printL_snoc]
    congr 1
    conv => rhs; rw [hw]
    simp [tabL]
  · rw [if_neg h1, if_neg h2, if_neg h3, if_neg h4, if_neg h5]

theorem rField_prints {ln : Int} {ws : List ByteArray} {st st' : St} (h0 : ws.getD 0 ⟨#[]⟩ = fieldW) (h : rField ln ws st = .ok st') : printL st'.1 = printL st.1 ++ lineL ws ∧ ∀ ln2 bg2, ∃ bg3, rField ln2 ws (st.1, bg2) = .ok (st'.1, bg3) := by
  unfold rField at h ⊢
  split at h
  · cases h
  split at h
  · cases h
  split at h
  · cases h
  next h1 h2 h3 =>
  cases hl : st.1.getLast? with
  | none => rw [hl] at h; cases h
  | some t =>
    rw [hl] at h
    dsimp only at h
    split at h
    · cases h
    split at h
    · cases h
    split at h
    · cases h
    next h4 h5 h6 =>
    cases h
    have hx : t.xs = [] := List.length_eq_zero_iff.1 (by omega)
    have hw : ws = [fieldW, ws.getD 1 ⟨#[]⟩, ws.getD 2 ⟨#[]⟩] := by
      have := words_all (ws := ws) (by omega)
      have hd : ws.drop 3 = [] := by rw [List.drop_eq_nil_iff]; omega
      rw [hd, List.append_nil, h0] at this
      exact this
    refine ⟨?_, fun ln2 bg2 => ⟨bg2, ?_⟩⟩
    · have e : printL st.1 = printL st.1.dropLast ++ tabL t := by rw [← printL_snoc, ← dropLast_getLast hl]
      rw [printL_snoc, e, List.append_assoc]
      congr 1
      have hf : fldL ⟨ws.getD 1 ⟨#[]⟩, kindB (ws.getD 2 ⟨#[]⟩)⟩ = lineL ws := by
        conv => rhs; rw [hw]
        show lineL [fieldW, ws.getD 1 ⟨#[]⟩, wordB (kindB (ws.getD 2 ⟨#[]⟩))] = _
        rw [word_kind h2]
      unfold tabL
      rw [hx, ← hf]
      simp
    · rw [if_neg h1, if_neg h2, if_neg h3]
      dsimp only
      rw [hl]
      dsimp only
      rw [if_neg h4, if_neg h5, if_neg h6]

theorem rIndex_prints {ln : Int} {ws : List ByteArray} {st st' : St} (h0 : ws.getD 0 ⟨#[]⟩ = indexW) (h : rIndex ln ws st = .ok st') : printL st'.1 = printL st.1 ++ lineL ws ∧ ∀ ln2 bg2, ∃ bg3, rIndex ln2 ws (st.1, bg2) = .ok (st'.1, bg3) := by
  unfold rIndex at h ⊢
  split at h
  · cases h
  split at h
  · cases h
  split at h
  · cases h
  next h1 h2 h3 =>
  cases hl : st.1.getLast? with
  | none => rw [hl] at h; cases h
  | some t =>
    rw [hl] at h
    dsimp only at h
    split at h
    · cases h
    split at h
    · cases h
    split at h
    · cases h
    split at h
    · cases h
    next h4 h5 h6 h7 =>
    cases h
    refine ⟨?_, fun ln2 bg2 => ⟨bg2, ?_⟩⟩
    · have e : printL st.1 = printL st.1.dropLast ++ tabL t := by rw [← printL_snoc, ← dropLast_getLast hl]
      rw [printL_snoc, e, List.append_assoc]
      congr 1
      have hj : joinedL t.fs ((wsOf (ws.getD 2 ⟨#[]⟩) 44).map (placeF t.fs)) = ws.getD 2 ⟨#[]⟩ := by
        have hn : namesL t.fs ((wsOf (ws.getD 2 ⟨#[]⟩) 44).map (placeF t.fs)) = wsOf (ws.getD 2 ⟨#[]⟩) 44 := by
          unfold namesL
          rw [List.map_map]
          conv => rhs; rw [← List.map_id (wsOf (ws.getD 2 ⟨#[]⟩) 44)]
          refine List.map_congr_left fun a ha => ?_
          refine place_name fun e => h6 ?_
          simp only [List.contains_iff_mem, List.mem_map]
          exact ⟨a, ha, e⟩
        unfold joinedL
        rw [hn, join_ws]
      have hw : wordsL t.fs ⟨ws.getD 1 ⟨#[]⟩, (wsOf (ws.getD 2 ⟨#[]⟩) 44).map (placeF t.fs), (flagsW (ws.drop 3)).1.1, (flagsW (ws.drop 3)).1.2.1, (flagsW (ws.drop 3)).1.2.2⟩ = ws := by
        unfold wordsL
        dsimp only
        rw [hj, flags_back h2, ← h0]
        exact (words_all (by omega)).symm
      unfold tabL
      rw [List.flatMap_append, List.flatMap_cons, List.flatMap_nil, List.append_nil]
      dsimp only
      rw [hw]
      simp
    · rw [if_neg h1, if_neg h2, if_neg h3]
      dsimp only
      rw [hl]
      dsimp only
      rw [if_neg h4, if_neg h5, if_neg h6, if_neg h7]

theorem rLine_prints {ln : Int} {ws : List ByteArray} {st st' : St} (h : rLine ln ws st = .ok st') : printL st'.1 = printL st.1 ++ lineL ws ∧ ∀ ln2 bg2, ∃ bg3, rLine ln2 ws (st.1, bg2) = .ok (st'.1, bg3) := by
  unfold rLine at h ⊢
  split at h
  · next h1 =>
    obtain ⟨a, b⟩ := rTable_prints h1 h
    exact ⟨a, fun ln2 bg2 => by rw [if_pos h1]; exact b ln2 bg2⟩
  · next h1 =>
    split at h
    · next h2 =>
      obtain ⟨a, b⟩ := rField_prints h2 h
      exact ⟨a, fun ln2 bg2 => by rw [if_neg h1, if_pos h2]; exact b ln2 bg2⟩
    · next h2 =>
      split at h
      · next h3 =>
        obtain ⟨a, b⟩ := rIndex_prints h3 h
        exact ⟨a, fun ln2 bg2 => by rw [if_neg h1, if_neg h2, if_pos h3]; exact b ln2 bg2⟩
      · cases h

theorem line_back (l : ByteArray) : lineL (wsOf l 32) = l.data.toList ++ [10] := by unfold lineL; rw [join_ws]
theorem rLines_prints : ∀ {ls : List ByteArray} {ln : Int} {st st' : St}, rLines ln ls st = .ok st' → printL st'.1 = printL st.1 ++ (ls.filter fun l => decide (¬ l = ⟨#[]⟩)).flatMap (fun l => l.data.toList ++ [10])
  | [], ln, st, st', h => by
    simp only [rLines, Except.ok.injEq] at h
    subst h
    simp
  | l :: ls, ln, st, st', h => by
    rw [rLines] at h
    by_cases he : l = ⟨#[]⟩
    · rw [if_pos he] at h
      rw [List.filter_cons_of_neg (by simp [he])]
      exact rLines_prints h
    · rw [if_neg he] at h
      cases hr : rLine ln (wsOf l 32) st with
      | error e => rw [hr] at h; cases h
      | ok s1 =>
        rw [hr] at h
        have h1 := (rLine_prints hr).1
        have h2 := rLines_prints h
        rw [List.filter_cons_of_pos (by simpa using he), List.flatMap_cons, h2, h1, line_back, List.append_assoc]
theorem rLines_again : ∀ {ls : List ByteArray} {ln : Int} {st st' : St}, rLines ln ls st = .ok st' → ∀ ln2 bg2, ∃ bg3, rLines ln2 ((ls.filter fun l => decide (¬ l = ⟨#[]⟩)) ++ [⟨#[]⟩]) (st.1, bg2) = .ok (st'.1, bg3)
  | [], ln, st, st', h, ln2, bg2 => by
    simp only [rLines, Except.ok.injEq] at h
    subst h
    exact ⟨bg2, by simp [rLines]⟩
  | l :: ls, ln, st, st', h, ln2, bg2 => by
    rw [rLines] at h
    by_cases he : l = ⟨#[]⟩
    · rw [if_pos he] at h
      rw [List.filter_cons_of_neg (by simp [he])]
      exact rLines_again h ln2 bg2
    · rw [if_neg he] at h
      cases hr : rLine ln (wsOf l 32) st with
      | error e => rw [hr] at h; cases h
      | ok s1 =>
        rw [hr] at h
        obtain ⟨bg3, h1⟩ := (rLine_prints hr).2 ln2 bg2
        obtain ⟨bg4, h2⟩ := rLines_again h (ln2 + 1) bg3
        refine ⟨bg4, ?_⟩
        rw [List.filter_cons_of_pos (by simpa using he), List.cons_append, rLines, if_neg he, h1]
        exact h2

theorem parse_prints {text : ByteArray} {us : List Tb} (h : parseP text = .ok us) : printL us = plainL text := by
  unfold parseP at h
  split at h
  · cases h
  cases hr : rLines 1 (wsOf text 10) ([], 0) with
  | error e => rw [hr] at h; cases h
  | ok st =>
    rw [hr] at h
    dsimp only at h
    split at h
    · cases h
    cases h
    have := rLines_prints hr
    simpa [printL, plainL, fullL] using this
theorem full_ws (text : ByteArray) : wsOf ⟨(plainL text).toArray⟩ 10 = fullL text ++ [⟨#[]⟩] := by
  have h1 := ws_sp ⟨(plainL text).toArray⟩ 10
  have e : plainL text = ((fullL text).map (·.data.toList)).flatMap fun p => p ++ [10] := by unfold plainL; rw [List.flatMap_map]
  have hfree : ∀ p ∈ (fullL text).map (·.data.toList), (10 : UInt8) ∉ p := by
    intro p hp
    obtain ⟨a, ha, rfl⟩ := List.mem_map.1 hp
    have hm : a.data.toList ∈ sp 10 text.data.toList := by rw [← ws_sp]; exact List.mem_map_of_mem (List.mem_filter.1 ha).1
    exact sp_free 10 _ _ hm
  have h2 : (wsOf ⟨(plainL text).toArray⟩ 10).map (·.data.toList) = (fullL text ++ [(⟨#[]⟩ : ByteArray)]).map (fun a : ByteArray => a.data.toList) := by
    rw [h1]
    show sp 10 ((plainL text).toArray.toList) = _
    rw [List.toList_toArray, e, sp_lines 10 _ hfree, List.map_append]
    rfl
  exact List.map_inj_right (fun a b hab => Go.WideShapes.bytes_inj hab) |>.1 h2
theorem parse_again {text : ByteArray} {us : List Tb} (h : parseP text = .ok us) (hl : (plainL text).length ≤ 8192) : parseP ⟨(plainL text).toArray⟩ = .ok us := by
  unfold parseP at h
  split at h
  · cases h
  cases hr : rLines 1 (wsOf text 10) ([], 0) with
  | error e => rw [hr] at h; cases h
  | ok st =>
    rw [hr] at h
    dsimp only at h
    split at h
    · cases h
    next hb =>
    cases h
    obtain ⟨bg3, h2⟩ := rLines_again hr 1 0
    unfold parseP
    rw [if_neg (by show ¬ (plainL text).toArray.size > 8192; rw [List.size_toArray]; omega), full_ws]
    unfold fullL
    rw [h2]
    dsimp only
    rw [if_neg hb]
theorem parse_long {text : ByteArray} (hl : (plainL text).length > 8192) : parseP ⟨(plainL text).toArray⟩ = .error (0, 60) := by
  unfold parseP
  rw [if_pos (by show (plainL text).toArray.size > 8192; rw [List.size_toArray]; omega)]
end Go.Proofs.YtbpmahchinblhaaDoor
