import Derived.Test.YtgjcchafmcccjaaDoorSPrint
import Derived.Lib.IndexLaws
import Derived.Lib.IndexBytes
/- Layer 6 (schema): what is printed is what was read (plain). -/
namespace Go.Proofs.YtgjcchafmcccjaaDoor
open Go.RowKit
set_option linter.unusedVariables false

/-- The pieces between the bytes c. -/
def sp (c : UInt8) : List UInt8 → List (List UInt8)
  | [] => [[]]
  | b :: l => if b = c then [] :: sp c l else match sp c l with
    | p :: r => (b :: p) :: r
    | [] => [[b]]
theorem sp_cons (c b : UInt8) (l : List UInt8) : sp c (b :: l) = if b = c then [] :: sp c l else match sp c l with
    | p :: r => (b :: p) :: r
    | [] => [[b]] := rfl
theorem sp_ne (c : UInt8) : ∀ l, sp c l ≠ []
  | [] => by simp [sp]
  | b :: l => by
    unfold sp
    split
    · simp
    · split <;> simp
theorem sp_none (c : UInt8) : ∀ l : List UInt8, (∀ k : Nat, l[k]? ≠ some c) → sp c l = [l]
  | [], _ => rfl
  | b :: l, h => by
    have h0 : b ≠ c := fun e => h 0 (by simp [e])
    have ih := sp_none c l (fun k => by simpa using h (k + 1))
    rw [sp_cons, if_neg h0, ih]
theorem sp_hit (c : UInt8) : ∀ (o : Nat) (l : List UInt8), l[o]? = some c → (∀ k : Nat, k < o → l[k]? ≠ some c) → sp c l = l.take o :: sp c (l.drop (o + 1))
  | _, [], h, _ => by simp at h
  | 0, b :: l, h, _ => by
    simp at h
    rw [sp_cons, if_pos h]
    simp
  | o + 1, b :: l, h, hk => by
    have h0 : b ≠ c := fun e => hk 0 (by omega) (by simp [e])
    have ih := sp_hit c o l (by simpa using h) (fun k hkl => by simpa using hk (k + 1) (by omega))
    rw [sp_cons, if_neg h0, ih]
    simp
theorem splitK_sp (c : UInt8) : ∀ (n : Nat) (l : List UInt8), l.length ≤ n → Lib.splitK [c] 0 (Lib.count l [c]) l = sp c l
  | n, l, hn => by
    have hge := Lib.index_ge l [c]
    by_cases hm : Lib.index l [c] = -1
    · rw [Lib.count_miss hm]
      rw [Lib.index_one] at hm
      rw [sp_none c l (Lib.indexByte_none hm)]
      rfl
    · obtain ⟨i, hi⟩ : ∃ i : Nat, Lib.index l [c] = i := ⟨(Lib.index l [c]).toNat, by omega⟩
      have hi2 := hi
      rw [Lib.index_one] at hi2
      obtain ⟨h1, h2⟩ := Lib.indexByte_some hi2
      have hlt : i < l.length := (List.getElem?_eq_some_iff.1 h1).1
      rw [Lib.count_hit (by simp) hi, Nat.add_comm 1, Lib.splitK, if_neg (by rw [hi]; simp), hi, sp_hit c i l h1 h2]
      cases n with
      | zero => omega
      | succ n =>
        have := splitK_sp c n (l.drop (i + 1)) (by simp; omega)
        simp only [Int.toNat_natCast, Nat.add_zero, List.length_cons, List.length_nil, Nat.zero_add]
        rw [this]
theorem ws_sp (s : ByteArray) (c : UInt8) : (wsOf s c).map (·.data.toList) = sp c s.data.toList := by
  unfold wsOf
  rw [Lib.splitB_data]
  exact splitK_sp c _ _ (Nat.le_refl _)

theorem join_cons (a : List UInt8) (r : List (List UInt8)) (c : UInt8) (h : r ≠ []) : Lib.join (a :: r) [c] = a ++ c :: Lib.join r [c] := by
  cases r with
  | nil => exact absurd rfl h
  | cons b r => simp [Lib.join, List.intercalate, List.intersperse]
theorem join_sp (c : UInt8) : ∀ l, Lib.join (sp c l) [c] = l
  | [] => by simp [sp, Lib.join, List.intercalate]
  | b :: l => by
    have ih := join_sp c l
    unfold sp
    split
    · next h => rw [join_cons _ _ _ (sp_ne c l), ih, h]; rfl
    · have hne := sp_ne c l
      cases hs : sp c l with
      | nil => exact absurd hs hne
      | cons p r =>
        rw [hs] at ih
        dsimp only
        cases r with
        | nil => rw [Lib.join_one] at ih ⊢; rw [ih]
        | cons q r =>
          rw [join_cons _ _ _ (by simp)] at ih ⊢
          rw [List.cons_append, ih]
theorem join_ws (s : ByteArray) (c : UInt8) : Lib.join ((wsOf s c).map (·.data.toList)) [c] = s.data.toList := by rw [ws_sp, join_sp]
theorem sp_free (c : UInt8) : ∀ l, ∀ p ∈ sp c l, c ∉ p
  | [], p, hp => by simp [sp] at hp; subst hp; simp
  | b :: l, p, hp => by
    have ih := sp_free c l
    unfold sp at hp
    split at hp
    · rcases List.mem_cons.1 hp with rfl | hp
      · simp
      · exact ih p hp
    · next hb =>
      cases hs : sp c l with
      | nil => exact absurd hs (sp_ne c l)
      | cons q r =>
        rw [hs] at hp ih
        rcases List.mem_cons.1 hp with rfl | hp
        · have := ih q (by simp)
          simp [this, Ne.symm hb]
        · exact ih p (by simp [hp])
theorem sp_piece (c : UInt8) : ∀ (p l : List UInt8), c ∉ p → sp c (p ++ c :: l) = p :: sp c l
  | [], l, _ => by
    show sp c (c :: l) = _
    rw [sp_cons, if_pos rfl]
  | b :: p, l, h => by
    simp only [List.mem_cons, not_or] at h
    show sp c (b :: (p ++ c :: l)) = _
    rw [sp_cons, if_neg (Ne.symm h.1), sp_piece c p l h.2]
theorem sp_lines (c : UInt8) : ∀ ls : List (List UInt8), (∀ p ∈ ls, c ∉ p) → sp c (ls.flatMap (fun p => p ++ [c])) = ls ++ [[]]
  | [], _ => rfl
  | p :: ls, h => by
    have e : (p :: ls).flatMap (fun p => p ++ [c]) = p ++ c :: ls.flatMap (fun p => p ++ [c]) := by simp
    rw [e, sp_piece c p _ (h p (by simp)), sp_lines c ls (fun q hq => h q (by simp [hq]))]
    rfl

/-- The text without its empty lines. -/
def fullL (text : ByteArray) : List ByteArray := (wsOf text 10).filter fun l => decide (¬ l = ⟨#[]⟩)
def plainL (text : ByteArray) : List UInt8 := (fullL text).flatMap fun l => l.data.toList ++ [10]

/-! ### A line adds itself to what is printed -/
theorem word_kind {s : ByteArray} (h : ¬ kindB s = 0) : wordB (kindB s) = s := by
  unfold kindB at h ⊢
  split
  · next e => rw [e]; rfl
  · split
    · next e => rw [e]; rfl
    · split
      · next e => rw [e]; rfl
      · simp_all
theorem place_name {fs : List Fd} {n : ByteArray} (h : placeF fs n ≠ -1) : nmAt fs (placeF fs n) = n := by
  unfold placeF at h ⊢
  cases hf : fs.findIdx? (fun f => decide (f.n = n)) with
  | none => rw [hf] at h; exact absurd rfl h
  | some i =>
    rw [List.findIdx?_eq_some_iff_getElem] at hf
    obtain ⟨hi, hp, _⟩ := hf
    show (fs.getD ((i : Int)).toNat ⟨⟨#[]⟩, 0⟩).n = n
    rw [Int.toNat_natCast, List.getD_eq_getElem?_getD, List.getElem?_eq_getElem hi]
    simpa using hp
theorem takeF_back (f : ByteArray) (l : List ByteArray) : (if (takeF f l).1 then [f] else []) ++ (takeF f l).2 = l := by
  cases l with
  | nil => rfl
  | cons a l =>
    show (if (if a = f then (true, l) else (false, a :: l)).1 then [f] else []) ++ (if a = f then (true, l) else (false, a :: l)).2 = a :: l
    split
    · next h => rw [h]; rfl
    · rfl
theorem flags_back {d : List ByteArray} (h : ¬ (flagsW d).2.length > 0) : flagsL (flagsW d).1.1 (flagsW d).1.2.1 (flagsW d).1.2.2 = d := by
  have h0 : (flagsW d).2 = [] := List.length_eq_zero_iff.1 (by omega)
  unfold flagsW at h0 ⊢
  dsimp only at h0 ⊢
  have e1 := takeF_back uniqueW d
  have e2 := takeF_back lowerW (takeF uniqueW d).2
  have e3 := takeF_back looseW (takeF lowerW (takeF uniqueW d).2).2
  rw [h0, List.append_nil] at e3
  unfold flagsL
  rw [e3, e2, e1]
theorem printL_snoc (ts : List Tb) (t : Tb) : printL (ts ++ [t]) = printL ts ++ tabL t := by simp [printL]
theorem dropLast_getLast {ts : List Tb} {t : Tb} (h : ts.getLast? = some t) : ts = ts.dropLast ++ [t] := by
  rcases nil_or_snoc ts with rfl | ⟨us, u, rfl⟩
  · simp at h
  · simp at h; subst h; simp
theorem words_all {ws : List ByteArray} (h : 3 ≤ ws.length) : ws = [ws.getD 0 ⟨#[]⟩, ws.getD 1 ⟨#[]⟩, ws.getD 2 ⟨#[]⟩] ++ ws.drop 3 := by
  match ws, h with
  | a :: b :: c :: r, _ => rfl
end Go.Proofs.YtgjcchafmcccjaaDoor

/- Layer 6 (schema): Print of what Parse gave, and Parse of that (plain). -/
namespace Go.Proofs.YtgjcchafmcccjaaDoor
open Go.RowKit
set_option linter.unusedVariables false

theorem rTable_prints {ln : Int} {ws : List ByteArray} {st st' : St} (h0 : ws.getD 0 ⟨#[]⟩ = tableW) (h : rTable ln ws st = .ok st') : printL st'.1 = printL st.1 ++ lineL ws ∧ ∀ ln2 bg2, ∃ bg3, rTable ln2 ws (st.1, bg2) = .ok (st'.1, bg3) := by
  unfold rTable at h ⊢
  split at h
  · cases h
  split at h
  · cases h
  split at h
  · cases h
  split at h
  · cases h
  split at h
  · cases h
  next h1 h2 h3 h4 h5 =>
  cases h
  have hw : ws = [tableW, ws.getD 1 ⟨#[]⟩] := by
    match ws, h1 with
    | [], h1 => simp at h1
    | [a], h1 => simp at h1
    | [a, b], _ => simp at h0; rw [h0]; rfl
    | a :: b :: c :: r, h1 => simp at h1
  refine ⟨?_, fun ln2 bg2 => ⟨ln2, ?_⟩⟩
  · rw [printL_snoc]
    congr 1
    conv => rhs; rw [hw]
    simp [tabL]
  · rw [if_neg h1, if_neg h2, if_neg h3, if_neg h4, if_neg h5]

theorem rField_prints {ln : Int} {ws : List ByteArray} {st st' : St} (h0 : ws.getD 0 ⟨#[]⟩ = fieldW) (h : rField ln ws st = .ok st') : printL st'.1 = printL st.1 ++ lineL ws ∧ ∀ ln2 bg2, ∃ bg3, rField ln2 ws (st.1, bg2) = .ok (st'.1, bg3) := by
  unfold rField at h ⊢
  split at h
  · cases h
  split at h
  · cases h
  split at h
  · cases h
  next h1 h2 h3 =>
  cases hl : st.1.getLast? with
  | none => rw [hl] at h; cases h
  | some t =>
    rw [hl] at h
    dsimp only at h
    split at h
    · cases h
    split at h
    · cases h
    split at h
    · cases h
    next h4 h5 h6 =>
    cases h
    have hx : t.xs = [] := List.length_eq_zero_iff.1 (by omega)
    have hw : ws = [fieldW, ws.getD 1 ⟨#[]⟩, ws.getD 2 ⟨#[]⟩] := by
      have := words_all (ws := ws) (by omega)
      have hd : ws.drop 3 = [] := by rw [List.drop_eq_nil_iff]; omega
      rw [hd, List.append_nil, h0] at this
      exact this
    refine ⟨?_, fun ln2 bg2 => ⟨bg2, ?_⟩⟩
    · have e : printL st.1 = printL st.1.dropLast ++ tabL t := by rw [← printL_snoc, ← dropLast_getLast hl]
      rw [printL_snoc, e, List.append_assoc]
      congr 1
      have hf : fldL ⟨ws.getD 1 ⟨#[]⟩, kindB (ws.getD 2 ⟨#[]⟩)⟩ = lineL ws := by
        conv => rhs; rw [hw]
        show lineL [fieldW, ws.getD 1 ⟨#[]⟩, wordB (kindB (ws.getD 2 ⟨#[]⟩))] = _
        rw [word_kind h2]
      unfold tabL
      rw [hx, ← hf]
      simp
    · rw [if_neg h1, if_neg h2, if_neg h3]
      dsimp only
      rw [hl]
      dsimp only
      rw [if_neg h4, if_neg h5, if_neg h6]

theorem rIndex_prints {ln : Int} {ws : List ByteArray} {st st' : St} (h0 : ws.getD 0 ⟨#[]⟩ = indexW) (h : rIndex ln ws st = .ok st') : printL st'.1 = printL st.1 ++ lineL ws ∧ ∀ ln2 bg2, ∃ bg3, rIndex ln2 ws (st.1, bg2) = .ok (st'.1, bg3) := by
  unfold rIndex at h ⊢
  split at h
  · cases h
  split at h
  · cases h
  split at h
  · cases h
  next h1 h2 h3 =>
  cases hl : st.1.getLast? with
  | none => rw [hl] at h; cases h
  | some t =>
    rw [hl] at h
    dsimp only at h
    split at h
    · cases h
    split at h
    · cases h
    split at h
    · cases h
    split at h
    · cases h
    next h4 h5 h6 h7 =>
    cases h
    refine ⟨?_, fun ln2 bg2 => ⟨bg2, ?_⟩⟩
    · have e : printL st.1 = printL st.1.dropLast ++ tabL t := by rw [← printL_snoc, ← dropLast_getLast hl]
      rw [printL_snoc, e, List.append_assoc]
      congr 1
      have hj : joinedL t.fs ((wsOf (ws.getD 2 ⟨#[]⟩) 44).map (placeF t.fs)) = ws.getD 2 ⟨#[]⟩ := by
        have hn : namesL t.fs ((wsOf (ws.getD 2 ⟨#[]⟩) 44).map (placeF t.fs)) = wsOf (ws.getD 2 ⟨#[]⟩) 44 := by
          unfold namesL
          rw [List.map_map]
          conv => rhs; rw [← List.map_id (wsOf (ws.getD 2 ⟨#[]⟩) 44)]
          refine List.map_congr_left fun a ha => ?_
          refine place_name fun e => h6 ?_
          simp only [List.contains_iff_mem, List.mem_map]
          exact ⟨a, ha, e⟩
        unfold joinedL
        rw [hn, join_ws]
      have hw : wordsL t.fs ⟨ws.getD 1 ⟨#[]⟩, (wsOf (ws.getD 2 ⟨#[]⟩) 44).map (placeF t.fs), (flagsW (ws.drop 3)).1.1, (flagsW (ws.drop 3)).1.2.1, (flagsW (ws.drop 3)).1.2.2⟩ = ws := by
        unfold wordsL
        dsimp only
        rw [hj, flags_back h2, ← h0]
        exact (words_all (by omega)).symm
      unfold tabL
      rw [List.flatMap_append, List.flatMap_cons, List.flatMap_nil, List.append_nil]
      dsimp only
      rw [hw]
      simp
    · rw [if_neg h1, if_neg h2, if_neg h3]
      dsimp only
      rw [hl]
      dsimp only
      rw [if_neg h4, if_neg h5, if_neg h6, if_neg h7]

theorem rLine_prints {ln : Int} {ws : List ByteArray} {st st' : St} (h : rLine ln ws st = .ok st') : printL st'.1 = printL st.1 ++ lineL ws ∧ ∀ ln2 bg2, ∃ bg3, rLine ln2 ws (st.1, bg2) = .ok (st'.1, bg3) := by
  unfold rLine at h ⊢
  split at h
  · next h1 =>
    obtain ⟨a, b⟩ := rTable_prints h1 h
    exact ⟨a, fun ln2 bg2 => by rw [if_pos h1]; exact b ln2 bg2⟩
  · next h1 =>
    split at h
    · next h2 =>
      obtain ⟨a, b⟩ := rField_prints h2 h
      exact ⟨a, fun ln2 bg2 => by rw [if_neg h1, if_pos h2]; exact b ln2 bg2⟩
    · next h2 =>
      split at h
      · next h3 =>
        obtain ⟨a, b⟩ := rIndex_prints h3 h
        exact ⟨a, fun ln2 bg2 => by rw [if_neg h1, if_neg h2, if_pos h3]; exact b ln2 bg2⟩
      · cases h

theorem line_back (l : ByteArray) : lineL (wsOf l 32) = l.data.toList ++ [10] := by unfold lineL; rw [join_ws]
theorem rLines_prints : ∀ {ls : List ByteArray} {ln : Int} {st st' : St}, rLines ln ls st = .ok st' → printL st'.1 = printL st.1 ++ (ls.filter fun l => decide (¬ l = ⟨#[]⟩)).flatMap (fun l => l.data.toList ++ [10])
  | [], ln, st, st', h => by
    simp only [rLines, Except.ok.injEq] at h
    subst h
    simp
  | l :: ls, ln, st, st', h => by
    rw [rLines] at h
    by_cases he : l = ⟨#[]⟩
    · rw [if_pos he] at h
      rw [List.filter_cons_of_neg (by simp [he])]
      exact rLines_prints h
    · rw [if_neg he] at h
      cases hr : rLine ln (wsOf l 32) st with
      | error e => rw [hr] at h; cases h
      | ok s1 =>
        rw [hr] at h
        have h1 := (rLine_prints hr).1
        have h2 := rLines_prints h
        rw [List.filter_cons_of_pos (by simpa using he), List.flatMap_cons, h2, h1, line_back, List.append_assoc]
theorem rLines_again : ∀ {ls : List ByteArray} {ln : Int} {st st' : St}, rLines ln ls st = .ok st' → ∀ ln2 bg2, ∃ bg3, rLines ln2 ((ls.filter fun l => decide (¬ l = ⟨#[]⟩)) ++ [⟨#[]⟩]) (st.1, bg2) = .ok (st'.1, bg3)
  | [], ln, st, st', h, ln2, bg2 => by
    simp only [rLines, Except.ok.injEq] at h
    subst h
    exact ⟨bg2, by simp [rLines]⟩
  | l :: ls, ln, st, st', h, ln2, bg2 => by
    rw [rLines] at h
    by_cases he : l = ⟨#[]⟩
    · rw [if_pos he] at h
      rw [List.filter_cons_of_neg (by simp [he])]
      exact rLines_again h ln2 bg2
    · rw [if_neg he] at h
      cases hr : rLine ln (wsOf l 32) st with
      | error e => rw [hr] at h; cases h
      | ok s1 =>
        rw [hr] at h
        obtain ⟨bg3, h1⟩ := (rLine_prints hr).2 ln2 bg2
        obtain ⟨bg4, h2⟩ := rLines_again h (ln2 + 1) bg3
        refine ⟨bg4, ?_⟩
        rw [List.filter_cons_of_pos (by simpa using he), List.cons_append, rLines, if_neg he, h1]
        exact h2

theorem parse_prints {text : ByteArray} {us : List Tb} (h : parseP text = .ok us) : printL us = plainL text := by
  unfold parseP at h
  split at h
  · cases h
  cases hr : rLines 1 (wsOf text 10) ([], 0) with
  | error e => rw [hr] at h; cases h
  | ok st =>
    rw [hr] at h
    dsimp only at h
    split at h
    · cases h
    cases h
    have := rLines_prints hr
    simpa [printL, plainL, fullL] using this
theorem full_ws (text : ByteArray) : wsOf ⟨(plainL text).toArray⟩ 10 = fullL text ++ [⟨#[]⟩] := by
  have h1 := ws_sp ⟨(plainL text).toArray⟩ 10
  have e : plainL text = ((fullL text).map (·.data.toList)).flatMap fun p => p ++ [10] := by unfold plainL; rw [List.flatMap_map]
  have hfree : ∀ p ∈ (fullL text).map (·.data.toList), (10 : UInt8) ∉ p := by
    intro p hp
    obtain ⟨a, ha, rfl⟩ := List.mem_map.1 hp
    have hm : a.data.toList ∈ sp 10 text.data.toList := by rw [← ws_sp]; exact List.mem_map_of_mem (List.mem_filter.1 ha).1
    exact sp_free 10 _ _ hm
  have h2 : (wsOf ⟨(plainL text).toArray⟩ 10).map (·.data.toList) = (fullL text ++ [(⟨#[]⟩ : ByteArray)]).map (fun a : ByteArray => a.data.toList) := by
    rw [h1]
    show sp 10 ((plainL text).toArray.toList) = _
    rw [List.toList_toArray, e, sp_lines 10 _ hfree, List.map_append]
    rfl
  exact List.map_inj_right (fun a b hab => Go.WideShapes.bytes_inj hab) |>.1 h2
theorem parse_again {text : ByteArray} {us : List Tb} (h : parseP text = .ok us) (hl : (plainL text).length ≤ 8192) : parseP ⟨(plainL text).toArray⟩ = .ok us := by
  unfold parseP at h
  split at h
  · cases h
  cases hr : rLines 1 (wsOf text 10) ([], 0) with
  | error e => rw [hr] at h; cases h
  | ok st =>
    rw [hr] at h
    dsimp only at h
    split at h
    · cases h
    next hb =>
    cases h
    obtain ⟨bg3, h2⟩ := rLines_again hr 1 0
    unfold parseP
    rw [if_neg (by show ¬ (plainL text).toArray.size > 8192; rw [List.size_toArray]; omega), full_ws]
    unfold fullL
    rw [h2]
    dsimp only
    rw [if_neg hb]
theorem parse_long {text : ByteArray} (hl : (plainL text).length > 8192) : parseP ⟨(plainL text).toArray⟩ = .error (0, 60) := by
  unfold parseP
  rw [if_pos (by show (plainL text).toArray.size > 8192; rw [List.size_toArray]; omega)]
end Go.Proofs.YtgjcchafmcccjaaDoor
