import Derived.Test.YtgjcchafmcccjaaGreatDoorRwPut
import Derived.Test.YtgjcchafmcccjaaGreatDoorRwLowR
import Derived.Test.YtgjcchafmcccjaaGreatDoorSIndex
/- Layer 9 (records): what is fixed stays as it is; small letters and great ones are fixed alike. Plain. -/
namespace Go.Proofs.YtgjcchafmcccjaaGreatDoor
open Go.RowKit

theorem lab_zero {s : ByteArray} (h : labE s = 0) : labB s = true := by
  unfold labE at h
  split at h
  · assumption
  · cases h
theorem lab_again {s : ByteArray} (h : labE s = 0) : labE (labT s) = 0 ∧ labT (labT s) = labT s := by
  rw [(lab_yes (lab_zero h)).1, labE_low, labT_low, (lab_yes (lab_zero h)).1]
  exact ⟨h, rfl⟩
theorem orE_zero {a b : Int} (h : orE a b = 0) : a = 0 ∧ b = 0 := by
  unfold orE at h
  split at h
  · exact ⟨by assumption, h⟩
  · exact absurd h (by assumption)
theorem node_again {n : Nd} (h : nodeE n = 0) : nodeE (fixN n) = 0 ∧ fixN (fixN n) = fixN n := by
  obtain ⟨h1, h2⟩ := orE_zero h
  obtain ⟨k1, k2⟩ := lab_again h1
  have e : fixN n = ⟨labT n.name, n.addr, 0, 0⟩ := if_pos h
  have e2 : nodeE ⟨labT n.name, n.addr, 0, 0⟩ = 0 := by
    unfold nodeE orE
    rw [if_pos k1]
    exact h2
  rw [e]
  refine ⟨e2, ?_⟩
  unfold fixN
  rw [if_pos e2]
  show (⟨labT (labT n.name), n.addr, 0, 0⟩ : Nd) = _
  rw [k2]
theorem lowL_low (x : ByteArray) : lowL (lowS x) = lowL x := by
  unfold lowL
  rw [lowS_low]
theorem tagsOk_low (l : List ByteArray) : tagsOk (l.map lowS) ↔ tagsOk l := by
  unfold tagsOk
  rw [List.length_map]
  constructor
  · rintro ⟨h1, h2⟩
    exact ⟨h1, fun x hx => by rw [← labB_low]; exact h2 _ (List.mem_map_of_mem hx)⟩
  · rintro ⟨h1, h2⟩
    refine ⟨h1, fun x hx => ?_⟩
    obtain ⟨y, hy, rfl⟩ := List.mem_map.1 hx
    rw [labB_low]
    exact h2 y hy
theorem tagsE_low (l : List ByteArray) : tagsE (l.map lowS) = tagsE l := by
  by_cases h : tagsOk l
  · rw [(tags_yes h).1, (tags_yes ((tagsOk_low l).2 h)).1]
  · rw [(tags_no h).1, (tags_no (fun e => h ((tagsOk_low l).1 e))).1]
theorem tagsL_low (l : List ByteArray) : tagsL (l.map lowS) = tagsL l := by
  by_cases h : tagsOk l
  · rw [(tags_yes h).2, (tags_yes ((tagsOk_low l).2 h)).2, List.map_map]
    have : lowL ∘ lowS = lowL := funext lowL_low
    rw [this]
  · rw [(tags_no h).2, (tags_no (fun e => h ((tagsOk_low l).1 e))).2]
theorem tagsB_low (l : List ByteArray) : tagsB (l.map lowS) = tagsB l := by
  unfold tagsB
  rw [tagsL_low]
theorem tagsL_put {l : List ByteArray} (h : tagsOk l) : tagsL l = putAll (l.map lowL) := (tags_yes h).2.trans (compact_putAll _)
theorem tagsL_rising (l : List ByteArray) : Rising (tagsL l) := by
  by_cases h : tagsOk l
  · rw [tagsL_put h]; exact putAll_rising _
  · rw [(tags_no h).2]; exact List.Pairwise.nil
theorem tagsL_mem {l : List ByteArray} (h : tagsOk l) (y : List UInt8) : y ∈ tagsL l ↔ ∃ x ∈ l, lowL x = y := by
  rw [tagsL_put h, putAll_mem, List.mem_map]
theorem tagsB_mem {l : List ByteArray} (h : tagsOk l) {y : ByteArray} (hy : y ∈ tagsB l) : ∃ x ∈ l, lowS x = y := by
  unfold tagsB at hy
  obtain ⟨b, hb, rfl⟩ := List.mem_map.1 hy
  obtain ⟨x, hx, rfl⟩ := (tagsL_mem h b).1 hb
  exact ⟨x, hx, rfl⟩
theorem tagsOk_again {l : List ByteArray} (h : tagsOk l) : tagsOk (tagsB l) := by
  refine ⟨?_, fun y hy => ?_⟩
  · rw [tagsB_len, (tags_yes h).2]
    refine Nat.le_trans (compact_le _) ?_
    rw [List.length_mergeSort, List.length_map]
    exact h.1
  · obtain ⟨x, hx, rfl⟩ := tagsB_mem h hy
    rw [labB_low]
    exact h.2 x hx
theorem tagsB_lowL {l : List ByteArray} (h : tagsOk l) : (tagsB l).map lowL = tagsL l := by
  unfold tagsB
  rw [List.map_map]
  conv => rhs; rw [← List.map_id (tagsL l)]
  refine List.map_congr_left fun b hb => ?_
  obtain ⟨x, hx, rfl⟩ := (tagsL_mem h b).1 hb
  exact lowL_low x
theorem tagsL_again {l : List ByteArray} (h : tagsOk l) : tagsL (tagsB l) = tagsL l := by
  rw [tagsL_put (tagsOk_again h), tagsB_lowL h]
  exact rising_uniq (putAll_rising _) (tagsL_rising l) fun y => putAll_mem _ y
theorem tagsB_again {l : List ByteArray} (h : tagsOk l) : tagsB (tagsB l) = tagsB l := by
  have := tagsL_again h
  unfold tagsB at this ⊢
  rw [this]
theorem tags_zero {l : List ByteArray} (h : tagsE l = 0) : tagsOk l := by
  unfold tagsE at h
  split at h
  · assumption
  · cases h
theorem svc_again {s : Sp} (h : svcE s = 0) : svcE (svcF s) = 0 ∧ svcF (svcF s) = svcF s := by
  obtain ⟨h1, h2, h3, h4⟩ := svc_parts h
  obtain ⟨i1, i2⟩ := orE_zero h1
  obtain ⟨a1, a2⟩ := lab_again i1
  obtain ⟨b1, b2⟩ := lab_again i2
  obtain ⟨c1, c2⟩ := lab_again h2
  have ht := tags_zero h4
  rw [svc_yes h]
  have e : svcE ⟨labT s.node, labT s.id, labT s.name, s.port, tagsB s.tags, 0, 0⟩ = 0 := by
    unfold svcE
    simp only [firstE, orE, idE, a1, b1, c1, h3, (tags_yes (tagsOk_again ht)).1, if_true]
  refine ⟨e, ?_⟩
  rw [svc_yes e]
  simp only [a2, b2, c2, tagsB_again ht]
end Go.Proofs.YtgjcchafmcccjaaGreatDoor

/- On the seat of layer 6 (schema) SGen is this: the templates that hold its declarations. -/

/- Layer 6 (schema): the document's Kind, bare, field, Named. -/
namespace Go.Proofs.YtgjcchafmcccjaaGreatDoor
open Go.RowKit
set_option linter.unusedVariables false

theorem len_zero {s : ByteArray} (h : ¬ 0 < s.size) : s.data.toList.length = 0 := by
  have e : s.data.toList.length = s.size := by simp
  omega
theorem nm_first {s : ByteArray} (h0 : 0 < s.size) (h : isLet s[0] = false) : false = nameB s := by
  cases hd : isDig s[0] with
  | true => exact nm_digit h0 hd
  | false => exact nm_bad h0 (by rw [h, hd]; rfl)
theorem let_not_dig {b : UInt8} (h : isLet b = true) : isDig b = false := by
  simp [isLet] at h
  simp [isDig]
  omega

end Go.Proofs.YtgjcchafmcccjaaGreatDoor

/- Layer 6 (schema): the document's bare and field. -/
namespace Go.Proofs.YtgjcchafmcccjaaGreatDoor
open Go.RowKit
set_option linter.unusedVariables false

theorem zero_beq (n : Nat) : ((n : Int) == 0) = decide (n = 0) := by by_cases h : n = 0 <;> simp [h]
end Go.Proofs.YtgjcchafmcccjaaGreatDoor

/- Layer 6 (schema): the document's flags. -/
namespace Go.Proofs.YtgjcchafmcccjaaGreatDoor
open Go.RowKit
set_option linter.unusedVariables false
set_option linter.unusedSimpArgs false

/-- The word f stands at place k. -/
def stands (ws : List ByteArray) (k : Nat) (f : ByteArray) : Bool := match ws[k]? with | some x => decide (x = f) | none => false
theorem takeF_drop (ws : List ByteArray) (k : Nat) (f : ByteArray) : takeF f (ws.drop k) = (stands ws k f, ws.drop (k + (stands ws k f).toNat)) := by
  unfold stands
  by_cases h : k < ws.length
  · rw [List.drop_eq_getElem_cons h, List.getElem?_eq_getElem h]
    unfold takeF
    by_cases hx : ws[k] = f
    · simp [hx]
    · dsimp only
      rw [if_neg hx]
      simp only [hx, decide_false, Bool.toNat_false, Nat.add_zero]
      rw [List.drop_eq_getElem_cons h]
  · rw [List.drop_eq_nil_of_le (by omega), List.getElem?_eq_none (by omega)]
    simp [takeF]
    omega
/-- What the walk wants to know of the word at place k. -/
theorem stands_cases (ws : List ByteArray) (k : Nat) (f : ByteArray) : (stands ws k f = false ∧ ¬ k < ws.length) ∨ (∃ h : k < ws.length, (ws[k].toList == f.toList) = stands ws k f) := by
  unfold stands
  by_cases h : k < ws.length
  · right
    refine ⟨h, ?_⟩
    rw [List.getElem?_eq_getElem h, beq_toList]
  · left
    rw [List.getElem?_eq_none (by omega)]
    exact ⟨rfl, h⟩
theorem stands_at (ws : List ByteArray) (k : Nat) (f : ByteArray) (h : k < ws.length) : (ws[k].toList == f.toList) = stands ws k f := by
  unfold stands
  rw [List.getElem?_eq_getElem h, beq_toList]
theorem stands_off (ws : List ByteArray) (k : Nat) (f : ByteArray) (h : ¬ k < ws.length) : stands ws k f = false := by
  unfold stands
  rw [List.getElem?_eq_none (by omega)]
theorem flags_stands (ws : List ByteArray) : flagsW ws = ((stands ws 0 uniqueW, stands ws (stands ws 0 uniqueW).toNat lowerW, stands ws ((stands ws 0 uniqueW).toNat + (stands ws (stands ws 0 uniqueW).toNat lowerW).toNat) looseW), ws.drop ((stands ws 0 uniqueW).toNat + (stands ws (stands ws 0 uniqueW).toNat lowerW).toNat + (stands ws ((stands ws 0 uniqueW).toNat + (stands ws (stands ws 0 uniqueW).toNat lowerW).toNat) looseW).toNat)) := by
  have h0 := takeF_drop ws 0 uniqueW
  rw [List.drop_zero, Nat.zero_add] at h0
  unfold flagsW
  rw [h0]
  dsimp only
  rw [takeF_drop]
  dsimp only
  rw [takeF_drop]

theorem results_tmp4 {fn : Func} {t u v x : Tmp} (h : fn.results = #[.tmp t, .tmp u, .tmp v, .tmp x]) (tmps : Array Value) (P : Program) (w : World) :
    (results fn tmps).run P w = .ok (.tuple #[tmps.getD t undef, tmps.getD u undef, tmps.getD v undef, tmps.getD x undef]) w := by
  simp [results, h]

theorem ret_four {a b c d a' b' c' d' : Bool} (h1 : a = a') (h2 : b = b') (h3 : c = c') (h4 : d = d') : Ending.returned (.tuple #[.bool a, .bool b, .bool c, .bool d]) = .returned (.tuple #[.bool a', .bool b', .bool c', .bool d']) := by rw [h1, h2, h3, h4]
theorem rest_zero (ws : List ByteArray) (k : Nat) (hk : k ≤ ws.length) : ((k : Int) == (ws.length : Int)) = decide ((ws.drop k).length = 0) := by
  by_cases h : k = ws.length
  · simp [h]
  · have h1 : ¬ (ws.length - k = 0) := by omega
    simp [h1]
    omega

end Go.Proofs.YtgjcchafmcccjaaGreatDoor

/- Layer 6 (schema): the document's Split and Plain. -/
namespace Go.Proofs.YtgjcchafmcccjaaGreatDoor
open Go.RowKit
set_option linter.unusedVariables false

/-- Split's state at place k, the piece begun at f. -/
def SpI (s : ByteArray) (c : UInt8) (k f : Nat) (pre : List ByteArray) : Prop :=
  (k ≤ s.size ∧ f ≤ k ∧ (∀ j : Nat, f ≤ j → j < k → s.data.toList[j]? ≠ some c) ∧ pre.map (·.data.toList) ++ sp c (s.data.toList.drop f) = sp c s.data.toList) ∨ (k = s.size + 1 ∧ f ≤ k ∧ pre = wsOf s c)

theorem extract_piece (s : ByteArray) (f k : Nat) : (s.extract f k).data.toList = (s.data.toList.drop f).take (k - f) := by
  rw [ByteArray.data_extract, Array.toList_extract, List.extract_eq_take_drop]
theorem SpI.over {s : ByteArray} {c : UInt8} {k f : Nat} {pre : List ByteArray} (h : SpI s c k f pre) (hk : k < s.size) (hc : ¬ s[k] = c) : SpI s c (k + 1) f pre := by
  rcases h with ⟨h1, h2, h3, h4⟩ | ⟨h1, _⟩
  · refine .inl ⟨by omega, by omega, fun j hj hjk => ?_, h4⟩
    rcases Nat.lt_or_ge j k with h | h
    · exact h3 j hj h
    · obtain rfl : j = k := by omega
      rw [List.getElem?_eq_getElem (by simpa using hk)]
      intro e
      exact hc (Option.some.inj e)
  · omega
theorem SpI.cut {s : ByteArray} {c : UInt8} {k f : Nat} {pre : List ByteArray} (h : SpI s c k f pre) (hk : k < s.size) (hc : s[k] = c) : SpI s c (k + 1) (k + 1) (pre ++ [s.extract f k]) := by
  rcases h with ⟨h1, h2, h3, h4⟩ | ⟨h1, _⟩
  · refine .inl ⟨by omega, by omega, fun j hj hjk => by omega, ?_⟩
    have e := sp_hit c (k - f) (s.data.toList.drop f) (by
      rw [List.getElem?_drop, show f + (k - f) = k by omega, List.getElem?_eq_getElem (by simpa using hk)]
      exact congrArg some hc) (fun j hj => by
      rw [List.getElem?_drop]
      exact h3 (f + j) (by omega) (by omega))
    rw [List.drop_drop, show f + (k - f + 1) = k + 1 by omega] at e
    rw [← h4, e, List.map_append, List.map_cons, List.map_nil, extract_piece]
    simp
  · omega
theorem SpI.last {s : ByteArray} {c : UInt8} {k f : Nat} {pre : List ByteArray} (h : SpI s c k f pre) (hk : k = s.size) : SpI s c (k + 1) (k + 1) (pre ++ [s.extract f k]) := by
  rcases h with ⟨h1, h2, h3, h4⟩ | ⟨h1, _⟩
  · refine .inr ⟨by omega, by omega, ?_⟩
    have e := sp_none c (s.data.toList.drop f) (fun j => by
      rw [List.getElem?_drop]
      by_cases hj : f + j < k
      · exact h3 (f + j) (by omega) hj
      · rw [List.getElem?_eq_none (by simp; omega)]; simp)
    have h5 : (pre ++ [s.extract f k]).map (fun a : ByteArray => a.data.toList) = (wsOf s c).map (fun a : ByteArray => a.data.toList) := by
      rw [ws_sp, ← h4, e, List.map_append, List.map_cons, List.map_nil, extract_piece, List.take_of_length_le (by simp; omega)]
    exact List.map_inj_right (fun a b hab => Go.WideShapes.bytes_inj hab) |>.1 h5
  · omega
theorem SpI.done {s : ByteArray} {c : UInt8} {k f : Nat} {pre : List ByteArray} (h : SpI s c k f pre) (hk : ¬ k ≤ s.size) : pre = wsOf s c := by
  rcases h with ⟨h1, _⟩ | ⟨_, _, h⟩
  · exact absurd h1 hk
  · exact h
theorem byte_same {a b : UInt8} (h : ¬ a = b) : ((a.toNat : Int) == (b.toNat : Int)) = false := by
  have : a.toNat ≠ b.toNat := fun e => h (UInt8.toNat_inj.1 e)
  simp; omega

end Go.Proofs.YtgjcchafmcccjaaGreatDoor

/- Layer 6 (schema): the document's Form. -/
namespace Go.Proofs.YtgjcchafmcccjaaGreatDoor
open Go.RowKit
set_option linter.unusedVariables false

/-- The form of a line's words. -/
def formP (ws : List ByteArray) : Int :=
  if ws.getD 0 ⟨#[]⟩ = tableW then if ws.length ≠ 2 then 61 else if nameB (ws.getD 1 ⟨#[]⟩) = false then 62 else 0 else
  if ws.getD 0 ⟨#[]⟩ = fieldW then if ws.length ≠ 3 then 61 else if kindB (ws.getD 2 ⟨#[]⟩) = 0 then 61 else if nameB (ws.getD 1 ⟨#[]⟩) = false then 62 else 0 else
  if ws.getD 0 ⟨#[]⟩ = indexW then if ws.length < 3 then 61 else if (flagsW (ws.drop 3)).2.length > 0 then 61 else if nameB (ws.getD 1 ⟨#[]⟩) = false ∨ (wsOf (ws.getD 2 ⟨#[]⟩) 44).all nameB = false then 62 else 0 else 61

/-- Where the words have no right form, the line says so, whatever stands ahead of it. -/
theorem form_bad {ws : List ByteArray} (h : formP ws ≠ 0) (ln : Int) (st : St) : rLine ln ws st = .error (ln, formP ws) := by
  unfold formP at h ⊢
  unfold rLine
  split at h
  · next h0 =>
    rw [if_pos h0, if_pos h0]
    unfold rTable
    split at h
    · next h1 => rw [if_pos h1, if_pos h1]
    · next h1 =>
      split at h
      · next h2 => rw [if_neg h1, if_neg h1, if_pos h2, if_pos h2]
      · exact absurd rfl h
  · next h0 =>
    rw [if_neg h0, if_neg h0]
    split at h
    · next h0 =>
      rw [if_pos h0, if_pos h0]
      unfold rField
      split at h
      · next h1 => rw [if_pos h1, if_pos h1]
      · next h1 =>
        rw [if_neg h1, if_neg h1]
        split at h
        · next h2 => rw [if_pos h2, if_pos h2]
        · next h2 =>
          rw [if_neg h2, if_neg h2]
          split at h
          · next h3 => rw [if_pos h3, if_pos h3]
          · exact absurd rfl h
    · next h0 =>
      rw [if_neg h0, if_neg h0]
      split at h
      · next h0 =>
        rw [if_pos h0, if_pos h0]
        unfold rIndex
        split at h
        · next h1 => rw [if_pos h1, if_pos h1]
        · next h1 =>
          rw [if_neg h1, if_neg h1]
          split at h
          · next h2 => rw [if_pos h2, if_pos h2]
          · next h2 =>
            rw [if_neg h2, if_neg h2]
            split at h
            · next h3 => rw [if_pos h3, if_pos h3]
            · exact absurd rfl h
      · next h0 => rw [if_neg h0, if_neg h0]

theorem word_at {ws : List ByteArray} {k : Nat} (h : k < ws.length) : ws.getD k ⟨#[]⟩ = ws[k] := by rw [List.getD_eq_getElem?_getD, List.getElem?_eq_getElem h]; rfl

end Go.Proofs.YtgjcchafmcccjaaGreatDoor

/- Layer 6 (schema): the document's Form of an index's line. -/
namespace Go.Proofs.YtgjcchafmcccjaaGreatDoor
open Go.RowKit
set_option linter.unusedVariables false

end Go.Proofs.YtgjcchafmcccjaaGreatDoor
