/- Layer 6 (schema): the document's Form. -/
import Derived.Test.YtbpmahchinblhaaDoorSRFlags
import Derived.Test.YtbpmahchinblhaaDoorSRSplit
namespace Go.Proofs.YtbpmahchinblhaaDoor
open Go.RowKit
set_option linter.unusedVariables false

/-- The form of a line's words. -/
def formP (ws : List ByteArray) : Int :=
  if ws.getD 0 ⟨#[]⟩ = tableW then if ws.length ≠ 2 then 61 else if nameB (ws.getD 1 ⟨#[]⟩) = false then 62 else 0 else
  if ws.getD 0 ⟨#[]⟩ = fieldW then if ws.length ≠ 3 then 61 else if kindB (ws.getD 2 ⟨#[]⟩) = 0 then 61 else if nameB (ws.getD 1 ⟨#[]⟩) = false then 62 else 0 else
  if ws.getD 0 ⟨#[]⟩ = indexW then if ws.length < 3 then 61 else if (flagsW (ws.drop 3)).2.length > 0 then 61 else if nameB (ws.getD 1 ⟨#[]⟩) = false ∨ (wsOf (ws.getD 2 ⟨#[]⟩) 44).all nameB = false then 62 else 0 else 61

/-- Where the words have no right form, the line says so, whatever stands ahead of it. -/
theorem form_bad {ws : List ByteArray} (h : formP ws ≠ 0) (ln : Int) (st : St) : rLine ln ws st = .error (ln, formP ws) := by
  unfold formP at h ⊢
  unfold rLine
  split at h
  · next h0 =>
    rw [if_pos h0, if_pos h0]
    unfold rTable
    split at h
    · next h1 => rw [if_pos h1, if_pos h1]
    · next h1 =>
      split at h
      · next h2 => rw [if_neg h1, if_neg h1, if_pos h2, if_pos h2]
      · exact absurd rfl h
  · next h0 =>
    rw [if_neg h0, if_neg h0]
    split at h
    · next h0 =>
      rw [if_pos h0, if_pos h0]
      unfold rField
      split at h
      · next h1 => rw [if_pos h1, if_pos h1]
      · next h1 =>
        rw [if_neg h1, if_neg h1]
        split at h
        · next h2 => rw [if_pos h2, if_pos h2]
        · next h2 =>
          rw [if_neg h2, if_neg h2]
          split at h
          · next h3 => rw [if_pos h3, if_pos h3]
          · exact absurd rfl h
    · next h0 =>
      rw [if_neg h0, if_neg h0]
      split at h
      · next h0 =>
        rw [if_pos h0, if_pos h0]
        unfold rIndex
        split at h
        · next h1 => rw [if_pos h1, if_pos h1]
        · next h1 =>
          rw [if_neg h1, if_neg h1]
          split at h
          · next h2 => rw [if_pos h2, if_pos h2]
          · next h2 =>
            rw [if_neg h2, if_neg h2]
            split at h
            · next h3 => rw [if_pos h3, if_pos h3]
            · exact absurd rfl h
      · next h0 => rw [if_neg h0, if_neg h0]

theorem word_at {ws : List ByteArray} {k : Nat} (h : k < ws.length) : ws.getD k ⟨#[]⟩ = ws[k] := by rw [List.getD_eq_getElem?_getD, List.getElem?_eq_getElem h]; rfl

set_option maxRecDepth 100000 in
set_option maxHeartbeats 2000000 in
theorem rform_table (g cap : Nat) (ws : List ByteArray) (w : World) (h0 : 0 < ws.length) (hl : ws.length ≤ 100000) (hc : CellsAt w (some ⟨g, 0, none⟩) (ws.map Value.string)) (hs : ∀ x ∈ ws, x.size ≤ 8192) (hw : ws[0] = tableW) :
    Calls Tryd.prog 10 #[.slice (some ⟨g, 0, none⟩) ws.length cap] w fun e w' => e = .returned (.int .i64 (formP ws)) ∧ w' = w := by
  have hcell : ∀ k (h : k < ws.length), w.cell? ⟨g, k, none⟩ = some (.string ws[k]) := fun k h => by
    obtain ⟨b1, o1, e, c⟩ := hc.str k h
    simp only [Option.some.injEq, Addr.mk.injEq] at e
    obtain ⟨rfl, rfl, _⟩ := e
    simpa using c
  have c0 := hcell 0 h0
  rw [hw] at c0
  have HW : Hid (ws.getD 0 ⟨#[]⟩ = tableW) := by rw [Hid, word_at h0]; exact hw
  have u0 : tableW.toList = [116, 97, 98, 108, 101] := by rw [ByteArray.toList_eq]; rfl
  by_cases h2 : ws.length = 2
  · have c1 := hcell 1 (by omega)
    have hn := rnamed_calls ws[1] w (by have := hs _ (List.getElem_mem (by omega : 1 < ws.length)); omega)
    cases hb : nameB ws[1] with
    | true =>
      have HP : Hid (formP ws = 0) := by
        show _ = _
        unfold formP
        rw [if_pos HW.out, if_neg (by omega), word_at (by omega : 1 < ws.length), hb]
        rfl
      rw [hb] at hn
      have q : ((ws.length : Int) != 2) = false := by simp; omega
      clear hw hc hcell hb
      go_enter Tryd.func10, Tryd.ntmps10
      go_wp2_with (go_at_call 22; refine hn.mono ?_; rintro e w' ⟨rfl, rfl⟩)
      go_ret
      rw [HP.out]
      exact ⟨rfl, rfl⟩
    | false =>
      have HP : Hid (formP ws = 62) := by
        show _ = _
        unfold formP
        rw [if_pos HW.out, if_neg (by omega), word_at (by omega : 1 < ws.length), hb]
        rfl
      rw [hb] at hn
      have q : ((ws.length : Int) != 2) = false := by simp; omega
      clear hw hc hcell hb
      go_enter Tryd.func10, Tryd.ntmps10
      go_wp2_with (go_at_call 22; refine hn.mono ?_; rintro e w' ⟨rfl, rfl⟩)
      go_ret
      rw [HP.out]
      exact ⟨rfl, rfl⟩
  · have HP : Hid (formP ws = 61) := by
      show _ = _
      unfold formP
      rw [if_pos HW.out, if_pos h2]
    have q : ((ws.length : Int) != 2) = true := by simp; omega
    clear hw hc hcell
    go_enter Tryd.func10, Tryd.ntmps10
    go_wp2
    go_ret
    rw [HP.out]
    exact ⟨rfl, rfl⟩

set_option maxRecDepth 100000 in
set_option maxHeartbeats 2000000 in
theorem rform_field (g cap : Nat) (ws : List ByteArray) (w : World) (h0 : 0 < ws.length) (hl : ws.length ≤ 100000) (hc : CellsAt w (some ⟨g, 0, none⟩) (ws.map Value.string)) (hs : ∀ x ∈ ws, x.size ≤ 8192) (hw : ws[0] = fieldW) :
    Calls Tryd.prog 10 #[.slice (some ⟨g, 0, none⟩) ws.length cap] w fun e w' => e = .returned (.int .i64 (formP ws)) ∧ w' = w := by
  have hcell : ∀ k (h : k < ws.length), w.cell? ⟨g, k, none⟩ = some (.string ws[k]) := fun k h => by
    obtain ⟨b1, o1, e, c⟩ := hc.str k h
    simp only [Option.some.injEq, Addr.mk.injEq] at e
    obtain ⟨rfl, rfl, _⟩ := e
    simpa using c
  have c0 := hcell 0 h0
  rw [hw] at c0
  have HW : Hid (ws.getD 0 ⟨#[]⟩ = fieldW) := by rw [Hid, word_at h0]; exact hw
  have HW' : Hid (¬ ws.getD 0 ⟨#[]⟩ = tableW) := fun h => by
    rw [HW.out] at h
    have := congrArg (fun x => x.data.toList) h
    simp [fieldW, tableW] at this
  have u0 : fieldW.toList = [102, 105, 101, 108, 100] := by rw [ByteArray.toList_eq]; rfl
  by_cases h2 : ws.length = 3
  · have c1 := hcell 1 (by omega)
    have c2 := hcell 2 (by omega)
    have hn := rnamed_calls ws[1] w (by have := hs _ (List.getElem_mem (by omega : 1 < ws.length)); omega)
    have hkc := rkind_calls ws[2] w
    have q : ((ws.length : Int) != 3) = false := by simp; omega
    have HP : Hid (formP ws = if kindB ws[2] = 0 then 61 else if nameB ws[1] = false then 62 else 0) := by
      show _ = _
      unfold formP
      rw [if_neg HW'.out, if_pos HW.out, if_neg (by omega), word_at (by omega : 1 < ws.length), word_at (by omega : 2 < ws.length)]
    clear hw hc hcell
    by_cases hk0 : kindB ws[2] = 0
    · have qk : (kindB ws[2] == 0) = true := by simpa using hk0
      rw [if_pos hk0] at HP
      clear hk0
      go_enter Tryd.func10, Tryd.ntmps10
      go_wp2_with (go_at_call 20; refine hkc.mono ?_; rintro e w' ⟨rfl, rfl⟩)
      go_ret
      rw [HP.out]
      exact ⟨rfl, rfl⟩
    · have qk : (kindB ws[2] == 0) = false := by simpa using hk0
      rw [if_neg hk0] at HP
      clear hk0
      cases hb : nameB ws[1] with
      | true =>
        rw [hb] at hn HP
        clear hb
        go_enter Tryd.func10, Tryd.ntmps10
        go_wp2_with (first | (go_at_call 20; refine hkc.mono ?_; rintro e w' ⟨rfl, rfl⟩) | (go_at_call 22; refine hn.mono ?_; rintro e w' ⟨rfl, rfl⟩))
        go_ret
        rw [HP.out]
        exact ⟨rfl, rfl⟩
      | false =>
        rw [hb] at hn HP
        clear hb
        go_enter Tryd.func10, Tryd.ntmps10
        go_wp2_with (first | (go_at_call 20; refine hkc.mono ?_; rintro e w' ⟨rfl, rfl⟩) | (go_at_call 22; refine hn.mono ?_; rintro e w' ⟨rfl, rfl⟩))
        go_ret
        rw [HP.out]
        exact ⟨rfl, rfl⟩
  · have HP : Hid (formP ws = 61) := by
      show _ = _
      unfold formP
      rw [if_neg HW'.out, if_pos HW.out, if_pos h2]
    have q : ((ws.length : Int) != 3) = true := by simp; omega
    clear hw hc hcell
    go_enter Tryd.func10, Tryd.ntmps10
    go_wp2
    go_ret
    rw [HP.out]
    exact ⟨rfl, rfl⟩

set_option maxRecDepth 100000 in
set_option maxHeartbeats 2000000 in
theorem rform_none (g cap : Nat) (ws : List ByteArray) (w : World) (h0 : 0 < ws.length) (hl : ws.length ≤ 100000) (hc : CellsAt w (some ⟨g, 0, none⟩) (ws.map Value.string)) (h1 : ¬ ws[0] = tableW) (h2 : ¬ ws[0] = fieldW) (h3 : ¬ ws[0] = indexW) :
    Calls Tryd.prog 10 #[.slice (some ⟨g, 0, none⟩) ws.length cap] w fun e w' => e = .returned (.int .i64 (formP ws)) ∧ w' = w := by
  have c0 : w.cell? ⟨g, 0, none⟩ = some (.string ws[0]) := by
    obtain ⟨b1, o1, e, c⟩ := hc.str 0 h0
    simp only [Option.some.injEq, Addr.mk.injEq] at e
    obtain ⟨rfl, rfl, _⟩ := e
    simpa using c
  have q1 : (ws[0].toList == [116, 97, 98, 108, 101]) = false := by rw [beq_lit]; exact decide_eq_false h1
  have q2 : (ws[0].toList == [102, 105, 101, 108, 100]) = false := by rw [beq_lit]; exact decide_eq_false h2
  have q3 : (ws[0].toList == [105, 110, 100, 101, 120]) = false := by rw [beq_lit]; exact decide_eq_false h3
  have HP : Hid (formP ws = 61) := by
    show _ = _
    unfold formP
    rw [word_at h0, if_neg h1, if_neg h2, if_neg h3]
  clear h1 h2 h3 hc
  go_enter Tryd.func10, Tryd.ntmps10
  go_wp2
  go_ret
  rw [HP.out]
  exact ⟨rfl, rfl⟩
end Go.Proofs.YtbpmahchinblhaaDoor
