/- Layer 6 (schema): isLetter, isDigit, isName, allNames. -/
import Derived.Test.YtbpmahchinblhaaDoorSBase
import Derived.Test.YtbpmahchinblhaaDoorChecked
import Derived.Deep.QuietTactic
import Derived.BigQuiet
namespace Go.Proofs.YtbpmahchinblhaaDoor
open Go.RowKit
set_option linter.unusedVariables false

theorem isLetter_calls (b : UInt8) (w : World) : Calls Tryd.prog 61 #[.int .u8 (b.toNat : Int)] w fun e w' => e = .returned (.bool (isLet b)) ∧ w' = w := by
  go_enter Tryd.func61, Tryd.ntmps61
  go_wp2
  all_goals go_ret
  all_goals refine ⟨ret_bool ?_, rfl⟩
  · have : 97 ≤ b.toNat := by omega
    simp [isLet, this]; omega
  · have : ¬ 97 ≤ b.toNat := by omega
    simp [isLet, this]
theorem isDigit_calls (b : UInt8) (w : World) : Calls Tryd.prog 60 #[.int .u8 (b.toNat : Int)] w fun e w' => e = .returned (.bool (isDig b)) ∧ w' = w := by
  go_enter Tryd.func60, Tryd.ntmps60
  go_wp2
  all_goals go_ret
  all_goals refine ⟨ret_bool ?_, rfl⟩
  · have : 48 ≤ b.toNat := by omega
    simp [isDig, this]; omega
  · have : ¬ 48 ≤ b.toNat := by omega
    simp [isDig, this]

theorem nm_empty {s : ByteArray} (h : s.toList = []) : false = nameB s := by
  rw [ByteArray.toList_eq] at h
  simp [nameB, nameL, h]
theorem nm_long {s : ByteArray} (h : ¬ s.size ≤ 32) : false = nameB s := by
  have : decide (s.data.toList.length ≤ 32) = false := by simpa using h
  unfold nameB nameL
  rw [this]
  simp
theorem nm_digit {s : ByteArray} (h0 : 0 < s.size) (h : isDig s[0] = true) : false = nameB s := by
  have : s.data.toList.getD 0 0 = s[0] := by
    rw [List.getD_eq_getElem?_getD, List.getElem?_eq_getElem (by simpa using h0)]; rfl
  unfold nameB nameL
  rw [this, h]
  simp
def nmTo (s : ByteArray) (k : Nat) : Prop := ∀ i (h : i < s.size), i < k → (isLet s[i] || isDig s[i]) = true
theorem nm_bad {s : ByteArray} {k : Nat} (h : k < s.size) (hv : (isLet s[k] || isDig s[k]) = false) : false = nameB s := by
  have : (s.data.toList.all fun c => isLet c || isDig c) = false := by
    rw [List.all_eq_false]
    exact ⟨s[k], List.getElem_mem (by simpa using h), by rw [hv]; simp⟩
  simp [nameB, nameL, this]
theorem nm_good {s : ByteArray} (h0 : 0 < s.size) (hl : s.size ≤ 32) (hd : isDig s[0] = false) (h : nmTo s s.size) : true = nameB s := by
  have h1 : s.data.toList.getD 0 0 = s[0] := by
    rw [List.getD_eq_getElem?_getD, List.getElem?_eq_getElem (by simpa using h0)]; rfl
  have h2 : (s.data.toList.all fun c => isLet c || isDig c) = true := by
    rw [List.all_eq_true]
    intro c hc
    obtain ⟨i, hi, rfl⟩ := List.getElem_of_mem hc
    exact h i (by simpa using hi) (by simpa using hi)
  have h3 : s.data.toList.isEmpty = false := by
    cases he : s.data.toList.isEmpty with
    | false => rfl
    | true =>
      have hl : s.data.toList.length = 0 := by rw [List.isEmpty_iff.1 he]; rfl
      have : s.data.toList.length = s.size := by simp
      omega
  unfold nameB nameL
  rw [h1, h2, h3, hd]
  simpa using hl
theorem size_pos_of {s : ByteArray} (h : ¬ s.toList = []) : 0 < s.size := by
  rw [ByteArray.toList_eq] at h
  rcases Nat.eq_zero_or_pos s.size with h0 | h0
  · exact absurd (List.length_eq_zero_iff.1 (by simpa using h0)) h
  · exact h0

set_option maxHeartbeats 1000000 in
theorem isName_calls (s : ByteArray) (w : World) (hs : s.size ≤ 9223372036854775807) : Calls Tryd.prog 44 #[.string s] w fun e w' => e = .returned (.bool (nameB s)) ∧ w' = w := by
  by_cases he : s.toList = []
  · have hn : Hid (false = nameB s) := nm_empty he
    go_enter Tryd.func44, Tryd.ntmps44
    go_wp2
    go_ret
    exact ⟨ret_bool hn.out, rfl⟩
  have h0 := size_pos_of he
  have hemp : s.toList.isEmpty = false := by rw [ByteArray.toList_eq] at he ⊢; simpa using he
  by_cases hl : s.size ≤ 32
  case neg =>
    have hn : Hid (false = nameB s) := nm_long hl
    have hl' : (32 : Int) < (s.size : Int) := by omega
    go_enter Tryd.func44, Tryd.ntmps44
    go_wp2
    go_ret
    exact ⟨ret_bool hn.out, rfl⟩
  have hl' : ¬ (32 : Int) < (s.size : Int) := by omega
  cases hd : isDig s[0] with
  | true =>
    have hn : Hid (false = nameB s) := nm_digit h0 hd
    go_enter Tryd.func44, Tryd.ntmps44
    go_wp2_with (go_at_call 60; refine (isDigit_calls _ _).mono ?_; rintro e w' ⟨rfl, rfl⟩)
    go_ret
    exact ⟨ret_bool hn.out, rfl⟩
  | false =>
    have HG : Hid (nmTo s s.size → true = nameB s) := fun h => nm_good h0 hl hd h
    have HD : Hid (isDig s[0] = false) := hd
    go_enter Tryd.func44, Tryd.ntmps44
    go_wp2_with (go_at_call 60; refine (isDigit_calls _ _).mono ?_; rintro e w' ⟨rfl, rfl⟩)
    go_loop [18] (fun x => ∃ k : Nat, k ≤ s.size ∧ x = .int .i64 k ∧ Hid (nmTo s k)) (fun x => s.size - (intOf x).toNat)
    case atStart => exact ⟨0, Nat.zero_le _, rfl, fun i h h' => by omega⟩
    case round =>
      obtain ⟨k, hk, rfl, HK⟩ := hrel
      by_cases hlt : k < s.size
      · cases hb : isLet s[k] with
        | true =>
          go_wp2_with (go_at_call 61; refine (isLetter_calls _ _).mono ?_; rintro e w' ⟨rfl, rfl⟩)
          go_round
          case rel => 
            refine ⟨k + 1, by omega, by go_num, fun i h hi => ?_⟩
            rcases Nat.lt_or_ge i k with h' | h'
            · exact HK.out i h h'
            · obtain rfl : i = k := by omega
              simp [hb]
          case measure => simp [intOf]; omega
        | false =>
          cases hb2 : isDig s[k] with
          | true =>
            go_wp2_with (first | (go_at_call 61; refine (isLetter_calls _ _).mono ?_; rintro e w' ⟨rfl, rfl⟩) | (go_at_call 60; refine (isDigit_calls _ _).mono ?_; rintro e w' ⟨rfl, rfl⟩))
            go_round
            case rel => 
              refine ⟨k + 1, by omega, by go_num, fun i h hi => ?_⟩
              rcases Nat.lt_or_ge i k with h' | h'
              · exact HK.out i h h'
              · obtain rfl : i = k := by omega
                simp [hb2]
            case measure => simp [intOf]; omega
          | false =>
            have hn : Hid (false = nameB s) := nm_bad hlt (by simp [hb, hb2])
            go_wp2_with (first | (go_at_call 61; refine (isLetter_calls _ _).mono ?_; rintro e w' ⟨rfl, rfl⟩) | (go_at_call 60; refine (isDigit_calls _ _).mono ?_; rintro e w' ⟨rfl, rfl⟩))
            go_ret
            exact ⟨ret_bool hn.out, rfl⟩
      · go_wp2
        go_ret
        exact ⟨ret_bool (HG.out fun i h hi => HK.out i h (by omega)), rfl⟩
end Go.Proofs.YtbpmahchinblhaaDoor
