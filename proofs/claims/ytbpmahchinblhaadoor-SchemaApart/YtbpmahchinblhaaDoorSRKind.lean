/- Layer 6 (schema): the document's Kind, bare, field, Named. -/
import Derived.Test.YtbpmahchinblhaaDoorSGen
namespace Go.Proofs.YtbpmahchinblhaaDoor
open Go.RowKit
set_option linter.unusedVariables false

theorem rkind_calls (s : ByteArray) (w : World) : Calls Tryd.prog 20 #[.string s] w fun e w' => e = .returned (.int .i64 (kindB s)) ∧ w' = w := by
  by_cases h1 : s = textW
  · have q : (s.toList == [116, 101, 120, 116]) = true := by rw [beq_lit]; exact decide_eq_true h1
    have HK : Hid (kindB s = 1) := by simp [kindB, h1, Hid]
    clear h1
    go_enter Tryd.func20, Tryd.ntmps20
    go_wp2
    go_ret
    rw [HK.out]; exact ⟨rfl, rfl⟩
  · have q : (s.toList == [116, 101, 120, 116]) = false := by rw [beq_lit]; exact decide_eq_false h1
    by_cases h2 : s = numW
    · have q2 : (s.toList == [110, 117, 109]) = true := by rw [beq_lit]; exact decide_eq_true h2
      have HK : Hid (kindB s = 2) := by unfold kindB; rw [Hid, if_neg h1, if_pos h2]
      clear h1 h2
      go_enter Tryd.func20, Tryd.ntmps20
      go_wp2
      go_ret
      rw [HK.out]; exact ⟨rfl, rfl⟩
    · have q2 : (s.toList == [110, 117, 109]) = false := by rw [beq_lit]; exact decide_eq_false h2
      by_cases h3 : s = listW
      · have q3 : (s.toList == [108, 105, 115, 116]) = true := by rw [beq_lit]; exact decide_eq_true h3
        have HK : Hid (kindB s = 3) := by unfold kindB; rw [Hid, if_neg h1, if_neg h2, if_pos h3]
        clear h1 h2 h3
        go_enter Tryd.func20, Tryd.ntmps20
        go_wp2
        go_ret
        rw [HK.out]; exact ⟨rfl, rfl⟩
      · have q3 : (s.toList == [108, 105, 115, 116]) = false := by rw [beq_lit]; exact decide_eq_false h3
        have HK : Hid (kindB s = 0) := by unfold kindB; rw [Hid, if_neg h1, if_neg h2, if_neg h3]
        clear h1 h2 h3
        go_enter Tryd.func20, Tryd.ntmps20
        go_wp2
        go_ret
        rw [HK.out]; exact ⟨rfl, rfl⟩

theorem len_zero {s : ByteArray} (h : ¬ 0 < s.size) : s.data.toList.length = 0 := by
  have e : s.data.toList.length = s.size := by simp
  omega
theorem nm_first {s : ByteArray} (h0 : 0 < s.size) (h : isLet s[0] = false) : false = nameB s := by
  cases hd : isDig s[0] with
  | true => exact nm_digit h0 hd
  | false => exact nm_bad h0 (by rw [h, hd]; rfl)
theorem let_not_dig {b : UInt8} (h : isLet b = true) : isDig b = false := by
  simp [isLet] at h
  simp [isDig]
  omega

set_option maxRecDepth 100000 in
set_option maxHeartbeats 1000000 in
theorem rnamed_calls (s : ByteArray) (w : World) (hs : s.size ≤ 100000) : Calls Tryd.prog 22 #[.string s] w fun e w' => e = .returned (.bool (nameB s)) ∧ w' = w := by
  by_cases h0 : 0 < s.size
  case neg =>
    have hn : Hid (false = nameB s) := nm_empty (by rw [ByteArray.toList_eq]; exact List.length_eq_zero_iff.1 (len_zero h0))
    have hz : (s.size : Int) < 1 := by omega
    go_enter Tryd.func22, Tryd.ntmps22
    go_wp2
    all_goals go_ret
    all_goals exact ⟨ret_bool hn.out, rfl⟩
  by_cases hl : s.size ≤ 32
  case neg =>
    have hn : Hid (false = nameB s) := nm_long hl
    have hl' : (32 : Int) < (s.size : Int) := by omega
    have hz : ¬ (s.size : Int) < 1 := by omega
    go_enter Tryd.func22, Tryd.ntmps22
    go_wp2
    all_goals go_ret
    all_goals exact ⟨ret_bool hn.out, rfl⟩
  have hz : ¬ (s.size : Int) < 1 := by omega
  have hl' : ¬ (32 : Int) < (s.size : Int) := by omega
  have hby : (s[0].toNat : Int) ≤ 255 := by have := s[0].toNat_lt; omega
  cases hlet : isLet s[0] with
  | false =>
    have hn : Hid (false = nameB s) := nm_first h0 hlet
    have hc : (s[0].toNat : Int) < 97 ∨ (122 : Int) < (s[0].toNat : Int) := by
      simp [isLet] at hlet
      omega
    clear hlet
    go_enter Tryd.func22, Tryd.ntmps22
    go_wp2
    all_goals try go_ret
    all_goals first | exact ⟨ret_bool hn.out, rfl⟩ | omega
  | true =>
    have hc1 : ¬ (s[0].toNat : Int) < 97 := by simp [isLet] at hlet; omega
    have hc2 : ¬ (122 : Int) < (s[0].toNat : Int) := by simp [isLet] at hlet; omega
    have HD : Hid (isDig s[0] = false) := let_not_dig hlet
    clear hlet
    go_enter Tryd.func22, Tryd.ntmps22
    go_wp2
    go_loop [3] (fun x => ∃ k : Nat, k ≤ s.size ∧ x = .int .i64 k ∧ Hid (nmTo s k)) (fun x => s.size - (intOf x).toNat)
    case atStart => exact ⟨0, Nat.zero_le _, rfl, fun i h h' => by omega⟩
    case round =>
      obtain ⟨k, hk, rfl, HK⟩ := hrel
      by_cases hlt : k < s.size
      · have hbk : (s[k].toNat : Int) ≤ 255 := by have := s[k].toNat_lt; omega
        cases hok : (isLet s[k] || isDig s[k]) with
        | false =>
          have hn : Hid (false = nameB s) := nm_bad hlt hok
          have hc : ((s[k].toNat : Int) < 97 ∨ (122 : Int) < (s[k].toNat : Int)) ∧ ((s[k].toNat : Int) < 48 ∨ (57 : Int) < (s[k].toNat : Int)) := by
            simp [isLet, isDig] at hok
            omega
          clear hok HK
          obtain ⟨h1 | h1, h2 | h2⟩ := hc
          · go_wp2
            all_goals first | (exfalso; omega) | (go_ret; exact ⟨ret_bool hn.out, rfl⟩)
          · have h3 : (48 : Int) ≤ (s[k].toNat : Int) := by omega
            have h5 : decide ((s[k].toNat : Int) ≤ 57) = false := decide_eq_false (by omega)
            go_wp2
            all_goals first | (exfalso; omega) | (go_ret; exact ⟨ret_bool hn.out, rfl⟩)
          · omega
          · have h3 : (48 : Int) ≤ (s[k].toNat : Int) := by omega
            have h4 : (97 : Int) ≤ (s[k].toNat : Int) := by omega
            have h5 : decide ((s[k].toNat : Int) ≤ 57) = false := decide_eq_false (by omega)
            have h6 : decide ((s[k].toNat : Int) ≤ 122) = false := decide_eq_false (by omega)
            go_wp2
            all_goals first | (exfalso; omega) | (go_ret; exact ⟨ret_bool hn.out, rfl⟩)
        | true =>
          have HK2 : Hid (nmTo s (k + 1)) := fun i h hik => by
            rcases Nat.lt_or_ge i k with h' | h'
            · exact HK.out i h h'
            · obtain rfl : i = k := by omega
              exact hok
          have hc : (97 ≤ (s[k].toNat : Int) ∧ (s[k].toNat : Int) ≤ 122) ∨ (48 ≤ (s[k].toNat : Int) ∧ (s[k].toNat : Int) ≤ 57) := by
            simp [isLet, isDig] at hok
            omega
          clear hok HK
          rcases hc with ⟨h1, h2⟩ | ⟨h1, h2⟩
          · go_wp2
            go_round
            case rel => exact ⟨k + 1, by omega, by go_num, HK2⟩
            case measure => simp [intOf]; omega
          · have h3 : (s[k].toNat : Int) < 97 := by omega
            go_wp2
            go_round
            case rel => exact ⟨k + 1, by omega, by go_num, HK2⟩
            case measure => simp [intOf]; omega
      · have hn : Hid (true = nameB s) := nm_good h0 hl HD.out (fun i h h' => HK.out i h (by omega))
        go_wp2
        go_ret
        exact ⟨ret_bool hn.out, rfl⟩
end Go.Proofs.YtbpmahchinblhaaDoor
