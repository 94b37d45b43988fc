/- Layer 2 (watch): sets of watches. -/
import Derived.Test.YtochfkjpbdfddaaWOwn
import Derived.Test.YtochfkjpbdfddaaWWatch
namespace Go.Proofs.Ytochfkjpbdfddaa
open Go.RowKit
set_option linter.unusedVariables false

set_option maxRecDepth 100000 in
set_option maxHeartbeats 800000 in
theorem index_calls (B : Nat) (ao : Option Addr) (n cap : Nat) (l : List Nat) (b : Nat) (w : World) (hn : n = l.length) (hl : l.length ≤ 9223372036854775807) (ho : OwnV w B 31 (.slice ao n cap) (ptrs l))
    (hw : ∀ x ∈ l, ∃ c f, WAt w x c f) (hb : ∃ c f, WAt w b c f) :
    Calls Try.prog 21 #[.slice ao n cap, .pointer (some ⟨b, 0, none⟩)] w fun e w' => e = .returned (.int .i64 (posOf (b == ·) l)) ∧ w' = w := by
  subst hn
  obtain ⟨c, f, hb⟩ := hb
  have HB : Hid (WAt w b c f) := hb
  clear hb
  go_enter Try.func21, Try.ntmps21
  go_wp2
  go_loopw [8] (fun i wr => ∃ k : Nat, k ≤ l.length ∧ i = .int .i64 k ∧ Hid (∀ j (hj : j < l.length), j < k → (b == l[j]) = false) ∧ wr = w) (fun i _ => l.length - (intOf i).toNat)
  case atStart => exact ⟨0, Nat.zero_le _, rfl, fun j hj h => by omega, rfl⟩
  case round =>
    obtain ⟨k, hk, rfl, HF, rfl⟩ := hrel
    by_cases hlt : k < l.length
    · obtain ⟨g, rfl, h0⟩ := ho.at k (by rw [ptrs_length]; exact hlt)
      have h1 : wr.cell? ⟨g, k, none⟩ = some (.pointer (some ⟨l[k], 0, none⟩)) := by rw [h0]; simp [ptrs, ptr]
      clear h0
      by_cases he : b = l[k]
      · have hq := eqlWatch_same wr ⟨b, 0, none⟩
        rw [← he] at h1
        have HE : Hid (b = l[k]) := he
        clear he
        go_wp2
        go_ret
        exact ⟨ret_int (posOf_hit hlt (by simp [← HE.out]) HF.out).symm, rfl⟩
      · obtain ⟨c', f', hx⟩ := hw l[k] (List.getElem_mem hlt)
        have hq := eqlWatch_other HB.out hx he
        clear hx
        go_wp2
        go_roundw
        case rel => exact ⟨k + 1, by omega, by go_num, fun j hj h => by
          by_cases hjk : j = k
          · subst hjk; simp [he]
          · exact HF.out j hj (by omega), trivial⟩
        case measure => simp [intOf]; omega
    · go_wp2
      go_ret
      exact ⟨ret_int (posOf_none fun j hj => HF.out j hj (by omega)).symm, rfl⟩

theorem contains_calls (B : Nat) (ao : Option Addr) (n cap : Nat) (l : List Nat) (b : Nat) (w : World) (hn : n = l.length) (hl : l.length ≤ 9223372036854775807) (ho : OwnV w B 31 (.slice ao n cap) (ptrs l))
    (hw : ∀ x ∈ l, ∃ c f, WAt w x c f) (hb : ∃ c f, WAt w b c f) :
    Calls Try.prog 18 #[.slice ao n cap, .pointer (some ⟨b, 0, none⟩)] w fun e w' => e = .returned (.bool (l.any (b == ·))) ∧ w' = w := by
  have HI := index_calls B ao n cap l b w hn hl ho hw hb
  rw [← posOf_nonneg (p := (b == ·)) (l := l)]
  clear hw hb ho hl hn
  revert HI
  generalize posOf (b == ·) l = p
  intro HI
  go_enter Try.func18, Try.ntmps18
  go_wp2_with fail
  refine HI.mono ?_
  clear HI
  rintro e w1 ⟨rfl, rfl⟩
  go_wp2
  go_ret
  exact ⟨by simp, rfl⟩

set_option maxRecDepth 100000 in
set_option maxHeartbeats 800000 in
theorem indexFunc_calls (B : Nat) (ao : Option Addr) (n cap : Nat) (l : List Nat) (fz : Nat → Bool) (w : World) (hn : n = l.length) (hl : l.length ≤ 9223372036854775807) (ho : OwnV w B 31 (.slice ao n cap) (ptrs l))
    (hw : ∀ x ∈ l, ∃ c, WAt w x c (fz x)) :
    Calls Try.prog 17 #[.slice ao n cap, .func (.func 8) #[] #[]] w fun e w' => e = .returned (.int .i64 (posOf fz l)) ∧ w' = w := by
  subst hn
  go_enter Try.func17, Try.ntmps17
  go_wp2
  go_loopw [8] (fun i wr => ∃ k : Nat, k ≤ l.length ∧ i = .int .i64 k ∧ Hid (∀ j (hj : j < l.length), j < k → fz l[j] = false) ∧ wr = w) (fun i _ => l.length - (intOf i).toNat)
  case atStart => exact ⟨0, Nat.zero_le _, rfl, fun j hj h => by omega, rfl⟩
  case round =>
    obtain ⟨k, hk, rfl, HF, rfl⟩ := hrel
    by_cases hlt : k < l.length
    · obtain ⟨g, rfl, h0⟩ := ho.at k (by rw [ptrs_length]; exact hlt)
      have h1 : wr.cell? ⟨g, k, none⟩ = some (.pointer (some ⟨l[k], 0, none⟩)) := by rw [h0]; simp [ptrs, ptr]
      clear h0
      obtain ⟨c', hx⟩ := hw l[k] (List.getElem_mem hlt)
      go_wp2_with fail
      refine (fired_calls _ c' _ wr hx).mono ?_
      rintro e w1 ⟨rfl, rfl⟩
      cases hz : fz l[k] with
      | true =>
        go_wp2
        go_ret
        exact ⟨ret_int (posOf_hit hlt hz HF.out).symm, rfl⟩
      | false =>
        have HZ : Hid (fz l[k] = false) := hz
        clear hz
        go_wp2
        go_roundw
        case rel => exact ⟨k + 1, by omega, by go_num, fun j hj h => by
          by_cases hjk : j = k
          · subst hjk; exact HZ.out
          · exact HF.out j hj (by omega), trivial⟩
        case measure => simp [intOf]; omega
    · go_wp2
      go_ret
      exact ⟨ret_int (posOf_none fun j hj => HF.out j hj (by omega)).symm, rfl⟩
end Go.Proofs.Ytochfkjpbdfddaa
