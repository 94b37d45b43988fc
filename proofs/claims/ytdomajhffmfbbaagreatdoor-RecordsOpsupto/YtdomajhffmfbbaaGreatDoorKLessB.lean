/- The walk of the document's Less. -/
import Derived.Test.YtdomajhffmfbbaaGreatDoorRcLow
import Derived.Deep.QuietTactic
import Derived.BigQuiet
namespace Go.Proofs.YtdomajhffmfbbaaGreatDoor
open Go.RowKit
set_option linter.unusedVariables false

theorem less_nil (b : ByteArray) (a : List UInt8) (k : Nat) (h : k < b.size) (ha : a = []) : Op.bytesLess a (b.data.toList.drop k) = true := by
  subst ha
  rw [List.drop_eq_getElem_cons (by simpa using h)]; rfl
theorem less_end (b : ByteArray) (a : List UInt8) (k : Nat) (h : ¬ k < b.size) : Op.bytesLess a (b.data.toList.drop k) = false := by
  rw [List.drop_eq_nil_of_le (by simp; omega)]; cases a <;> rfl
theorem less_step (a b : ByteArray) (k : Nat) (ha : k < a.size) (hb : k < b.size) : Op.bytesLess (a.data.toList.drop k) (b.data.toList.drop k) = (decide (a[k].toNat < b[k].toNat) || (decide (a[k].toNat = b[k].toNat) && Op.bytesLess (a.data.toList.drop (k + 1)) (b.data.toList.drop (k + 1)))) := by
  rw [List.drop_eq_getElem_cons (l := a.data.toList) (by simpa using ha), List.drop_eq_getElem_cons (l := b.data.toList) (by simpa using hb)]
  rw [Op.bytesLess]
  have e1 : (a.data.toList[k]'(by simpa using ha) < b.data.toList[k]'(by simpa using hb)) ↔ a[k].toNat < b[k].toNat := UInt8.lt_iff_toNat_lt
  have e2 : (a.data.toList[k]'(by simpa using ha) == b.data.toList[k]'(by simpa using hb)) = decide (a[k].toNat = b[k].toNat) := by
    rw [Bool.eq_iff_iff, beq_iff_eq, decide_eq_true_iff]
    exact UInt8.toNat_inj.symm
  rw [e2]
  congr 1

set_option maxHeartbeats 1000000 in
theorem less_calls (a b : ByteArray) (w : World) (ha : a.size ≤ 140737488351232) (hb : b.size ≤ 140737488351232) :
    Calls Tryz.prog 40 #[.string a, .string b] w fun e w' => e = .returned (.bool (Op.bytesLess a.toList b.toList)) ∧ ∃ n, w' = w.drewN n := by
  have HL : Hid (Op.bytesLess a.toList b.toList = Op.bytesLess a.data.toList b.data.toList) := by
    show _ = _
    rw [ByteArray.toList_eq, ByteArray.toList_eq]
  go_enter Tryz.func40, Tryz.ntmps40
  go_wp2
  go_loopw [5] (fun i wr => ∃ k n : Nat, k ≤ b.size ∧ i = .int .i64 k ∧ Hid (Op.bytesLess (a.data.toList.drop k) (b.data.toList.drop k) = Op.bytesLess a.data.toList b.data.toList) ∧ wr = w.drewN n) (fun i _ => b.size - (intOf i).toNat)
  case atStart => exact ⟨0, 0, Nat.zero_le _, rfl, rfl, rfl⟩
  case round =>
    obtain ⟨k, n, hk, rfl, HC, rfl⟩ := hrel
    by_cases hlt : k < b.size
    · by_cases hla : k < a.size
      · have hd : decide ((a.size : Int) ≤ (k : Int)) = false := by simp; omega
        have hi1 : (0 : Int) ≤ (k : Int) ∧ (k : Int) < (a.size : Int) := by omega
        have hi2 : (0 : Int) ≤ (k : Int) ∧ (k : Int) < (b.size : Int) := by omega
        have HS : Hid (Op.bytesLess (a.data.toList.drop k) (b.data.toList.drop k) = (decide (a[k].toNat < b[k].toNat) || (decide (a[k].toNat = b[k].toNat) && Op.bytesLess (a.data.toList.drop (k + 1)) (b.data.toList.drop (k + 1))))) := less_step a b k hla hlt
        go_wp2
        go_quiet (fail)
        by_cases h1 : a[k].toNat < b[k].toNat
        · have h1i : (a[k].toNat : Int) < (b[k].toNat : Int) := by omega
          have HT : Hid (Op.bytesLess a.data.toList b.data.toList = true) := by
            show _ = _
            rw [← HC.out, HS.out]; simp [h1]
          go_wp2
          go_ret
          exact ⟨ret_bool (HL.out.trans HT.out).symm, _, by first | rfl | exact World.drewN_drewN _ _ _⟩
        · have h1i : ¬ (a[k].toNat : Int) < (b[k].toNat : Int) := by omega
          go_wp2
          go_quiet (fail)
          by_cases h2 : b[k].toNat < a[k].toNat
          · have h2i : (b[k].toNat : Int) < (a[k].toNat : Int) := by omega
            have HT : Hid (Op.bytesLess a.data.toList b.data.toList = false) := by
              show _ = _
              rw [← HC.out, HS.out]; simp [h1]; intro h; omega
            go_wp2
            go_ret
            exact ⟨ret_bool (HL.out.trans HT.out).symm, _, by first | rfl | exact World.drewN_drewN _ _ _⟩
          · have h2i : ¬ (b[k].toNat : Int) < (a[k].toNat : Int) := by omega
            have HC2 : Hid (Op.bytesLess (a.data.toList.drop (k + 1)) (b.data.toList.drop (k + 1)) = Op.bytesLess a.data.toList b.data.toList) := by
              show _ = _
              rw [← HC.out, HS.out]; simp [show a[k].toNat = b[k].toNat by omega]
            go_wp2
            go_roundw
            case rel => exact ⟨k + 1, _, by omega, by go_num, HC2, rfl⟩
            case measure => simp [intOf]; omega
      · have hd : decide ((a.size : Int) ≤ (k : Int)) = true := by simp; omega
        have HT : Hid (Op.bytesLess a.data.toList b.data.toList = true) := by
          show _ = _
          rw [← HC.out]; exact less_nil b _ k hlt (List.drop_eq_nil_of_le (by simp; omega))
        go_wp2
        go_quiet (fail)
        go_wp2
        go_ret
        exact ⟨ret_bool (HL.out.trans HT.out).symm, _, by first | rfl | exact World.drewN_drewN _ _ _⟩
    · have HT : Hid (Op.bytesLess a.data.toList b.data.toList = false) := by
        show _ = _
        rw [← HC.out]; exact less_end b _ k hlt
      go_wp2
      go_ret
      exact ⟨ret_bool (HL.out.trans HT.out).symm, n, rfl⟩
end Go.Proofs.YtdomajhffmfbbaaGreatDoor
