/- Layer 3 (radix): commonLen, Reverse of two, joined. -/
import Derived.Test.YtcdfbbjakkmmoaaRKids
import Derived.BigRegion
namespace Go.Proofs.Ytcdfbbjakkmmoaa
open Go.RowKit
set_option linter.unusedVariables false

set_option maxRecDepth 100000 in
theorem common_calls (a b : ByteArray) (w : World) (ha : a.size ≤ 140737488351296) (hb : b.size ≤ 140737488351296) :
    Calls Try.prog 72 #[.string a, .string b] w fun e w' => ∃ n : Nat, e = .returned (.int .i64 n) ∧ n ≤ a.size ∧ n ≤ b.size ∧ (∀ j (h1 : j < a.size) (h2 : j < b.size), j < n → a[j] = b[j]) ∧ (∀ (h1 : n < a.size) (h2 : n < b.size), a[n] ≠ b[n]) ∧ ∃ m, w' = w.drewN m := by
  obtain ⟨m, HM⟩ : ∃ m : Nat, Hid (m = min a.size b.size) := ⟨_, rfl⟩
  have hm1 : m ≤ a.size := by rw [HM.out]; omega
  have hm2 : m ≤ b.size := by rw [HM.out]; omega
  have hmin : min (a.size : Int) (b.size : Int) = (m : Int) := by rw [HM.out, Int.min_def, Nat.min_def]; split <;> split <;> omega
  have HMX : Hid (m < a.size → m < b.size → False) := fun h1 h2 => by rw [HM.out] at h1 h2; omega
  clear HM
  go_enter Try.func72, Try.ntmps72
  go_wp2
  clear hmin
  go_loopw [13] (fun i wr => ∃ k : Nat, k ≤ m ∧ i = .int .i64 k ∧ Hid (∀ j (h1 : j < a.size) (h2 : j < b.size), j < k → a[j] = b[j]) ∧ Hid (∃ n, wr = w.drewN n)) (fun i _ => m - (intOf i).toNat)
  case atStart => exact ⟨0, Nat.zero_le _, rfl, fun j _ _ h => by omega, ⟨0, rfl⟩⟩
  case round =>
    obtain ⟨k, hk, rfl, HE, HW⟩ := hrel
    by_cases hlt : k < m
    · have hka : k < a.size := by omega
      have hkb : k < b.size := by omega
      by_cases he : a[k] = b[k]
      · have hq : ((a[k].toNat : Int) == (b[k].toNat : Int)) = true := by simp [he]
        have HQ : Hid (a[k] = b[k]) := he
        clear he
        go_wp2
        go_quiet (fail)
        go_wp2
        go_roundw
        case rel => exact ⟨k + 1, by omega, by go_num, fun j h1 h2 h => by
          by_cases hjk : j = k
          · subst hjk; exact HQ.out
          · exact HE.out j h1 h2 (by omega), by obtain ⟨n, rfl⟩ := HW.out; exact ⟨_, World.drewN_drewN ..⟩⟩
        case measure => simp [intOf]; omega
      · have hq : ((a[k].toNat : Int) == (b[k].toNat : Int)) = false := by
          rw [beq_eq_false_iff_ne]; intro h; exact he (UInt8.toNat_inj.1 (by omega))
        have HQ : Hid (a[k] ≠ b[k]) := he
        clear he
        go_wp2
        go_quiet (fail)
        go_wp2
        go_ret
        exact ⟨k, rfl, by omega, by omega, HE.out, fun _ _ => HQ.out, by obtain ⟨n, rfl⟩ := HW.out; exact ⟨_, World.drewN_drewN ..⟩⟩
    · have hkm : k = m := by omega
      subst hkm
      go_wp2
      go_ret
      exact ⟨k, rfl, hm1, hm2, HE.out, fun h1 h2 => (HMX.out h1 h2).elim, HW.out⟩

set_option maxRecDepth 100000 in
set_option maxHeartbeats 1600000 in
theorem reverse2_calls (A B : Option Addr) (g c : Nat) (w : World) (hg : w.heap[g]? = some (.cells #[.pointer A, .pointer B] 35)) :
    Calls Try.prog 73 #[.slice (some ⟨g, 0, none⟩) 2 c] w fun e w' => e = .returned (.tuple #[]) ∧ w'.heap[g]? = some (.cells #[.pointer B, .pointer A] 35) ∧ Below g w w' := by
  have c0 : w.cell? ⟨g, 0, none⟩ = some (.pointer A) := by rw [cell_of_blk hg]; rfl
  have c1 : w.cell? ⟨g, 1, none⟩ = some (.pointer B) := by rw [cell_of_blk hg]; rfl
  have z0 : w.frozen? ⟨g, 0, none⟩ = false := frozen_of_blk hg
  have z1 : w.frozen? ⟨g, 1, none⟩ = false := frozen_of_blk hg
  have HG : Hid (w.heap[g]? = some (.cells #[.pointer A, .pointer B] 35)) := hg
  clear hg
  go_enter Try.func73, Try.ntmps73
  go_wp2
  go_loopw [2, 3] (fun i j wr => (i = .int .i64 0 ∧ j = .int .i64 1 ∧ wr = w) ∨ (i = .int .i64 1 ∧ j = .int .i64 0 ∧ Hid (wr.heap[g]? = some (.cells #[.pointer B, .pointer A] 35) ∧ Below g w wr))) (fun i _ _ => 1 - (intOf i).toNat)
  case atStart => exact .inl ⟨rfl, rfl, rfl⟩
  case round =>
    rcases hrel with ⟨rfl, rfl, rfl⟩ | ⟨rfl, rfl, HF⟩
    · go_wp2
      go_region
      all_goals go_wp2
      go_roundw
      case rel =>
        refine .inr ⟨rfl, rfl, ?_, ?_⟩
        · show ((wr.setCell ⟨g, 0, none⟩ (.pointer B)).setCell ⟨g, 1, none⟩ (.pointer A)).heap[g]? = _
          rw [setCell_blk (setCell_blk HG.out _)]
          simp
        · exact (((Below.refl g wr).setCell (p := ⟨g, 0, none⟩) (Nat.le_refl _) _).setCell (p := ⟨g, 1, none⟩) (Nat.le_refl _) _).drew
      case measure => simp [intOf]
    · go_wp2
      go_end0
      exact ⟨rfl, HF.out⟩
end Go.Proofs.Ytcdfbbjakkmmoaa
