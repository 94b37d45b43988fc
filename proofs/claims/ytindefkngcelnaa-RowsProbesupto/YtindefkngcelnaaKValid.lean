/- The walks of valid and Valid. -/
import Derived.Test.YtindefkngcelnaaKBase
import Derived.Test.YtindefkngcelnaaChecked
namespace Go.Proofs.Ytindefkngcelnaa
open Go.RowKit
set_option linter.unusedVariables false

theorem vld_a {k n : Int} {t : ByteArray} (h : (k == 1) = true) : (n == 0) = vldB ⟨k, t, n⟩ := by simp [vldB, h]
theorem vld_b {k n : Int} {t : ByteArray} (h : (k == 1) = false) (h3 : (k == 3) = true) (hn : 1 < n) : false = vldB ⟨k, t, n⟩ := by
  have : k = 3 := by simpa using h3
  subst this
  simp [vldB]
  intros; omega
theorem vld_c {k n : Int} {t : ByteArray} (h : (k == 1) = false) (h3 : (k == 3) = true) (h0 : 0 ≤ n) (hn : n ≤ 1) : t.toList.isEmpty = vldB ⟨k, t, n⟩ := by
  have : k = 3 := by simpa using h3
  subst this
  have : n = 0 ∨ n = 1 := by omega
  simp [vldB, this]
theorem vld_d {k n : Int} {t : ByteArray} (h : (k == 1) = false) (h3 : (k == 2) = true) : t.toList.isEmpty = vldB ⟨k, t, n⟩ := by
  simp [vldB, h, h3]
theorem vld_e {k n : Int} {t : ByteArray} (h : (k == 1) = false) (h3 : (k == 3) = false) (h2 : (k == 2) = false) : false = vldB ⟨k, t, n⟩ := by
  simp [vldB, h, h3, h2]

set_option maxHeartbeats 400000 in
theorem valid_calls (k n : Int) (t : ByteArray) (w : World) (hn : 0 ≤ n) :
    Calls Try.prog 81 #[.agg #[.int .i64 k, .string t, .int .u64 n]] w fun e w' => e = .returned (.bool (vldB ⟨k, t, n⟩)) ∧ Below w.heap.size w w' := by
  go_enter Try.func81, Try.ntmps81
  go_wp2
  all_goals go_ret
  all_goals refine ⟨ret_bool ?_, (Below.refl _ _).alloc (Nat.le_refl _) _⟩
  all_goals go_light
  · exact vld_a ‹_›
  · exact vld_b ‹_› ‹_› ‹_›
  · exact vld_c ‹_› ‹_› hn ‹_›
  · exact vld_d ‹_› ‹_›
  · exact vld_e ‹_› ‹_› ‹_›

theorem vld_f {k n : Int} {t : ByteArray} (h1 : (k == 1) = false) (h2 : (k == 2) = false) (h3 : k = 3) (ht : t.toList = []) (hn : n = 0) : true = vldB ⟨k, t, n⟩ := by
  subst h3 hn; simp [vldB, ht]
theorem vld_g {k n : Int} {t : ByteArray} (h1 : (k == 1) = false) (h2 : (k == 2) = false) (h3 : k = 3) (ht : t.toList = []) : (n == 0 || n == 1) = vldB ⟨k, t, n⟩ := by
  subst h3; simp [vldB, ht]
theorem vld_h {k n : Int} {t : ByteArray} (h1 : (k == 1) = false) (h2 : (k == 2) = false) (h3 : k = 3) (ht : ¬ t.toList = []) : false = vldB ⟨k, t, n⟩ := by
  subst h3; simp [vldB, ht]
theorem vld_i {k n : Int} {t : ByteArray} (h1 : (k == 1) = false) (h2 : (k == 2) = false) (h3 : ¬ k = 3) : false = vldB ⟨k, t, n⟩ := by
  simp [vldB, h1, h2, h3]

set_option maxHeartbeats 400000 in
theorem rvalid_calls (k n : Int) (t : ByteArray) (w : World) :
    Calls Try.prog 30 #[.agg #[.int .i64 k, .string t, .int .u64 n]] w fun e w' => e = .returned (.bool (vldB ⟨k, t, n⟩)) ∧ Below w.heap.size w w' := by
  go_enter Try.func30, Try.ntmps30
  go_wp2
  all_goals go_light
  all_goals go_ret
  all_goals refine ⟨ret_bool ?_, (Below.refl _ _).alloc (Nat.le_refl _) _⟩
  · exact vld_a ‹_›
  · exact vld_d ‹_› ‹_›
  · exact vld_f ‹_› ‹_› ‹_› ‹_› ‹_›
  · exact vld_g ‹_› ‹_› ‹_› ‹_›
  · exact vld_h ‹_› ‹_› ‹_› ‹_›
  · exact vld_i ‹_› ‹_› ‹_›
end Go.Proofs.Ytindefkngcelnaa
