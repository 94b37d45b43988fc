/- The walks of cmp.Compare at int, uint64 and string, and of compareParts. -/
import Derived.Test.YtjbnbpclelbohaaRwHas
import Derived.Lib.QuietBelow
namespace Go.Proofs.Ytjbnbpclelbohaa
open Go.RowKit
set_option linter.unusedVariables false

def cmpI (a b : Int) : Int := if a < b then -1 else if b < a then 1 else 0
def cmpS (a b : List UInt8) : Int := if Op.bytesLess a b then -1 else if a == b then 0 else 1

theorem ret_int {k : IntKind} {a b : Int} (h : a = b) : Ending.returned (.int k a) = .returned (.int k b) := by rw [h]

set_option maxHeartbeats 400000 in
theorem cmpInt_calls (a b : Int) (w : World) : Calls Try.prog 63 #[.int .i64 a, .int .i64 b] w fun e w' => e = .returned (.int .i64 (cmpI a b)) ∧ w' = w := by
  go_enter Try.func63, Try.ntmps63
  go_wp2
  all_goals go_light
  all_goals go_ret
  all_goals refine ⟨ret_int ?_, rfl⟩
  all_goals (unfold cmpI; repeat' split) <;> omega
set_option maxHeartbeats 400000 in
theorem cmpU64_calls (a b : Int) (w : World) : Calls Try.prog 80 #[.int .u64 a, .int .u64 b] w fun e w' => e = .returned (.int .i64 (cmpI a b)) ∧ w' = w := by
  go_enter Try.func80, Try.ntmps80
  go_wp2
  all_goals go_light
  all_goals go_ret
  all_goals refine ⟨ret_int ?_, rfl⟩
  all_goals (unfold cmpI; repeat' split) <;> omega
set_option maxHeartbeats 400000 in
theorem cmpStr_calls (a b : ByteArray) (w : World) : Calls Try.prog 79 #[.string a, .string b] w fun e w' => e = .returned (.int .i64 (cmpS a.toList b.toList)) ∧ w' = w := by
  go_enter Try.func79, Try.ntmps79
  go_wp2
  all_goals go_light
  all_goals go_ret
  all_goals refine ⟨ret_int ?_, rfl⟩
  · have h : Op.bytesLess a.toList b.toList = true := ‹_›
    simp [cmpS, h]
  · have h : Op.bytesLess a.toList b.toList = false := ‹_›
    have h2 : (!a.toList == b.toList) = true := ‹_›
    simp at h2
    simp [cmpS, h, h2]
  · have h : Op.bytesLess a.toList b.toList = false := ‹_›
    have h2 : (!a.toList == b.toList) = false := ‹_›
    have h3 : (a.toList == b.toList) = true := by simpa using h2
    rw [cmpS, if_neg (by rw [h]; decide), if_pos h3]

def cmpP (p q : Pt) : Int := if p.k == q.k then if p.k == 1 then cmpS p.t.toList q.t.toList else cmpI p.n q.n else cmpI p.k q.k

set_option maxHeartbeats 400000 in
theorem compareParts_calls (k n k' n' : Int) (t t' : ByteArray) (w : World) :
    Calls Try.prog 62 #[.agg #[.int .i64 k, .string t, .int .u64 n], .agg #[.int .i64 k', .string t', .int .u64 n']] w fun e w' => e = .returned (.int .i64 (cmpP ⟨k, t, n⟩ ⟨k', t', n'⟩)) ∧ Below w.heap.size w w' := by
  have hbl : ∀ a b : Obj, Below w.heap.size w ((w.alloc a).alloc b) := fun a b => ((Below.refl _ _).alloc (Nat.le_refl _) _).alloc (by simp) _
  by_cases hk : k = k'
  · have hkb : (k != k') = false := by simpa using hk
    by_cases h1 : k = 1
    · have h1b : (k == 1) = true := by simpa using h1
      have HC : Hid (cmpP ⟨k, t, n⟩ ⟨k', t', n'⟩ = cmpS t.toList t'.toList) := by simp [cmpP, hk, Hid]; omega
      clear hk h1
      go_enter Try.func62, Try.ntmps62
      go_wp2_with fail
      refine (cmpStr_calls t t' _).mono ?_
      rintro e w1 ⟨rfl, rfl⟩
      go_wp2
      go_ret
      exact ⟨ret_int HC.out.symm, hbl _ _⟩
    · have h1b : (k == 1) = false := by simpa using h1
      have HC : Hid (cmpP ⟨k, t, n⟩ ⟨k', t', n'⟩ = cmpI n n') := by simp [cmpP, hk, Hid]; intro h; omega
      clear hk h1
      go_enter Try.func62, Try.ntmps62
      go_wp2_with fail
      refine (cmpU64_calls n n' _).mono ?_
      rintro e w1 ⟨rfl, rfl⟩
      go_wp2
      go_ret
      exact ⟨ret_int HC.out.symm, hbl _ _⟩
  · have hkb : (k != k') = true := by simpa using hk
    have HC : Hid (cmpP ⟨k, t, n⟩ ⟨k', t', n'⟩ = cmpI k k') := by simp [cmpP, hk, Hid]
    clear hk
    go_enter Try.func62, Try.ntmps62
    go_wp2_with fail
    refine (cmpInt_calls k k' _).mono ?_
    rintro e w1 ⟨rfl, rfl⟩
    go_wp2
    go_ret
    exact ⟨ret_int HC.out.symm, hbl _ _⟩
end Go.Proofs.Ytjbnbpclelbohaa
