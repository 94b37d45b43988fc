/- The walks of allValid and AllValid. -/
import Derived.Test.YtindefkngcelnaaKValid
namespace Go.Proofs.Ytindefkngcelnaa
open Go.RowKit
set_option linter.unusedVariables false

theorem all_take_succ (ps : List Pt) (k : Nat) (h : k < ps.length) : (ps.take (k + 1)).all vldB = ((ps.take k).all vldB && vldB ps[k]) := by
  rw [List.take_succ_eq_append_getElem h, List.all_append]; simp only [List.all_cons, List.all_nil, Bool.and_true]

theorem all_false_at (ps : List Pt) (k : Nat) (h : k < ps.length) (hv : vldB ps[k] = false) : false = ps.all vldB := by
  cases he : ps.all vldB with
  | false => rfl
  | true => rw [List.all_eq_true] at he; rw [he _ (List.getElem_mem h)] at hv; exact hv.symm

theorem all_true_at (ps : List Pt) (k : Nat) (h : ¬ k < ps.length) (hv : (ps.take k).all vldB = true) : true = ps.all vldB := by
  rw [List.take_of_length_le (by omega)] at hv; exact hv.symm

theorem below_call {B : Nat} {w wr w' : World} {o : Obj} (hb : Below B w wr) (hB : B ≤ wr.heap.size) (h : Below (wr.alloc o).heap.size (wr.alloc o) w') : Below B w w' :=
  (hb.alloc hB o).trans (h.mono (by simp; omega))

theorem below_size {w wr : World} (hb : Below w.heap.size w wr) : w.heap.size ≤ wr.heap.size := hb.size

set_option maxHeartbeats 400000 in
theorem allValid_calls (ao : Option Addr) (cap : Nat) (ps : List Pt) (w : World) (hl : ps.length ≤ 4398046511104) (hp : PartsAt w ao ps) :
    Calls Try.prog 65 #[.slice ao ps.length cap] w fun e w' => e = .returned (.bool (ps.all vldB)) ∧ Below w.heap.size w w' := by
  go_enter Try.func65, Try.ntmps65
  go_wp2
  go_loopw [7] (fun i wr => ∃ k : Nat, k ≤ ps.length ∧ i = .int .i64 k ∧ (ps.take k).all vldB = true ∧ Below w.heap.size w wr) (fun i _ => ps.length - (intOf i).toNat)
  case atStart => exact ⟨0, Nat.zero_le _, rfl, rfl, Below.refl _ _⟩
  case round =>
    obtain ⟨k, hk, rfl, hall, hb⟩ := hrel
    have HA : Hid ((ps.take k).all vldB = true) := hall
    clear hall
    by_cases hlt : k < ps.length
    · obtain ⟨b, off, rfl, h0, h1, h2, hwf⟩ := (hp.below hb) k ps[k] (by simp [hlt])
      go_wp2_with fail
      refine (valid_calls _ _ _ _ hwf.2.1.1).mono ?_
      rintro e w' ⟨rfl, hb1⟩
      have hb2 := below_call hb hb.size hb1
      clear h0 h1 h2 hb1
      cases hv : vldB ps[k] with
      | true =>
        go_wp2
        go_roundw
        case rel => exact ⟨k + 1, by omega, by go_num, by rw [all_take_succ ps k hlt, HA.out, hv]; rfl, hb2⟩
        case measure => simp [intOf]; omega
      | false =>
        go_wp2
        go_ret
        exact ⟨ret_bool (all_false_at ps k hlt hv), hb2⟩
    · go_wp2
      go_ret
      exact ⟨ret_bool (all_true_at ps k hlt HA.out), hb⟩

set_option maxHeartbeats 400000 in
theorem rallValid_calls (ao : Option Addr) (cap : Nat) (ps : List Pt) (w : World) (hl : ps.length ≤ 4398046511104) (hp : PartsAt w ao ps) :
    Calls Try.prog 46 #[.slice ao ps.length cap] w fun e w' => e = .returned (.bool (ps.all vldB)) ∧ Below w.heap.size w w' := by
  go_enter Try.func46, Try.ntmps46
  go_wp2
  go_loopw [7] (fun i wr => ∃ k : Nat, k ≤ ps.length ∧ i = .int .i64 k ∧ (ps.take k).all vldB = true ∧ Below w.heap.size w wr) (fun i _ => ps.length - (intOf i).toNat)
  case atStart => exact ⟨0, Nat.zero_le _, rfl, rfl, Below.refl _ _⟩
  case round =>
    obtain ⟨k, hk, rfl, hall, hb⟩ := hrel
    have HA : Hid ((ps.take k).all vldB = true) := hall
    clear hall
    by_cases hlt : k < ps.length
    · obtain ⟨b, off, rfl, h0, h1, h2, hwf⟩ := (hp.below hb) k ps[k] (by simp [hlt])
      go_wp2_with fail
      refine (rvalid_calls _ _ _ _).mono ?_
      rintro e w' ⟨rfl, hb1⟩
      have hb2 := below_call hb hb.size hb1
      clear h0 h1 h2 hb1
      cases hv : vldB ps[k] with
      | true =>
        go_wp2
        go_roundw
        case rel => exact ⟨k + 1, by omega, by go_num, by rw [all_take_succ ps k hlt, HA.out, hv]; rfl, hb2⟩
        case measure => simp [intOf]; omega
      | false =>
        go_wp2
        go_ret
        exact ⟨ret_bool (all_false_at ps k hlt hv), hb2⟩
    · go_wp2
      go_ret
      exact ⟨ret_bool (all_true_at ps k hlt HA.out), hb⟩
end Go.Proofs.Ytindefkngcelnaa
