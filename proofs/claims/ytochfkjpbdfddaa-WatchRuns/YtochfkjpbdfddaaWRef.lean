/- The document's answer for layer 2: Place, First, Add. -/
import Derived.Test.YtochfkjpbdfddaaWSetM
import Derived.Deep.RegionHeld3
import Derived.Deep.RegionHeldLaw
import Derived.Deep.AppendLies
namespace Go.Proofs.Ytochfkjpbdfddaa
open Go.RowKit
set_option linter.unusedVariables false

/-- Place: a place 0 to n-1. -/
theorem place_calls (x : Int) (n : Nat) (w : World) (hn : 0 < n) (hl : n ≤ 9223372036854775807) (hx : -9223372036854775808 ≤ x ∧ x ≤ 9223372036854775807) :
    Calls Try.prog 5 #[.int .i64 x, .int .i64 (n : Int)] w fun e w' => (∃ i : Nat, i < n ∧ e = .returned (.int .i64 (i : Int))) ∧ w' = w := by
  have h1 : -(n : Int) < x.tmod n := Int.lt_tmod_of_pos x (by omega)
  have h2 : x.tmod n < (n : Int) := Int.tmod_lt_of_pos x (by omega)
  have hn0 : ¬ (n : Int) = 0 := by omega
  have hn1 : ¬ (n : Int) = -1 := by omega
  by_cases h : x.tmod n < 0
  · go_enter Try.func5, Try.ntmps5
    go_wp2
    go_ret
    exact ⟨⟨(x.tmod n + n).toNat, by omega, by go_num⟩, rfl⟩
  · go_enter Try.func5, Try.ntmps5
    go_wp2
    go_ret
    exact ⟨⟨(x.tmod n).toNat, by omega, by go_num⟩, rfl⟩

/-- Places as numbers. -/
def nums (l : List Nat) : List Value := l.map fun (i : Nat) => Value.int .i64 (i : Int)
theorem nums_length (l : List Nat) : (nums l).length = l.length := by simp [nums]
theorem nums_append (l m : List Nat) : nums (l ++ m) = nums l ++ nums m := by simp [nums]
def bls (l : List Bool) : List Value := l.map .bool
theorem bls_length (l : List Bool) : (bls l).length = l.length := by simp [bls]

set_option maxRecDepth 100000 in
set_option maxHeartbeats 800000 in
theorem refFirst_calls (B : Nat) (most : Int) (hv xv : Value) (hd : List Nat) (fs : List Bool) (w : World) (hl : hd.length ≤ 9223372036854775807) (hh : OwnV w B 3 hv (nums hd)) (hx : OwnV w B 4 xv (bls fs)) (hlt : ∀ i ∈ hd, i < fs.length) :
    Calls Try.prog 14 #[.agg #[.int .i64 most, hv], xv] w fun e w' => e = .returned (.int .i64 (posOf (fun i => fs.getD i false) hd)) ∧ Below w.heap.size w w' := by
  obtain ⟨ao, cap, rfl⟩ := hh.shape
  obtain ⟨ax, capx, rfl⟩ := hx.shape
  rw [nums_length] at hh ⊢
  rw [bls_length] at hx ⊢
  obtain ⟨w1, HW⟩ : ∃ w1, Hid (w1 = w.alloc (.cells #[.int .i64 most, .slice ao hd.length cap] 38)) := ⟨_, rfl⟩
  have hT : Touched [] w w1 := by rw [HW.out]; exact (Touched.refl _ w).alloc _
  have b1 : w1.heap[w.heap.size]? = some (.cells #[.int .i64 most, .slice ao hd.length cap] 38) := by rw [HW.out]; exact heap_alloc_new w _
  have c1 : w1.cell? ⟨w.heap.size, 1, none⟩ = some (.slice ao hd.length cap) := by rw [cell_of_blk b1]; rfl
  have hh1 := hh.touched hT (by simp)
  have hx1 := hx.touched hT (by simp)
  have HB : Hid (Below w.heap.size w w1) := hT.toBelow (Nat.le_refl _) (by simp)
  clear hh hx b1 hT
  go_enter Try.func14, Try.ntmps14
  go_wp2
  rw [← HW.out]
  go_loopw [5] (fun i wr => ∃ k : Nat, k ≤ hd.length ∧ i = .int .i64 k ∧ Hid (∀ j (hj : j < hd.length), j < k → fs.getD hd[j] false = false) ∧ wr = w1) (fun i _ => hd.length - (intOf i).toNat)
  case atStart => exact ⟨0, Nat.zero_le _, rfl, fun j hj h => by omega, rfl⟩
  case round =>
    obtain ⟨k, hk, rfl, HF, rfl⟩ := hrel
    by_cases hlk : k < hd.length
    · obtain ⟨g, rfl, h0⟩ := hh1.at k (by rw [nums_length]; exact hlk)
      have h0' : wr.cell? ⟨g, k, none⟩ = some (.int .i64 (hd[k] : Int)) := by rw [h0]; simp [nums]
      have hik := hlt hd[k] (List.getElem_mem hlk)
      obtain ⟨gx, rfl, h2⟩ := hx1.at hd[k] (by rw [bls_length]; exact hik)
      have h2' : wr.cell? ⟨gx, hd[k], none⟩ = some (.bool (fs.getD hd[k] false)) := by rw [h2]; simp [bls, hik]
      clear h0 h2
      cases hz : fs.getD hd[k] false with
      | true =>
        rw [hz] at h2'
        have HZ : Hid (fs.getD hd[k] false = true) := hz
        clear hz
        go_wp2
        go_ret
        exact ⟨ret_int (posOf_hit hlk HZ.out HF.out).symm, HB.out⟩
      | false =>
        rw [hz] at h2'
        have HZ : Hid (fs.getD hd[k] false = false) := hz
        clear hz
        go_wp2
        go_roundw
        case rel => exact ⟨k + 1, by omega, by go_num, fun j hj h => by
          by_cases hjk : j = k
          · subst hjk; exact HZ.out
          · exact HF.out j hj (by omega), trivial⟩
        case measure => simp [intOf]; omega
    · go_wp2
      go_ret
      exact ⟨ret_int (posOf_none fun j hj => HF.out j hj (by omega)).symm, HB.out⟩
end Go.Proofs.Ytochfkjpbdfddaa
