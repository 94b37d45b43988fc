/- The walk of the document's Piece. -/
import Derived.Test.YtjbnbpclelbohaaKAllValid
namespace Go.Proofs.Ytjbnbpclelbohaa
open Go.RowKit
set_option linter.unusedVariables false

theorem own_lit (w : World) (B : Nat) (l : List UInt8) (hB : B ≤ w.heap.size) (hl : l.length ≤ maxLen) : Own (w.alloc (.cells (bs l).toArray 5)) B (.slice (some ⟨w.heap.size, 0, none⟩) l.length l.length) l := by
  have := World.ownsRow_lit (base := B) (e := 5) (size := 1) w (bs l).toArray l.length hB hl (by simp [bs])
  simpa [Own] using this

theorem esc_cons_snoc (t : ByteArray) (k : Nat) (h : k < t.size) (hc : ¬ t[k] = 0) : 1 :: esc (t.data.toList.take (k + 1)) = 1 :: esc (t.data.toList.take k) ++ [t[k]] := by
  have := esc_snoc [1] t k h hc; simpa using this
theorem esc_cons_snoc0 (t : ByteArray) (k : Nat) (h : k < t.size) (hc : t[k] = 0) : 1 :: esc (t.data.toList.take (k + 1)) = 1 :: esc (t.data.toList.take k) ++ [0, 255] := by
  have := esc_snoc0 [1] t k h hc; rw [hc] at this; simpa using this

set_option maxHeartbeats 1000000 in
theorem rpiece_text (t : ByteArray) (op : Bool) (w : World) (hl : 2 * t.size ≤ 140737488354000) :
    Calls Try.prog 58 #[.agg #[.int .i64 1, .string t, .int .u64 0], .bool op] w fun e w' => ∃ v, e = .returned v ∧ Own w' w.heap.size v (piece ⟨1, t, 0⟩ op) ∧ Below w.heap.size w w' := by
  go_enter Try.func58, Try.ntmps58
  go_wp2
  go_loopw [5, 6] (fun x i wr => ∃ k : Nat, k ≤ t.size ∧ i = .int .i64 k ∧ Own wr (w.heap.size + 1) x (1 :: esc (t.data.toList.take k)) ∧ Below (w.heap.size + 1) (w.alloc (.cells #[.int .i64 1, .string t, .int .u64 0] 57)) wr) (fun _ i _ => t.size - (intOf i).toNat)
  case atStart =>
    refine ⟨0, Nat.zero_le _, rfl, ?_, (Below.refl _ _).alloc (by simp) _⟩
    have := own_lit (w.alloc (.cells #[.int .i64 1, .string t, .int .u64 0] 57)) (w.heap.size + 1) [1] (by simp) (by unfold maxLen; simp)
    simpa [esc, bs] using this
  case round =>
    obtain ⟨k, hk, rfl, ho, hb⟩ := hrel
    have hc1 : wr.cell? ⟨w.heap.size, 1, none⟩ = some (.string t) := by
      rw [hb.cell (by simp), World.cell?_alloc_mark]; rfl
    have hs := hb.size
    simp at hs
    by_cases hlt : k < t.size
    · have hle := esc_take_le [1] t k hlt
      by_cases hc : t[k] = 0
      · have hz := byte_eq0 hc
        have HC : Hid (t[k] = 0) := hc
        clear hc
        go_wp2_with (at_builtin; refine append_lit _ rfl (.tmp 29) (.tmp 30) rfl (w.heap.size + 1) _ _ rfl [0, 255] _ 2 2 _ rfl rfl rfl (by simp) ho (by simp at hle ⊢; omega) (by omega) ?_)
        intro v1 w1 ho1 hg1
        have hb1 := hb.trans (ho.toBelow (by omega) hg1)
        clear ho hg1 hc1
        go_wp2
        go_roundw
        case rel => exact ⟨k + 1, by omega, by go_num, by rw [esc_cons_snoc0 t k hlt HC.out]; exact ho1, hb1⟩
        case measure => simp [intOf]; omega
      · have hz := byte_ne0 hc
        have HC : Hid (¬ t[k] = 0) := hc
        clear hc
        go_wp2_with (at_builtin; refine append_lit _ rfl (.tmp 32) (.tmp 37) rfl (w.heap.size + 1) _ _ rfl [t[k]] _ 1 1 _ rfl rfl rfl (by simp) ho (by simp at hle ⊢; omega) (by omega) ?_)
        intro v1 w1 ho1 hg1
        have hb1 := hb.trans (ho.toBelow (by omega) hg1)
        clear ho hg1 hc1
        go_wp2
        go_roundw
        case rel => exact ⟨k + 1, by omega, by go_num, by rw [esc_cons_snoc t k hlt HC.out]; exact ho1, hb1⟩
        case measure => simp [intOf]; omega
    · have hb2 : Below w.heap.size w wr := ((Below.refl _ _).alloc (Nat.le_refl _) _).trans (hb.mono (by omega))
      have hle := (esc_length t.data.toList).2
      have hsz : t.data.toList.length = t.size := by simp
      rw [List.take_of_length_le (by simp; omega)] at ho
      cases op with
      | true =>
        go_wp2
        go_ret
        exact ⟨_, rfl, by simpa [piece] using ho.mono (Nat.le_succ _), hb2⟩
      | false =>
        go_wp2_with (at_builtin; refine append_lit _ rfl (.tmp 41) (.tmp 42) rfl (w.heap.size + 1) _ _ rfl [0, 1] _ 2 2 _ rfl rfl rfl (by simp) ho (by simp; omega) (by omega) ?_)
        intro v1 w1 ho1 hg1
        have hb3 := hb2.trans ((ho.toBelow (by omega) hg1).mono (by omega))
        clear ho hg1 hc1
        go_wp2
        go_ret
        exact ⟨_, rfl, by simpa [piece] using ho1.mono (Nat.le_succ _), hb3⟩

set_option maxHeartbeats 1000000 in
theorem rpiece_flag (n : Int) (t : ByteArray) (op : Bool) (w : World) (hn0 : 0 ≤ n) (hn : n ≤ 1) :
    Calls Try.prog 58 #[.agg #[.int .i64 3, .string t, .int .u64 n], .bool op] w fun e w' => ∃ v, e = .returned v ∧ Own w' w.heap.size v (piece ⟨3, t, n⟩ op) ∧ Below w.heap.size w w' := by
  have hlit : Hid (#[Value.int IntKind.u8 n] = (bs [UInt8.ofNat n.toNat]).toArray) := by
    have : n = 0 ∨ n = 1 := by omega
    rcases this with rfl | rfl <;> rfl
  have HO : Hid (Own ((w.alloc (.cells #[.int .i64 3, .string t, .int .u64 n] 57)).alloc (.cells #[.int .u8 3] 5)) w.heap.size (.slice (some ⟨w.heap.size + 1, 0, none⟩) 1 1) [3]) := by
    have ho := own_lit (w.alloc (.cells #[.int .i64 3, .string t, .int .u64 n] 57)) w.heap.size [3] (by simp) (by unfold maxLen; simp)
    simpa [bs, Hid] using ho
  go_enter Try.func58, Try.ntmps58
  go_wp2_with (at_builtin; refine append_lit _ rfl (.tmp 48) (.tmp 52) rfl w.heap.size _ [3] rfl [UInt8.ofNat n.toNat] _ 1 1 _ rfl rfl hlit.out (by simp) HO.out (by simp) (by simp; omega) ?_)
  intro v1 w1 ho1 hg1
  have hb1 := HO.out.toBelow (by simp; omega) hg1
  go_wp2
  go_ret
  exact ⟨_, rfl, by simpa [piece] using ho1, (((Below.refl _ _).alloc (Nat.le_refl _) _).alloc (by simp) _).trans hb1⟩

/-- The tail with m bytes still to be written: zeros, then the number's last bytes. -/
def tail8 (n : Int) (m : Nat) : List UInt8 := List.replicate m 0 ++ (num8 n).drop m
theorem tail8_set (n : Int) (i : Nat) (hi : i < 8) : (tail8 n (i + 1)).set i (numByte n i) = tail8 n i := by
  have h8 : (num8 n).length = 8 := by simp [num8]
  unfold tail8
  rw [List.drop_eq_getElem_cons (i := i) (by omega), List.replicate_succ', List.append_assoc, List.set_append_right _ _ (by simp)]
  simp [num8]
theorem quot_step (n q : Int) (i : Nat) (hi : i < 8) (hq : q = n / 2 ^ (64 - 8 * (i + 1))) : q / 256 = n / 2 ^ (64 - 8 * i) := by
  rw [hq, Int.ediv_ediv_of_nonneg (Int.le_of_lt (Int.pow_pos (by decide))), show 64 - 8 * i = (64 - 8 * (i + 1)) + 8 by omega, Int.pow_add]; rfl
theorem quot_byte (n q : Int) (i : Nat) (hi : i < 8) (hq : q = n / 2 ^ (64 - 8 * (i + 1))) : q % 256 = ((numByte n i).toNat : Int) := by
  rw [numByte_val, hq, show 64 - 8 * (i + 1) = 56 - 8 * i by omega]

set_option maxHeartbeats 1000000 in
theorem rpiece_num (n : Int) (t : ByteArray) (op : Bool) (w : World) (hn0 : 0 ≤ n) (hn1 : n ≤ 18446744073709551615) :
    Calls Try.prog 58 #[.agg #[.int .i64 2, .string t, .int .u64 n], .bool op] w fun e w' => ∃ v, e = .returned v ∧ Own w' w.heap.size v (piece ⟨2, t, n⟩ op) ∧ Below w.heap.size w w' := by
  have HO : Hid (Own ((w.alloc (.cells #[.int .i64 2, .string t, .int .u64 n] 57)).alloc (.cells #[.int .u8 2] 5)) w.heap.size (.slice (some ⟨w.heap.size + 1, 0, none⟩) 1 1) [2]) := by
    have ho := own_lit (w.alloc (.cells #[.int .i64 2, .string t, .int .u64 n] 57)) w.heap.size [2] (by simp) (by unfold maxLen; simp)
    simpa [bs, Hid] using ho
  go_enter Try.func58, Try.ntmps58
  go_wp2
  go_loopw [7, 9] (fun x i wr => ∃ m : Nat, m ≤ 8 ∧ i = .int .i64 ((m : Int) - 1) ∧ x = .int .u64 (n / 2 ^ (64 - 8 * m)) ∧ Own wr w.heap.size (.slice (some ⟨w.heap.size + 1 + 1, 0, none⟩) 8 8) (tail8 n m) ∧ Own wr w.heap.size (.slice (some ⟨w.heap.size + 1, 0, none⟩) 1 1) [2] ∧ Below w.heap.size w wr) (fun _ i _ => (intOf i + 1).toNat)
  case atStart =>
    refine ⟨8, by omega, by rfl, by simp, ?_, HO.out.alloc _, (((Below.refl _ _).alloc (Nat.le_refl _) _).alloc (by simp) _).alloc (by simp; omega) _⟩
    have ho := own_lit ((w.alloc (.cells #[.int .i64 2, .string t, .int .u64 n] 57)).alloc (.cells #[.int .u8 2] 5)) w.heap.size (List.replicate 8 0) (by simp; omega) (by unfold maxLen; simp)
    rw [show tail8 n 8 = List.replicate 8 0 by simp [tail8, num8]]
    simpa [bs] using ho
  case round =>
    obtain ⟨m, hm, rfl, rfl, ho, ho2, hb⟩ := hrel
    have hs := hb.size
    cases m with
    | zero =>
      have hn8 : tail8 n 0 = num8 n := by simp [tail8]
      rw [hn8] at ho
      go_wp2_with (at_builtin; refine append_bytes _ rfl (.tmp 69) (.tmp 70) rfl w.heap.size _ [2] rfl ho2 ⟨w.heap.size + 1 + 1, 0, none⟩ 8 8 (num8 n) rfl (by simp [num8]) (World.ownsRow.cells ho (g := w.heap.size + 1 + 1) rfl) (by simp) (by omega) ?_)
      intro v1 w1 ho1 hg1
      have hb1 := hb.trans (ho2.toBelow (by omega) hg1)
      go_wp2
      go_ret
      exact ⟨_, rfl, by simpa [piece] using ho1, hb1⟩
    | succ i =>
      have ei : (((i + 1 : Nat) : Int) - 1) = (i : Int) := by omega
      rw [ei]
      have EI : Hid ((((i + 1 : Nat) : Int) - 1) = (i : Int)) := ei
      clear ei
      have hlen : (tail8 n (i + 1)).length = 8 := by simp [tail8, num8]; omega
      obtain ⟨hcc, hcf⟩ := ho.at hlen i (by omega)
      have HL : Hid ((tail8 n (i + 1)).length = 8) := hlen
      clear hlen
      obtain ⟨q, hq⟩ : ∃ q, q = n / 2 ^ (64 - 8 * (i + 1)) := ⟨_, rfl⟩
      have HQ : Hid (q = n / 2 ^ (64 - 8 * (i + 1))) := hq
      have hq0 : 0 ≤ q := by rw [hq]; exact Int.ediv_nonneg hn0 (Int.le_of_lt (Int.pow_pos (by decide)))
      have hq1 : q ≤ 18446744073709551615 := by rw [hq]; refine Int.le_trans (Int.ediv_le_self _ hn0) hn1
      rw [← hq]
      clear hq
      go_wp2
      go_light
      have hsd := ho.stored HL.out i (numByte n i)
      rw [tail8_set n i (by omega), ← quot_byte n q i (by omega) HQ.out] at hsd
      refine ⟨⟨i, by omega, rfl, by rw [quot_step n q i (by omega) HQ.out], hsd, ho2.storedOther (by simp [Value.ownBlock]) _, hb.setCell (by simp; omega) _⟩, by simp [intOf]⟩

theorem rpiece_calls (k n : Int) (t : ByteArray) (op : Bool) (w : World) (hl : 2 * t.size ≤ 140737488354000) (hv : vldB ⟨k, t, n⟩ = true) (hn0 : 0 ≤ n) (hn1 : n ≤ 18446744073709551615) :
    Calls Try.prog 58 #[.agg #[.int .i64 k, .string t, .int .u64 n], .bool op] w fun e w' => ∃ v, e = .returned v ∧ Own w' w.heap.size v (piece ⟨k, t, n⟩ op) ∧ Below w.heap.size w w' := by
  rcases vld_cases hv with ⟨hk, hn⟩ | ⟨hk, ht⟩ | ⟨hk, ht, hn⟩
  · simp only at hk hn; subst hk hn; exact rpiece_text t op w hl
  · simp only at hk; subst hk; exact rpiece_num n t op w hn0 hn1
  · simp only at hk hn; subst hk; exact rpiece_flag n t op w hn0 (by omega)
end Go.Proofs.Ytjbnbpclelbohaa
