import Derived.Test.YtmkohdepgfahnaaGreatDoorJEnc
import Derived.Lib.SlBytesConst
import Derived.Test.YtmkohdepgfahnaaGreatDoorJPay
import Derived.Test.YtmkohdepgfahnaaGreatDoorJNum
/- Layer 13 (journal): the law's example. -/
namespace Go.Proofs.YtmkohdepgfahnaaGreatDoor
open Go.RowKit
set_option linter.unusedVariables false

def fixO : OV := ⟨⟨4, ⟨⟨#[97]⟩, ⟨#[]⟩, 0, 0⟩, svcZ, chkZ, false, 0⟩, none, 0⟩
def fixB : List UInt8 := [77, 0, 0, 0, 13, 0, 0, 0, 0, 0, 0, 0, 2, 1, 4, 0, 1, 97, 211, 16, 57, 225]
theorem fix_enc : encB 2 (ops [fixO]) = fixB := by kernel_rfl
theorem fix_err : encE (ops [fixO]) = 0 := by kernel_rfl
theorem fix_sum : sumB [49, 50, 51, 52, 53, 54, 55, 56, 57] = 3421780262 := by kernel_rfl
theorem fix_small : fixO.o.small := ⟨by decide, by decide, ⟨by decide, by decide, by decide, by decide, fun x hx => by cases hx⟩, ⟨by decide, by decide, by decide, by decide⟩⟩
theorem fix_ok : ∀ x ∈ [fixO], x.ok := fun x hx => by simp at hx; subst hx; exact ⟨fix_small, by decide⟩
theorem fix_rng : ∀ x ∈ [fixO], x.o.rng := fun x hx => by simp at hx; subst hx; exact ⟨by decide, by decide⟩
theorem fix_at (w : World) : OpsAt (w.alloc (.cells fixO.v 55)) (some ⟨w.heap.size, 0, none⟩) [fixO] := by
  constructor
  · intro _
    refine ⟨w.heap.size, 0, rfl, fun j u hj => ?_⟩
    rw [Nat.zero_add, World.cell?_alloc_mark]
    have e : ocs [fixO] = fixO.v.toList := by simp [ocs]
    rw [e] at hj
    simpa using hj
  · intro x hx
    simp at hx
    subst hx
    intro h
    exact absurd rfl h

set_option maxRecDepth 100000 in
set_option maxHeartbeats 2000000 in
theorem journalFixed_calls (w : World) (hv : Vs w) :
    Calls Tryz.prog 9 #[] w fun e w' => e = .returned (.bool true) ∧ Below w.heap.size w w' := by
  obtain ⟨wx, Hwx⟩ : ∃ x, Hid (x = w.alloc (.cells fixO.v 55)) := ⟨_, rfl⟩
  have HB : Hid (Below w.heap.size w wx) := by rw [Hwx.out]; exact below_new w _
  have HC : Hid (Calls Tryz.prog 15 #[.agg (entV 2 (some ⟨w.heap.size, 0, none⟩) 1 1)] wx fun e w' => ∃ v', e = .returned (.tuple #[v', .int .i64 0]) ∧ Own w' wx.heap.size v' fixB ∧ Below wx.heap.size wx w') := by
    have := jencode_calls 2 (some ⟨w.heap.size, 0, none⟩) 1 [fixO] wx (by decide) (by decide) (hv.stay HB.out) (by decide) fix_ok fix_rng (by rw [Hwx.out]; exact fix_at w)
    rw [fix_enc, fix_err] at this
    exact this
  go_enter Tryz.func9, Tryz.ntmps9
  go_wp2_with fail
  have HC' := HC.out
  rw [Hwx.out] at HC'
  refine HC'.mono ?_
  rw [← Hwx.out]
  rintro e w1 ⟨v1, rfl, ho, hb⟩
  have HB1 : Hid (Below w.heap.size w w1) := HB.out.trans (hb.mono HB.out.size)
  obtain ⟨ao, cap, rfl, hg⟩ := row_forms ho
  obtain ⟨g, rfl⟩ := hg (by decide)
  have HO : Hid (Own w1 wx.heap.size (.slice (some ⟨g, 0, none⟩) 22 cap) fixB) := ho
  clear ho hb hg HC HC' HB Hwx
  rw [show fixB.length = 22 from rfl]
  have c0 : w1.cell? ⟨g, 0, none⟩ = some (.int .u8 77) := (HO.out.at rfl 0 (by decide)).1
  have c4 : w1.cell? ⟨g, 4, none⟩ = some (.int .u8 13) := (HO.out.at rfl 4 (by decide)).1
  have c12 : w1.cell? ⟨g, 12, none⟩ = some (.int .u8 2) := (HO.out.at rfl 12 (by decide)).1
  have c13 : w1.cell? ⟨g, 13, none⟩ = some (.int .u8 1) := (HO.out.at rfl 13 (by decide)).1
  have c14 : w1.cell? ⟨g, 14, none⟩ = some (.int .u8 4) := (HO.out.at rfl 14 (by decide)).1
  have c17 : w1.cell? ⟨g, 17, none⟩ = some (.int .u8 97) := (HO.out.at rfl 17 (by decide)).1
  obtain ⟨w2, Hw2⟩ : ∃ x, Hid (x = w1.alloc (.cells #[.int .u8 49, .int .u8 50, .int .u8 51, .int .u8 52, .int .u8 53, .int .u8 54, .int .u8 55, .int .u8 56, .int .u8 57] 5 (9, 10))) := ⟨_, rfl⟩
  have hcv : (convert 23 23 (.slice (some ⟨w1.heap.size, 0, none⟩) 9 9)).run Tryz.prog (w1.alloc (.cells #[.int .u8 49, .int .u8 50, .int .u8 51, .int .u8 52, .int .u8 53, .int .u8 54, .int .u8 55, .int .u8 56, .int .u8 57] 5)) = .ok (.slice (some ⟨w1.heap.size, 0, none⟩) 9 9) w2 := by rw [Hw2.out]; exact Lib.run_convert_bytes_const (P := Tryz.prog) w1 23 5 _ 9 9 Tryz.underlying23 Tryz.underlying5
  have HB2 : Hid (Below w.heap.size w w2) := by rw [Hw2.out]; exact HB1.out.alloc HB1.out.size _
  have HSM : Hid (Calls Tryz.prog 10 #[.slice (some ⟨w1.heap.size, 0, none⟩) 9 9] w2 fun e w' => e = .returned (.int .u32 3421780262) ∧ w' = w2) := by
    have := sum_calls (some ⟨w1.heap.size, 0, none⟩) 9 [49, 50, 51, 52, 53, 54, 55, 56, 57] w2 (by decide) (by
      intro _
      refine ⟨w1.heap.size, 0, rfl, fun j u hj => ?_⟩
      rw [Hw2.out, Nat.zero_add, World.cell?_alloc_mark]
      simpa [bs] using hj)
    rw [fix_sum] at this
    exact this
  go_wp2_with fail
  refine HSM.out.mono ?_
  rintro e w3 ⟨rfl, rfl⟩
  clear hcv HSM Hw2
  go_wp2
  go_ret
  exact ⟨rfl, HB2.out⟩
end Go.Proofs.YtmkohdepgfahnaaGreatDoor

/- Layer 13 (journal): the document's Sum. -/
namespace Go.Proofs.YtmkohdepgfahnaaGreatDoor
open Go.RowKit
set_option linter.unusedVariables false

theorem xor_half {s c : Nat} (hs : s < 4294967296) : (if s % 2 ≠ c % 2 then (s / 2) ^^^ 3988292384 else s / 2) < 4294967296 := by
  split
  · have := Nat.xor_lt_two_pow (n := 32) (x := s / 2) (y := 3988292384) (by omega) (by omega)
    omega
  · omega

set_option maxRecDepth 100000 in
set_option maxHeartbeats 1000000 in
theorem refSum_calls (ao : Option Addr) (cap : Nat) (l : List UInt8) (w : World) (hl : l.length ≤ 140737488355328) (h : BAt w ao l) :
    Calls Tryz.prog 11 #[.slice ao l.length cap] w fun e w' => e = .returned (.int .u32 (sumB l)) ∧ w' = w := by
  go_enter Tryz.func11, Tryz.ntmps11
  go_wp2
  go_loopw [3, 10] (fun s i wr => ∃ k : Nat, k ≤ l.length ∧ i = .int .i64 k ∧ s = .int .u32 (crcs 4294967295 (l.take k) : Nat) ∧ wr = w) (fun _ i _ => l.length - (intOf i).toNat)
  case atStart => exact ⟨0, Nat.zero_le _, rfl, by simp [crcs], rfl⟩
  case round =>
    obtain ⟨k, hk, rfl, rfl, rfl⟩ := hrel
    obtain ⟨t, Ht⟩ : ∃ t, Hid (t = crcs 4294967295 (l.take k)) := ⟨_, rfl⟩
    have ht : t < 4294967296 := by rw [Ht.out]; exact crcs_lt _ (by omega)
    rw [← Ht.out]
    by_cases hlt : k < l.length
    · obtain ⟨b, off, rfl, hc⟩ := h.at k hlt
      obtain ⟨c, Hc⟩ : ∃ c, Hid (c = l[k]'hlt) := ⟨_, rfl⟩
      rw [← Hc.out] at hc
      have hcl := byte_le c
      have HN : Hid (crcs 4294967295 (l.take (k + 1)) = crcByte t c) := by
        show _ = _
        rw [list_take_snoc l k hlt, crcs_snoc, ← Ht.out, ← Hc.out]
      clear Ht Hc
      go_wp2
      clear hc
      go_loopw [3, 5, 6] (fun s cc j wr' => ∃ (m y d : Nat), m ≤ 8 ∧ j = .int .i64 m ∧ s = .int .u32 (y : Nat) ∧ cc = .int .u8 (d : Nat) ∧ y < 4294967296 ∧ d * 2 ^ m ≤ 255 ∧ Hid (y ^^^ d = crcN m (t ^^^ c.toNat)) ∧ wr' = wr) (fun _ _ j _ => 8 - (intOf j).toNat)
      case atStart => exact ⟨0, t, c.toNat, Nat.zero_le _, rfl, rfl, rfl, ht, by have := c.toNat_lt; omega, rfl, rfl⟩
      case round =>
        obtain ⟨m, y, d, hm, rfl, rfl, rfl, hy, hd, Hy, rfl⟩ := hrel
        have hd2 : d ≤ 255 := Nat.le_trans (Nat.le_mul_of_pos_right d (Nat.two_pow_pos m)) hd
        by_cases hm8 : m < 8
        · have HD : Hid (d / 2 * 2 ^ (m + 1) ≤ 255) := by
            have h1 : d / 2 * 2 ^ (m + 1) ≤ d * 2 ^ m := by
              rw [Nat.pow_succ, Nat.mul_comm (2 ^ m), ← Nat.mul_assoc]
              exact Nat.mul_le_mul_right _ (by omega)
            exact Nat.le_trans h1 hd
          have HC : Hid ((if y % 2 ≠ d % 2 then (y / 2) ^^^ 3988292384 else y / 2) ^^^ (d / 2) = crcN (m + 1) (t ^^^ c.toNat)) := by
            show _ = _
            rw [crc_ref, Hy.out]
            rfl
          have HL : Hid ((if y % 2 ≠ d % 2 then (y / 2) ^^^ 3988292384 else y / 2) < 4294967296) := xor_half hy
          have hx := u32_xor_nat (y / 2) 3988292384 (by omega) (by omega)
          clear hd
          by_cases hb : y % 2 = d % 2
          · simp only [hb, ne_eq, not_true_eq_false, if_false] at HC HL
            have hq : (((y : Int) % 2) != ((d : Int) % 2)) = false := by simp; omega
            go_wp2
            go_roundw
            case rel => exact ⟨m + 1, y / 2, d / 2, by omega, by go_num, by congr 1, by congr 1, HL.out, HD.out, HC, by trivial⟩
            case measure => simp [intOf]; omega
          · simp only [hb, ne_eq, not_false_eq_true, if_true] at HC HL
            have hq : (((y : Int) % 2) != ((d : Int) % 2)) = true := by simp; omega
            have HX : Hid (bits .xor .u32 ((y : Int) / 2) 3988292384 = ((y / 2 ^^^ 3988292384 : Nat) : Int)) := hx
            clear hx
            go_wp2
            go_roundw
            case rel => exact ⟨m + 1, _, d / 2, by omega, by go_num, congrArg (Value.int .u32) HX.out, by congr 1, HL.out, HD.out, HC, by trivial⟩
            case measure => simp [intOf]; omega
        · obtain rfl : m = 8 := by omega
          have HE : Hid (y = crcByte t c) := by
            show _ = _
            obtain rfl : d = 0 := by omega
            have := Hy.out
            rw [Nat.xor_zero] at this
            exact this
          go_wp2
          go_roundw
          case rel => exact ⟨k + 1, by omega, by go_num, by rw [HN.out, HE.out], by trivial⟩
          case measure => simp [intOf]; omega
    · have HE : Hid (t = crcs 4294967295 l) := by show _ = _; rw [Ht.out, List.take_of_length_le (by omega)]
      go_wp2
      go_ret
      refine ⟨?_, rfl⟩
      show Ending.returned (.int .u32 (4294967295 - (t : Int))) = _
      have h2 : (4294967295 - (t : Int)) = ((sumB l : Nat) : Int) := by
        unfold sumB
        rw [← HE.out]
        omega
      rw [h2]
end Go.Proofs.YtmkohdepgfahnaaGreatDoor
