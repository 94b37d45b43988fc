/- Layer 13 (journal): the sum of bytes, plain. -/
import Derived.Test.YtmkohdepgfahnaaGreatDoorKOwn
import Derived.Laws.BitsAllLaws
namespace Go.Proofs.YtmkohdepgfahnaaGreatDoor
open Go.RowKit
set_option linter.unusedVariables false

def crcBit (s : Nat) : Nat := if s % 2 = 1 then (s / 2) ^^^ 3988292384 else s / 2
def crcN : Nat → Nat → Nat
  | 0, s => s
  | k + 1, s => crcBit (crcN k s)
def crcByte (s : Nat) (c : UInt8) : Nat := crcN 8 (s ^^^ c.toNat)
def crcs (s : Nat) (l : List UInt8) : Nat := l.foldl crcByte s
def sumB (l : List UInt8) : Nat := 4294967295 - crcs 4294967295 l

theorem crcBit_lt {s : Nat} (h : s < 4294967296) : crcBit s < 4294967296 := by
  unfold crcBit
  split
  · have := Nat.xor_lt_two_pow (n := 32) (x := s / 2) (y := 3988292384) (by omega) (by omega)
    omega
  · omega
theorem crcN_lt {s : Nat} (h : s < 4294967296) : ∀ k, crcN k s < 4294967296
  | 0 => h
  | k + 1 => crcBit_lt (crcN_lt h k)
theorem crcX_lt {s : Nat} (h : s < 4294967296) (c : UInt8) : s ^^^ c.toNat < 4294967296 := by
  have h2 := c.toNat_lt
  have := Nat.xor_lt_two_pow (n := 32) (x := s) (y := c.toNat) (by omega) (by omega)
  omega
theorem crcByte_lt {s : Nat} (h : s < 4294967296) (c : UInt8) : crcByte s c < 4294967296 := crcN_lt (crcX_lt h c) 8
theorem crcs_lt : ∀ (l : List UInt8) {s : Nat}, s < 4294967296 → crcs s l < 4294967296
  | [], _, h => h
  | c :: l, _, h => crcs_lt l (crcByte_lt h c)
theorem crcs_snoc (s : Nat) (l : List UInt8) (c : UInt8) : crcs s (l ++ [c]) = crcByte (crcs s l) c := by simp [crcs]
theorem crcs_append (s : Nat) (l m : List UInt8) : crcs s (l ++ m) = crcs (crcs s l) m := by simp [crcs]
theorem sumB_lt (l : List UInt8) : sumB l < 4294967296 := by unfold sumB; omega

/-- The bit that is handed on tells which way was gone. -/
theorem crcBit_top {s : Nat} (h : s < 4294967296) : (crcBit s).testBit 31 = decide (s % 2 = 1) := by
  have h1 : (s / 2).testBit 31 = false := Nat.testBit_lt_two_pow (by omega)
  unfold crcBit
  split
  · rename_i h2
    rw [Nat.testBit_xor, h1, h2]
    decide
  · rename_i h2
    rw [h1]
    simp [h2]
theorem xor_right_inj {a b c : Nat} (h : a ^^^ c = b ^^^ c) : a = b := by
  have := congrArg (· ^^^ c) h
  simpa [Nat.xor_assoc] using this
theorem crcBit_inj {s t : Nat} (hs : s < 4294967296) (ht : t < 4294967296) (h : crcBit s = crcBit t) : s = t := by
  have h1 : decide (s % 2 = 1) = decide (t % 2 = 1) := by rw [← crcBit_top hs, ← crcBit_top ht, h]
  have h2 : s % 2 = 1 ↔ t % 2 = 1 := by simpa using h1
  unfold crcBit at h
  by_cases hc : s % 2 = 1
  · rw [if_pos hc, if_pos (h2.1 hc)] at h
    have := xor_right_inj h
    have := h2.1 hc
    omega
  · rw [if_neg hc, if_neg (fun e => hc (h2.2 e))] at h
    have : ¬ t % 2 = 1 := fun e => hc (h2.2 e)
    omega
theorem crcN_inj {s t : Nat} (hs : s < 4294967296) (ht : t < 4294967296) : ∀ k, crcN k s = crcN k t → s = t
  | 0, h => h
  | k + 1, h => crcN_inj hs ht k (crcBit_inj (crcN_lt hs k) (crcN_lt ht k) h)
theorem crcByte_inj {s t : Nat} (hs : s < 4294967296) (ht : t < 4294967296) {c : UInt8} (h : crcByte s c = crcByte t c) : s = t :=
  xor_right_inj (crcN_inj (crcX_lt hs c) (crcX_lt ht c) 8 h)
theorem crcByte_inj2 {s : Nat} (hs : s < 4294967296) {c d : UInt8} (h : crcByte s c = crcByte s d) : c = d := by
  have := crcN_inj (crcX_lt hs c) (crcX_lt hs d) 8 h
  rw [Nat.xor_comm s, Nat.xor_comm s] at this
  exact UInt8.toNat_inj.1 (xor_right_inj this)
theorem crcs_inj : ∀ (l : List UInt8) {s t : Nat}, s < 4294967296 → t < 4294967296 → crcs s l = crcs t l → s = t
  | [], _, _, _, _, h => h
  | c :: l, _, _, hs, ht, h => crcByte_inj hs ht (crcs_inj l (crcByte_lt hs c) (crcByte_lt ht c) h)
/-- One byte changed is another sum. -/
theorem sumB_set {l : List UInt8} {i : Nat} {c : UInt8} (h : i < l.length) (hc : l[i] ≠ c) : sumB (l.set i c) ≠ sumB l := by
  intro e
  have h1 := crcs_lt l (s := 4294967295) (by omega)
  have h2 := crcs_lt (l.set i c) (s := 4294967295) (by omega)
  have e1 : crcs 4294967295 (l.set i c) = crcs 4294967295 l := by unfold sumB at e; omega
  have e2 : l.set i c = l.take i ++ c :: l.drop (i + 1) := List.set_eq_take_append_cons_drop.trans (if_pos h)
  have e3 : l = l.take i ++ l[i] :: l.drop (i + 1) := by rw [← List.drop_eq_getElem_cons h, List.take_append_drop]
  rw [e2] at e1
  rw [show crcs 4294967295 l = crcs 4294967295 (l.take i ++ l[i] :: l.drop (i + 1)) from congrArg _ e3] at e1
  rw [crcs_append, crcs_append] at e1
  have hp := crcs_lt (l.take i) (s := 4294967295) (by omega)
  have e4 := crcs_inj (l.drop (i + 1)) (crcByte_lt hp c) (crcByte_lt hp l[i]) e1
  exact hc (crcByte_inj2 hp e4).symm

/-- The program's step. -/
theorem crc_step {t : Nat} (h : t < 4294967296) : bits .xor .u32 ((t : Int) / 2) (3988292384 * bits .and .u32 (t : Int) 1 % 4294967296) = (crcBit t : Int) := by
  have ha : bits .and .u32 (t : Int) 1 = ((t % 2 : Nat) : Int) := by
    have := u32_and_nat t 1 (by omega) (by omega)
    rw [Nat.and_one_is_mod] at this
    exact this
  rw [ha]
  unfold crcBit
  rcases Nat.mod_two_eq_zero_or_one t with h2 | h2
  · rw [h2]
    rw [if_neg (by decide)]
    have e : 3988292384 * ((0 : Nat) : Int) % 4294967296 = ((0 : Nat) : Int) := by decide
    rw [e]
    have := u32_xor_nat (t / 2) 0 (by omega) (by omega)
    rw [Nat.xor_zero] at this
    exact this
  · rw [h2, if_pos rfl]
    have e : 3988292384 * ((1 : Nat) : Int) % 4294967296 = ((3988292384 : Nat) : Int) := by decide
    rw [e]
    exact u32_xor_nat (t / 2) 3988292384 (by omega) (by omega)
theorem crc_in {t : Nat} (h : t < 4294967296) (c : UInt8) : bits .xor .u32 (t : Int) (c.toNat : Int) = ((t ^^^ c.toNat : Nat) : Int) :=
  u32_xor_nat t c.toNat h (by have := c.toNat_lt; omega)
theorem ones_xor {t : Nat} (h : t < 4294967296) : 4294967295 ^^^ t = 4294967295 - t := by
  have h1 := congrArg BitVec.toNat (BitVec.allOnes_xor (x := BitVec.ofNat 32 t))
  rw [BitVec.toNat_xor, BitVec.toNat_not, BitVec.toNat_allOnes, BitVec.toNat_ofNat, Nat.mod_eq_of_lt h] at h1
  exact h1
theorem crc_out {t : Nat} (h : t < 4294967296) : bits .xor .u32 IntKind.u32.max (t : Int) = ((4294967295 - t : Nat) : Int) := by
  have := u32_xor_nat 4294967295 t (by omega) h
  rw [ones_xor h] at this
  exact this
/-- The document's step: s and the rest of the byte apart. -/
theorem crc_ref {s c : Nat} : (if s % 2 ≠ c % 2 then (s / 2) ^^^ 3988292384 else s / 2) ^^^ (c / 2) = crcBit (s ^^^ c) := by
  unfold crcBit
  have h1 : (s ^^^ c) / 2 = s / 2 ^^^ c / 2 := Nat.xor_div_two
  have h2 : (s ^^^ c) % 2 = 1 ↔ s % 2 ≠ c % 2 := by
    rw [Nat.xor_mod_two_eq_one]
    omega
  rw [h1]
  by_cases h : s % 2 ≠ c % 2
  · rw [if_pos h, if_pos (h2.2 h)]
    rw [Nat.xor_assoc, Nat.xor_comm 3988292384, ← Nat.xor_assoc]
  · rw [if_neg h, if_neg (fun e => h (h2.1 e))]
end Go.Proofs.YtmkohdepgfahnaaGreatDoor
