/- Layer 9 (records): numbers from 0 to 255 in decimal digits: what ParseUint and FormatUint say of them, and the document's Number (plain). -/
import Derived.Lib.ParseIntB
import Derived.Lib.ItoaNum
namespace Go.Proofs.YtmkohdepgfahnaaGreatDoor
open Go
set_option linter.unusedVariables false

/-- The number that l writes in decimal digits without noughts ahead, up to 255. -/
def octP (l : List UInt8) : Option Nat :=
  match Lib.parseUintB 8 l with
  | .ok n => if 1 < l.length ∧ l.head? = some 48 then none else some n
  | _ => none
theorem parseM_le (M : Nat) : ∀ (l : List UInt8) (acc n : Nat), acc ≤ M → Lib.parseUintM M acc l = .ok n → n ≤ M ∧ acc * 10 ^ l.length ≤ n
  | [], acc, n, h, e => by
    simp only [Lib.parseUintM, Lib.NumEnd.ok.injEq] at e
    subst e
    simpa using h
  | c :: r, acc, n, h, e => by
    unfold Lib.parseUintM at e
    split at e
    · split at e
      · cases e
      · split at e
        · cases e
        · next h3 =>
          obtain ⟨h1, h2⟩ := parseM_le M r _ n (by omega) e
          refine ⟨h1, Nat.le_trans ?_ h2⟩
          rw [List.length_cons, Nat.pow_succ, Nat.mul_comm (10 ^ r.length) 10, ← Nat.mul_assoc]
          exact Nat.mul_le_mul_right _ (by omega)
    · cases e
theorem dec_one {u : Nat} (h : u < 10) : Lib.decDigits u = [UInt8.ofNat (48 + u)] := by rw [Lib.decDigits, dif_pos h]
theorem dec_more {u : Nat} (h : ¬ u < 10) : Lib.decDigits u = Lib.decDigits (u / 10) ++ [UInt8.ofNat (48 + u % 10)] := by rw [Lib.decDigits, dif_neg h]
theorem byte_ofNat {c : UInt8} {n : Nat} (h : n = c.toNat) : UInt8.ofNat n = c := by subst h; simp
theorem parse_digit {M acc n : Nat} {c : UInt8} {r : List UInt8} (e : Lib.parseUintM M acc (c :: r) = .ok n) : 48 ≤ c.toNat ∧ c.toNat ≤ 57 ∧ Lib.parseUintM M (acc * 10 + (c.toNat - 48)) r = .ok n := by
  unfold Lib.parseUintM at e
  split at e
  · next h =>
    split at e
    · cases e
    · split at e
      · cases e
      · exact ⟨h.1, h.2, e⟩
  · cases e
/-- What was read and bears no nought ahead is written so again. -/
theorem dec_of_parse {l : List UInt8} {n : Nat} (h0 : l ≠ []) (h : Lib.parseUintM 255 0 l = .ok n) (hz : ¬ (1 < l.length ∧ l.head? = some 48)) : Lib.decDigits n = l := by
  match l, h0 with
  | [a], _ =>
    obtain ⟨a1, a2, e⟩ := parse_digit h
    simp only [Lib.parseUintM, Lib.NumEnd.ok.injEq] at e
    subst e
    rw [dec_one (by omega), byte_ofNat (c := a) (by omega)]
  | [a, b], _ =>
    obtain ⟨a1, a2, e⟩ := parse_digit h
    obtain ⟨b1, b2, e⟩ := parse_digit e
    simp only [Lib.parseUintM, Lib.NumEnd.ok.injEq] at e
    have ha : a.toNat ≠ 48 := fun e => hz ⟨by simp, by simp; exact UInt8.toNat_inj.1 e⟩
    subst e
    rw [dec_more (by omega), dec_one (by omega), byte_ofNat (c := a) (by omega), byte_ofNat (c := b) (by omega)]
    rfl
  | [a, b, c], _ =>
    obtain ⟨a1, a2, e⟩ := parse_digit h
    obtain ⟨b1, b2, e⟩ := parse_digit e
    obtain ⟨c1, c2, e⟩ := parse_digit e
    simp only [Lib.parseUintM, Lib.NumEnd.ok.injEq] at e
    have ha : a.toNat ≠ 48 := fun e => hz ⟨by simp, by simp; exact UInt8.toNat_inj.1 e⟩
    subst e
    rw [dec_more (by omega), dec_more (by omega), dec_one (by omega), byte_ofNat (c := a) (by omega), byte_ofNat (c := b) (by omega), byte_ofNat (c := c) (by omega)]
    rfl
  | a :: b :: c :: d :: r, _ =>
    obtain ⟨a1, a2, e⟩ := parse_digit h
    have ha : a.toNat ≠ 48 := fun e => hz ⟨by simp, by simp; exact UInt8.toNat_inj.1 e⟩
    obtain ⟨h1, h2⟩ := parseM_le 255 _ _ _ (by omega) e
    exfalso
    simp only [List.length_cons] at h2
    have h3 : 1 ≤ 10 ^ r.length := Nat.one_le_pow _ _ (by decide)
    rw [Nat.pow_succ, Nat.pow_succ, Nat.pow_succ] at h2
    have h4 : 1 * (1 * 10 * 10 * 10) ≤ (0 * 10 + (a.toNat - 48)) * (10 ^ r.length * 10 * 10 * 10) := Nat.mul_le_mul (by omega) (by omega)
    omega
theorem dec_head (n : Nat) (hn : n ≤ 255) : ¬ (1 < (Lib.decDigits n).length ∧ (Lib.decDigits n).head? = some 48) := by
  by_cases h1 : n < 10
  · rw [dec_one h1]; simp
  · by_cases h2 : n / 10 < 10
    · rw [dec_more h1, dec_one h2]
      simp only [List.cons_append, List.nil_append, List.head?_cons, Option.some.injEq, not_and]
      intro _ e
      have := congrArg UInt8.toNat e
      rw [UInt8.toNat_ofNat'] at this
      have h48 : (48 : UInt8).toNat = 48 := rfl
      omega
    · rw [dec_more h1, dec_more h2, dec_one (by omega)]
      simp only [List.cons_append, List.nil_append, List.head?_cons, Option.some.injEq, not_and]
      intro _ e
      have := congrArg UInt8.toNat e
      rw [UInt8.toNat_ofNat'] at this
      have h48 : (48 : UInt8).toNat = 48 := rfl
      omega
/-- octet's two tests are octP's. -/
theorem oct_ok {l : List UInt8} {n : Nat} (h : Lib.parseUintB 8 l = .ok n) : n ≤ 255 ∧ octP l = if Lib.decDigits n = l then some n else none := by
  have h0 : l ≠ [] := by
    intro e
    subst e
    simp [Lib.parseUintB] at h
  have h1 : Lib.parseUintM 255 0 l = .ok n := by
    unfold Lib.parseUintB at h
    rw [if_neg h0] at h
    exact h
  have hn := (parseM_le 255 l 0 n (by omega) h1).1
  refine ⟨hn, ?_⟩
  unfold octP
  rw [h]
  by_cases hz : 1 < l.length ∧ l.head? = some 48
  · have hd : ¬ Lib.decDigits n = l := fun e => dec_head n hn (e ▸ hz)
    simp only [if_pos hz, if_neg hd]
  · simp only [if_neg hz, if_pos (dec_of_parse h0 h1 hz)]
theorem oct_le {l : List UInt8} {n : Nat} (h : octP l = some n) : n ≤ 255 := by
  unfold octP at h
  split at h
  · next m hm =>
    have := (oct_ok hm).1
    split at h
    · cases h
    · cases h; exact this
  · cases h
theorem oct_dec {l : List UInt8} {n : Nat} (h : octP l = some n) : Lib.decDigits n = l ∧ n ≤ 255 := by
  refine ⟨?_, oct_le h⟩
  have h' := h
  unfold octP at h
  split at h
  · next m hm =>
    have e := (oct_ok hm).2
    rw [h'] at e
    by_cases hd : Lib.decDigits m = l
    · rw [if_pos hd] at e; cases e; exact hd
    · rw [if_neg hd] at e; cases e
  · cases h
end Go.Proofs.YtmkohdepgfahnaaGreatDoor
