/- The walk of KeysAfter. -/
import Derived.Test.YtehbclliiphglabKAfter
import Derived.KernelRfl
namespace Go.Proofs.Ytehbclliiphglab
open Go.RowKit
set_option linter.unusedVariables false

theorem starts_cons (c d : UInt8) (r o : List UInt8) : startsB (d :: o) (c :: r) = (d == c && startsB o r) := by
  simp only [startsB, List.length_cons, List.take_succ_cons]
  rw [show decide (r.length + 1 ≤ o.length + 1) = decide (r.length ≤ o.length) by simp]
  rw [show (d :: o.take r.length == c :: r) = (d == c && o.take r.length == r) from rfl]
  cases (d == c) <;> cases decide (r.length ≤ o.length) <;> simp

theorem u8_lt_succ {c : UInt8} (h : c ≠ 255) : c < c + 1 := by
  rw [UInt8.lt_iff_toNat_lt, u8_succ h]; omega

theorem aft_under (p : List UInt8) : ∀ (o x : List UInt8), startsB o p = true → aft p = some x → Op.bytesLess o x = true := by
  induction p with
  | nil => intro o x _ h; simp [aft] at h
  | cons c r ih =>
    intro o x hs h
    cases o with
    | nil => simp [startsB] at hs
    | cons d o =>
      rw [starts_cons, Bool.and_eq_true, beq_iff_eq] at hs
      obtain ⟨rfl, hs⟩ := hs
      rw [aft] at h
      cases ha : aft r with
      | some y =>
        rw [ha] at h
        simp at h
        subst h
        simp [Op.bytesLess, ih o y hs ha]
      | none =>
        rw [ha] at h
        by_cases hc : d = 255
        · simp [hc] at h
        · simp [hc] at h
          subst h
          have := u8_lt_succ hc
          simp [Op.bytesLess, this]

theorem aft_outside (p : List UInt8) : ∀ (o : List UInt8), startsB o p = false → Op.bytesLess o p = true ∨ ∃ x, aft p = some x ∧ Op.bytesLess o x = false := by
  induction p with
  | nil => intro o h; simp [startsB] at h
  | cons c r ih =>
    intro o hs
    cases o with
    | nil => exact .inl rfl
    | cons d o =>
      rw [starts_cons] at hs
      rcases Nat.lt_trichotomy d.toNat c.toNat with h | h | h
      · left
        have : d < c := UInt8.lt_iff_toNat_lt.2 h
        simp [Op.bytesLess, this]
      · have e : d = c := UInt8.toNat_inj.1 h
        subst e
        simp at hs
        rcases ih o hs with h1 | ⟨x, h1, h2⟩
        · left; simp [Op.bytesLess, h1]
        · right
          exact ⟨d :: x, by simp [aft, h1], by simp [Op.bytesLess, h2]⟩
      · right
        have hdc : ¬ d < c := by rw [UInt8.lt_iff_toNat_lt]; omega
        have hne : d ≠ c := fun e => by subst e; omega
        have hc : c ≠ 255 := by
          intro e; subst e
          have h1 : (255 : UInt8).toNat = 255 := rfl
          have := d.toNat_lt
          omega
        cases ha : aft r with
        | some y => exact ⟨c :: y, by simp [aft, ha], by simp [Op.bytesLess, hdc, hne]⟩
        | none =>
          refine ⟨[c + 1], by simp [aft, ha, hc], ?_⟩
          have h1 : ¬ d < c + 1 := by rw [UInt8.lt_iff_toNat_lt, u8_succ hc]; omega
          have h2 : Op.bytesLess o [] = false := by cases o <;> rfl
          simp [Op.bytesLess, h1, h2]

theorem fix_aft : aftAns [97, 98, 255] = ([97, 99], true) := by kernel_rfl

set_option maxHeartbeats 1000000 in
theorem keysAfter_walk (p o : ByteArray) (w : World) (hp : p.size ≤ 140737488351232) (ho : o.size ≤ 140737488351232) :
    Calls Try.prog 5 #[.string p, .string o] w fun e w' => e = .returned (.bool true) ∧ Below w.heap.size w w' := by
  have HU := aft_under p.data.toList o.data.toList
  have HO := aft_outside p.data.toList o.data.toList
  have HU' : Hid (∀ x, startsB o.data.toList p.data.toList = true → aft p.data.toList = some x → Op.bytesLess o.data.toList x = true) := HU
  have HO' : Hid (startsB o.data.toList p.data.toList = false → Op.bytesLess o.data.toList p.data.toList = true ∨ ∃ x, aft p.data.toList = some x ∧ Op.bytesLess o.data.toList x = false) := HO
  clear HU HO
  go_enter Try.func5, Try.ntmps5
  go_wp2_with fail
  refine (after_calls ⟨#[97, 98, 255]⟩ w (by show 3 ≤ _; omega)).mono ?_
  rintro e w1 ⟨rfl, hb1⟩
  rw [show aftAns (⟨#[97, 98, 255]⟩ : ByteArray).data.toList = ([97, 99], true) from fix_aft]
  go_wp2_with fail
  refine (rafter_calls p w1 hp).mono ?_
  rintro e w2 ⟨rfl, hb2⟩
  have hb3 : Below w.heap.size w w2 := hb1.trans (hb2.mono hb1.size)
  go_wp2_with fail
  refine (after_calls p w2 hp).mono ?_
  rintro e w3 ⟨rfl, hb4⟩
  have hb5 : Below w.heap.size w w3 := hb3.trans (hb4.mono hb3.size)
  have hoL : o.toList = o.data.toList := ByteArray.toList_eq o
  have hpL : p.toList = p.data.toList := ByteArray.toList_eq p
  have HOL : Hid (o.toList = o.data.toList) := hoL
  have HPL : Hid (p.toList = p.data.toList) := hpL
  clear hoL hpL
  cases ha : aft p.data.toList with
  | none =>
    have HA : aftAns p.data.toList = ([], false) := by simp [aftAns, ha]
    rw [HA]
    have HAn : Hid (aft p.data.toList = none) := ha
    clear HA ha
    go_wp2_with fail
    refine (starts_calls o p _ (by omega) (by omega)).mono ?_
    rintro e w4 ⟨rfl, rfl⟩
    cases hst : startsB o.data.toList p.data.toList with
    | true =>
      clear hst
      go_wp2
      all_goals go_light
      all_goals go_ret
      all_goals exact ⟨rfl, hb5⟩
    | false =>
      have hl : Op.bytesLess o.toList p.toList = true := by
        rw [HOL.out, HPL.out]
        rcases HO'.out hst with h | ⟨x, h1, _⟩
        · exact h
        · rw [HAn.out] at h1; simp at h1
      clear hst
      go_wp2
      all_goals go_light
      all_goals go_ret
      all_goals exact ⟨by simp, hb5⟩
  | some x =>
    have HA : aftAns p.data.toList = (x, true) := by simp [aftAns, ha]
    rw [HA]
    have HAn : Hid (aft p.data.toList = some x) := ha
    clear HA ha
    go_wp2_with fail
    refine (starts_calls o p _ (by omega) (by omega)).mono ?_
    rintro e w4 ⟨rfl, rfl⟩
    cases hst : startsB o.data.toList p.data.toList with
    | true =>
      have hl : Op.bytesLess o.toList x = true := by rw [HOL.out]; exact HU'.out x hst HAn.out
      clear hst
      go_wp2
      all_goals go_light
      all_goals go_ret
      all_goals exact ⟨by simp, hb5⟩
    | false =>
      have hl := HO'.out hst
      have hl2 : Op.bytesLess o.toList p.toList = true ∨ (Op.bytesLess o.toList p.toList = false ∧ Op.bytesLess o.toList x = false) := by
        rw [HOL.out, HPL.out]
        cases hb : Op.bytesLess o.data.toList p.data.toList with
        | true => exact .inl rfl
        | false =>
          right
          refine ⟨rfl, ?_⟩
          rcases hl with h | ⟨y, h1, h2⟩
          · rw [hb] at h; exact absurd h (by decide)
          · rw [HAn.out] at h1
            simp at h1
            subst h1
            exact h2
      clear hst hl
      rcases hl2 with h1 | ⟨h1, h2⟩
      · go_wp2
        all_goals go_light
        all_goals go_ret
        all_goals exact ⟨by simp, hb5⟩
      · go_wp2
        all_goals go_light
        all_goals go_ret
        all_goals exact ⟨by simp, hb5⟩
end Go.Proofs.Ytehbclliiphglab
