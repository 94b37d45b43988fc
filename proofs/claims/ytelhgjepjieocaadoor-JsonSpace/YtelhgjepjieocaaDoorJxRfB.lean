/- Layer 18 (json): the document's char. -/
import Derived.Test.YtelhgjepjieocaaDoorJxRfA
namespace Go.Proofs.YtelhgjepjieocaaDoor
open Go.RowKit Go.Sort
set_option linter.unusedVariables false
/-- The number of hexadecimal digits, however great. -/
def hexG : Nat → List UInt8 → Option Nat
  | v, [] => some v
  | v, c :: l => match hexN c.toNat with
    | some d => hexG (v * 16 + d) l
    | none => none
theorem hexG_ge : ∀ (l : List UInt8) (v m : Nat), hexG v l = some m → v ≤ m
  | [], v, m, h => by cases h; exact Nat.le_refl _
  | c :: l, v, m, h => by
    unfold hexG at h
    split at h
    · have := hexG_ge l _ m h; omega
    · cases h
theorem hexF_G : ∀ (l : List UInt8) (v : Nat), v ≤ 127 → hexF v l = (hexG v l).bind fun m => if m ≤ 127 then some m else none
  | [], v, h => by simp [hexF, hexG, h]
  | c :: l, v, h => by
    unfold hexF hexG
    cases hexN c.toNat with
    | none => rfl
    | some d =>
      simp only []
      by_cases hb : v * 16 + d ≤ 127
      · rw [if_pos hb]; exact hexF_G l _ hb
      · rw [if_neg hb]
        cases hg : hexG (v * 16 + d) l with
        | none => rfl
        | some m =>
          have := hexG_ge l _ m hg
          simp only [Option.bind_some]
          rw [if_neg (by omega)]
/-- What the document's steps that yield a byte answer: the byte and the place behind; or none. -/
def RcR (w : World) (s : ByteArray) (r : Option (Nat × List UInt8)) (e : Ending) (w' : World) : Prop := Below w.heap.size w w' ∧ match r with
  | some (c, l) => ∃ m : Nat, e = .returned (.tuple #[.int .u8 (c : Int), .int .i64 (m : Int)]) ∧ m ≤ s.size ∧ tl s m = l
  | none => e = .returned (.tuple #[.int .u8 0, .int .i64 (-1)])
set_option maxRecDepth 100000 in
set_option maxHeartbeats 8000000 in
theorem refEsc_calls (s : ByteArray) (n : Nat) (w : World) (hlt : n < s.size) (hlt2 : n + 1 < s.size) (hs : s.size ≤ 1048576) (q34 : ((s[n].toNat : Int) == 34) = false) (q92 : ((s[n].toNat : Int) == 92) = true) (l32 : ¬ ((s[n].toNat : Int) < 32)) :
    Calls Tryd.prog 55 #[.string s, .int .i64 (n : Int)] w (RcR w s (escP (tl s (n + 1)))) := by
  have i2 : ¬ ((s.size : Int) ≤ (n : Int) + 1) := by omega
  by_cases h117 : s[n + 1].toNat = 117
  · have HE : Hid (escP (tl s (n + 1)) = hex4P (tl s (n + 2))) := by rw [Hid, escP_u (by rw [tl_hd hlt2, h117]), tl_tail hlt2]
    rw [HE.out]
    clear HE
    have e34 : ((s[n + 1].toNat : Int) == 34) = false := by rw [h117]; rfl
    have e92 : ((s[n + 1].toNat : Int) == 92) = false := by rw [h117]; rfl
    have e47 : ((s[n + 1].toNat : Int) == 47) = false := by rw [h117]; rfl
    have e98 : ((s[n + 1].toNat : Int) == 98) = false := by rw [h117]; rfl
    have e102 : ((s[n + 1].toNat : Int) == 102) = false := by rw [h117]; rfl
    have e110 : ((s[n + 1].toNat : Int) == 110) = false := by rw [h117]; rfl
    have e114 : ((s[n + 1].toNat : Int) == 114) = false := by rw [h117]; rfl
    have e116 : ((s[n + 1].toNat : Int) == 116) = false := by rw [h117]; rfl
    have e117 : ((s[n + 1].toNat : Int) == 117) = true := by rw [h117]; rfl
    clear h117
    by_cases h6 : n + 6 ≤ s.size
    · have i6 : ¬ ((s.size : Int) < (n : Int) + 6) := by omega
      obtain ⟨L, HL⟩ : ∃ L : List UInt8, Hid (L = (tl s (n + 2)).take 4 ∧ L.length = 4) := ⟨(tl s (n + 2)).take 4, rfl, by rw [List.length_take, tl_length]; omega⟩
      obtain ⟨R, HR⟩ : ∃ R : Option Nat, Hid (R = hexG 0 L ∧ hex4P (tl s (n + 2)) = (R.bind fun m => if m ≤ 127 then some m else none).map fun v => (v, tl s (n + 6))) := ⟨hexG 0 L, rfl, by
        unfold hex4P
        rw [if_pos (by rw [tl_length]; omega), ← HL.out.1, hexF_G L 0 (by omega)]
        have : (tl s (n + 2)).drop 4 = tl s (n + 6) := by unfold tl; rw [List.drop_drop]
        rw [this]⟩
      rw [HR.out.2]
      obtain ⟨Z, HZ⟩ : ∃ Z : Option (Nat × List UInt8), Hid (Z = (R.bind fun m => if m ≤ 127 then some m else none).map fun v => (v, tl s (n + 6))) := ⟨(R.bind fun m => if m ≤ 127 then some m else none).map fun v => (v, tl s (n + 6)), (Eq.refl _ : ((R.bind fun m => if m ≤ 127 then some m else none).map fun v => (v, tl s (n + 6))) = _)⟩
      rw [← HZ.out]
      go_enter Tryd.func55, Tryd.ntmps55
      go_wp2
      go_loopw [6, 7, 8] (fun x i y wr => ∃ (k a : Nat), k ≤ 4 ∧ i = .int .i64 ((n + 2 + k : Nat) : Int) ∧ x = .int .i64 (a : Int) ∧ a + 1 ≤ 16 ^ k ∧ Hid (hexG a (L.drop k) = R ∧ Below w.heap.size w wr)) (fun _ i _ _ => n + 6 - (intOf i).toNat)
      case atStart => exact ⟨0, 0, by omega, by go_num, rfl, by simp, HR.out.1.symm, Below.refl _ _⟩
      case round =>
        obtain ⟨k, a, hk, rfl, rfl, ha, HI⟩ := hrel
        have HB := HI.out.2
        by_cases h4 : k < 4
        · have hlk : n + 2 + k < s.size := by omega
          have hkL : k < L.length := by rw [HL.out.2]; exact h4
          have hLk : L[k]'hkL = s[n + 2 + k] := by
            have : L[k]? = some s[n + 2 + k] := by
              rw [HL.out.1, List.getElem?_take, if_pos h4]
              unfold tl
              rw [List.getElem?_drop]
              simp
              exact Array.getElem?_eq_getElem hlk
            rw [List.getElem?_eq_getElem hkL] at this
            exact Option.some.inj this
          have h1 := HI.out.1
          rw [List.drop_eq_getElem_cons hkL, hLk] at h1
          have i1 : ((n + 2 + k : Nat) : Int) < (n : Int) + 6 := by omega
          have h16 : 16 ^ k ≤ 16 ^ 3 := Nat.pow_le_pow_right (by omega) (by omega)
          cases hd : hexN s[n + 2 + k].toNat with
          | none =>
            have HN : Hid (Z = none) := by
              have : R = none := by rw [← h1]; unfold hexG; rw [hd]
              rw [Hid, HZ.out, this]; rfl
            have HH := refHex_calls s[n + 2 + k].toNat wr s[n + 2 + k].toNat_lt
            rw [hd] at HH
            clear h1 hd HI hLk
            go_wp2_with fail
            refine HH.mono ?_
            rintro e w5 ⟨rfl, rfl⟩
            go_wp2
            go_ret2
            rw [HN.out]
            exact ⟨HB, rfl⟩
          | some d =>
            have hdd : d < 16 := by unfold hexN at hd; repeat' split at hd
                                    all_goals first | (cases hd; omega) | (cases hd)
            have hst : hexG a (s[n + 2 + k] :: L.drop (k + 1)) = hexG (a * 16 + d) (L.drop (k + 1)) := by
              conv => lhs; unfold hexG
              rw [hd]
            have HN : Hid (hexG (a * 16 + d) (L.drop (k + 1)) = R ∧ Below w.heap.size w wr) := ⟨by rw [← h1, hst], HB⟩
            clear hst
            have HH := refHex_calls s[n + 2 + k].toNat wr s[n + 2 + k].toNat_lt
            rw [hd] at HH
            simp only [] at HH
            have h16' : a * 16 + d + 1 ≤ 16 ^ (k + 1) := by rw [Nat.pow_succ]; omega
            have ha2 : a ≤ 4095 := by omega
            clear h1 hd HI hLk h16 ha
            have i0 : ¬ ((d : Int) < 0) := by omega
            go_wp2_with fail
            refine HH.mono ?_
            rintro e w5 ⟨rfl, rfl⟩
            go_wp2
            go_roundw
            case rel => exact ⟨k + 1, a * 16 + d, by omega, by go_num, by go_num, h16', HN⟩
            case measure => simp [intOf]; omega
        · have hk4 : k = 4 := by omega
          subst hk4
          have HN : Hid (Z = ((some a).bind fun m => if m ≤ 127 then some m else none).map fun v => (v, tl s (n + 6))) := by
            have h1 := HI.out.1
            rw [List.drop_of_length_le (by rw [HL.out.2]; exact Nat.le_refl _)] at h1
            have h1 : some a = R := h1
            rw [Hid, HZ.out, ← h1]
          have ha2 : a ≤ 65535 := by have : (16 : Nat) ^ 4 = 65536 := rfl; omega
          have i1 : ¬ (((n + 2 + 4 : Nat) : Int) < (n : Int) + 6) := by omega
          clear HI ha
          by_cases h128 : a ≤ 127
          · have i2 : ((a : Int) < 128) := by omega
            have HM : Hid (((some a).bind fun m => if m ≤ 127 then some m else none).map (fun v => (v, tl s (n + 6))) = some (a, tl s (n + 6))) := by simp [Hid, h128]
            clear h128
            go_wp2
            go_ret2
            rw [HN.out, HM.out]
            exact ⟨HB, n + 6, rfl, h6, rfl⟩
          · have i2 : ¬ ((a : Int) < 128) := by omega
            have HM : Hid (((some a).bind fun m => if m ≤ 127 then some m else none).map (fun v => (v, tl s (n + 6))) = none) := by simp [Hid, h128]
            clear h128
            go_wp2
            go_ret2
            rw [HN.out, HM.out]
            exact ⟨HB, rfl⟩
    · have HN : Hid (hex4P (tl s (n + 2)) = none) := by rw [Hid]; unfold hex4P; rw [if_neg (by rw [tl_length]; omega)]
      rw [HN.out]
      have i6 : ((s.size : Int) < (n : Int) + 6) := by omega
      clear HN h6
      go_enter Tryd.func55, Tryd.ntmps55
      go_wp2
      go_ret2
      exact ⟨Below.refl _ _, rfl⟩
  · have HE : Hid (escP (tl s (n + 1)) = (escV s[n + 1].toNat).map fun v => (v, tl s (n + 2))) := by rw [Hid, escP_tail (tl_hd hlt2) h117, tl_tail hlt2]
    rw [HE.out]
    clear HE
    by_cases h34 : s[n + 1].toNat = 34
    · have HV : Hid (escV s[n + 1].toNat = some 34) := by rw [h34]; rfl
      rw [HV.out]
      have e34 : ((s[n + 1].toNat : Int) == 34) = true := by rw [h34]; rfl
      have HX : Hid ((s[n + 1].toNat : Int) = 34) := by rw [Hid, h34]; rfl
      clear HV h117 h34
      go_enter Tryd.func55, Tryd.ntmps55
      go_wp2
      go_ret2
      exact ⟨Below.refl _ _, n + 2, by show Ending.returned (.tuple #[.int .u8 (s[n + 1].toNat : Int), _]) = _; rw [HX.out]; rfl, by omega, rfl⟩
    by_cases h92 : s[n + 1].toNat = 92
    · have HV : Hid (escV s[n + 1].toNat = some 92) := by rw [h92]; rfl
      rw [HV.out]
      have e34 : ((s[n + 1].toNat : Int) == 34) = false := by rw [h92]; rfl
      have e92 : ((s[n + 1].toNat : Int) == 92) = true := by rw [h92]; rfl
      have HX : Hid ((s[n + 1].toNat : Int) = 92) := by rw [Hid, h92]; rfl
      clear HV h117 h34 h92
      go_enter Tryd.func55, Tryd.ntmps55
      go_wp2
      go_ret2
      exact ⟨Below.refl _ _, n + 2, by show Ending.returned (.tuple #[.int .u8 (s[n + 1].toNat : Int), _]) = _; rw [HX.out]; rfl, by omega, rfl⟩
    by_cases h47 : s[n + 1].toNat = 47
    · have HV : Hid (escV s[n + 1].toNat = some 47) := by rw [h47]; rfl
      rw [HV.out]
      have e34 : ((s[n + 1].toNat : Int) == 34) = false := by rw [h47]; rfl
      have e92 : ((s[n + 1].toNat : Int) == 92) = false := by rw [h47]; rfl
      have e47 : ((s[n + 1].toNat : Int) == 47) = true := by rw [h47]; rfl
      have HX : Hid ((s[n + 1].toNat : Int) = 47) := by rw [Hid, h47]; rfl
      clear HV h117 h34 h92 h47
      go_enter Tryd.func55, Tryd.ntmps55
      go_wp2
      go_ret2
      exact ⟨Below.refl _ _, n + 2, by show Ending.returned (.tuple #[.int .u8 (s[n + 1].toNat : Int), _]) = _; rw [HX.out]; rfl, by omega, rfl⟩
    by_cases h98 : s[n + 1].toNat = 98
    · have HV : Hid (escV s[n + 1].toNat = some 8) := by rw [h98]; rfl
      rw [HV.out]
      have e34 : ((s[n + 1].toNat : Int) == 34) = false := by rw [h98]; rfl
      have e92 : ((s[n + 1].toNat : Int) == 92) = false := by rw [h98]; rfl
      have e47 : ((s[n + 1].toNat : Int) == 47) = false := by rw [h98]; rfl
      have e98 : ((s[n + 1].toNat : Int) == 98) = true := by rw [h98]; rfl
      clear HV h117 h34 h92 h47 h98
      go_enter Tryd.func55, Tryd.ntmps55
      go_wp2
      go_ret2
      exact ⟨Below.refl _ _, n + 2, rfl, by omega, rfl⟩
    by_cases h102 : s[n + 1].toNat = 102
    · have HV : Hid (escV s[n + 1].toNat = some 12) := by rw [h102]; rfl
      rw [HV.out]
      have e34 : ((s[n + 1].toNat : Int) == 34) = false := by rw [h102]; rfl
      have e92 : ((s[n + 1].toNat : Int) == 92) = false := by rw [h102]; rfl
      have e47 : ((s[n + 1].toNat : Int) == 47) = false := by rw [h102]; rfl
      have e98 : ((s[n + 1].toNat : Int) == 98) = false := by rw [h102]; rfl
      have e102 : ((s[n + 1].toNat : Int) == 102) = true := by rw [h102]; rfl
      clear HV h117 h34 h92 h47 h98 h102
      go_enter Tryd.func55, Tryd.ntmps55
      go_wp2
      go_ret2
      exact ⟨Below.refl _ _, n + 2, rfl, by omega, rfl⟩
    by_cases h110 : s[n + 1].toNat = 110
    · have HV : Hid (escV s[n + 1].toNat = some 10) := by rw [h110]; rfl
      rw [HV.out]
      have e34 : ((s[n + 1].toNat : Int) == 34) = false := by rw [h110]; rfl
      have e92 : ((s[n + 1].toNat : Int) == 92) = false := by rw [h110]; rfl
      have e47 : ((s[n + 1].toNat : Int) == 47) = false := by rw [h110]; rfl
      have e98 : ((s[n + 1].toNat : Int) == 98) = false := by rw [h110]; rfl
      have e102 : ((s[n + 1].toNat : Int) == 102) = false := by rw [h110]; rfl
      have e110 : ((s[n + 1].toNat : Int) == 110) = true := by rw [h110]; rfl
      clear HV h117 h34 h92 h47 h98 h102 h110
      go_enter Tryd.func55, Tryd.ntmps55
      go_wp2
      go_ret2
      exact ⟨Below.refl _ _, n + 2, rfl, by omega, rfl⟩
    by_cases h114 : s[n + 1].toNat = 114
    · have HV : Hid (escV s[n + 1].toNat = some 13) := by rw [h114]; rfl
      rw [HV.out]
      have e34 : ((s[n + 1].toNat : Int) == 34) = false := by rw [h114]; rfl
      have e92 : ((s[n + 1].toNat : Int) == 92) = false := by rw [h114]; rfl
      have e47 : ((s[n + 1].toNat : Int) == 47) = false := by rw [h114]; rfl
      have e98 : ((s[n + 1].toNat : Int) == 98) = false := by rw [h114]; rfl
      have e102 : ((s[n + 1].toNat : Int) == 102) = false := by rw [h114]; rfl
      have e110 : ((s[n + 1].toNat : Int) == 110) = false := by rw [h114]; rfl
      have e114 : ((s[n + 1].toNat : Int) == 114) = true := by rw [h114]; rfl
      clear HV h117 h34 h92 h47 h98 h102 h110 h114
      go_enter Tryd.func55, Tryd.ntmps55
      go_wp2
      go_ret2
      exact ⟨Below.refl _ _, n + 2, rfl, by omega, rfl⟩
    by_cases h116 : s[n + 1].toNat = 116
    · have HV : Hid (escV s[n + 1].toNat = some 9) := by rw [h116]; rfl
      rw [HV.out]
      have e34 : ((s[n + 1].toNat : Int) == 34) = false := by rw [h116]; rfl
      have e92 : ((s[n + 1].toNat : Int) == 92) = false := by rw [h116]; rfl
      have e47 : ((s[n + 1].toNat : Int) == 47) = false := by rw [h116]; rfl
      have e98 : ((s[n + 1].toNat : Int) == 98) = false := by rw [h116]; rfl
      have e102 : ((s[n + 1].toNat : Int) == 102) = false := by rw [h116]; rfl
      have e110 : ((s[n + 1].toNat : Int) == 110) = false := by rw [h116]; rfl
      have e114 : ((s[n + 1].toNat : Int) == 114) = false := by rw [h116]; rfl
      have e116 : ((s[n + 1].toNat : Int) == 116) = true := by rw [h116]; rfl
      clear HV h117 h34 h92 h47 h98 h102 h110 h114 h116
      go_enter Tryd.func55, Tryd.ntmps55
      go_wp2
      go_ret2
      exact ⟨Below.refl _ _, n + 2, rfl, by omega, rfl⟩
    have HV : Hid (escV s[n + 1].toNat = none) := by rw [Hid]; unfold escV; simp only [h34, h92, h47, h98, h102, h110, h114, h116, if_false]
    rw [HV.out]
    have e34 : ((s[n + 1].toNat : Int) == 34) = false := by simp; omega
    have e92 : ((s[n + 1].toNat : Int) == 92) = false := by simp; omega
    have e47 : ((s[n + 1].toNat : Int) == 47) = false := by simp; omega
    have e98 : ((s[n + 1].toNat : Int) == 98) = false := by simp; omega
    have e102 : ((s[n + 1].toNat : Int) == 102) = false := by simp; omega
    have e110 : ((s[n + 1].toNat : Int) == 110) = false := by simp; omega
    have e114 : ((s[n + 1].toNat : Int) == 114) = false := by simp; omega
    have e116 : ((s[n + 1].toNat : Int) == 116) = false := by simp; omega
    have e117 : ((s[n + 1].toNat : Int) == 117) = false := by simp; omega
    clear HV h117 h34 h92 h47 h98 h102 h110 h114 h116
    go_enter Tryd.func55, Tryd.ntmps55
    go_wp2
    go_ret2
    exact ⟨Below.refl _ _, rfl⟩
set_option maxRecDepth 100000 in
set_option maxHeartbeats 4000000 in
theorem refChar_calls (s : ByteArray) (n : Nat) (w : World) (hn : n ≤ s.size) (hs : s.size ≤ 1048576) (h34 : hdN (tl s n) ≠ some 34) :
    Calls Tryd.prog 55 #[.string s, .int .i64 (n : Int)] w (RcR w s (charP (tl s n))) := by
  by_cases hlt : n < s.size
  · have hne34 : s[n].toNat ≠ 34 := fun e => h34 (by rw [tl_hd hlt, e])
    have q34 : ((s[n].toNat : Int) == 34) = false := by simp; omega
    by_cases h92 : s[n].toNat = 92
    · have q92 : ((s[n].toNat : Int) == 92) = true := by rw [h92]; rfl
      have l32 : ¬ ((s[n].toNat : Int) < 32) := by omega
      have HE : Hid (charP (tl s n) = escP (tl s (n + 1))) := by rw [Hid, tl_cons hlt]; show (if s[n].toNat = 92 then _ else _) = _; rw [if_pos h92]
      rw [HE.out]
      clear HE hne34 h34 h92
      by_cases hlt2 : n + 1 < s.size
      · have i2 : ¬ ((s.size : Int) ≤ (n : Int) + 1) := by omega
        exact refEsc_calls s n w hlt hlt2 hs q34 q92 l32
      · have HN : Hid (escP (tl s (n + 1)) = none) := by rw [Hid, tl_nil (by omega)]; rfl
        rw [HN.out]
        have i2 : ((s.size : Int) ≤ (n : Int) + 1) := by omega
        clear hlt2 HN
        go_enter Tryd.func55, Tryd.ntmps55
        go_wp2
        go_ret2
        exact ⟨Below.refl _ _, rfl⟩
    · have q92 : ((s[n].toNat : Int) == 92) = false := by simp; omega
      by_cases h32 : s[n].toNat < 32
      · have l32 : ((s[n].toNat : Int) < 32) := by omega
        have HE : Hid (charP (tl s n) = none) := by rw [Hid, tl_cons hlt]; show (if s[n].toNat = 92 then _ else _) = _; rw [if_neg h92, if_pos h32]
        rw [HE.out]
        clear HE hne34 h34 h92 h32
        go_enter Tryd.func55, Tryd.ntmps55
        go_wp2
        go_ret2
        exact ⟨Below.refl _ _, rfl⟩
      · have l32 : ¬ ((s[n].toNat : Int) < 32) := by omega
        have HE : Hid (charP (tl s n) = some (s[n].toNat, tl s (n + 1))) := by rw [Hid, tl_cons hlt]; show (if s[n].toNat = 92 then _ else _) = _; rw [if_neg h92, if_neg h32]
        rw [HE.out]
        clear HE hne34 h34 h92 h32
        go_enter Tryd.func55, Tryd.ntmps55
        go_wp2
        go_ret2
        exact ⟨Below.refl _ _, n + 1, rfl, by omega, rfl⟩
  · have HE : Hid (charP (tl s n) = none) := by rw [Hid, tl_nil (by omega)]; rfl
    rw [HE.out]
    clear HE h34
    go_enter Tryd.func55, Tryd.ntmps55
    go_wp2
    go_ret2
    exact ⟨Below.refl _ _, rfl⟩
end Go.Proofs.YtelhgjepjieocaaDoor
