/- Layer 18 (json): strconv.ParseUint of four bytes, base 16, below 128. -/
import Derived.Test.YtelhgjepjieocaaDoorJxNum
namespace Go.Proofs.YtelhgjepjieocaaDoor
open Go.RowKit Go.Sort
set_option linter.unusedVariables false

/-- A hexadecimal digit's number. -/
def hexN (c : Nat) : Option Nat := if 48 ≤ c ∧ c ≤ 57 then some (c - 48) else if 97 ≤ c ∧ c ≤ 102 then some (c - 87) else if 65 ≤ c ∧ c ≤ 70 then some (c - 55) else none
def hexF : Nat → List UInt8 → Option Nat
  | v, [] => some v
  | v, c :: l => match hexN c.toNat with
    | some d => if v * 16 + d ≤ 127 then hexF (v * 16 + d) l else none
    | none => none
/-- What the library's own ParseUint answers. -/
def PuI (w : World) (x : ByteArray) (e : Ending) (w' : World) : Prop := Below w.heap.size w w' ∧
  match hexF 0 x.data.toList with
  | some v => e = .returned (.tuple #[.int .u64 (v : Int), .nilIface])
  | none => ∃ u k, e = .returned (.tuple #[.int .u64 u, .iface 114 (.int .i64 k)]) ∧ (k = 1 ∨ k = 2)
theorem low_or : ∀ c : Fin 256, bits .or .u8 (c.val : Int) 32 = ((c.val ||| 32 : Nat) : Int) := by decide +kernel
theorem lower_calls (c : Nat) (hc : c < 256) (w : World) : Calls Tryd.prog 97 #[.int .u8 (c : Int)] w fun e w' => e = .returned (.int .u8 ((c ||| 32 : Nat) : Int)) ∧ w' = w := by
  have h := Tryd.internal_strconv_lower (c : Int) w
  rw [low_or ⟨c, hc⟩] at h
  exact h
/-- A digit's letter, small. -/
theorem low_hex : ∀ c : Fin 256, ¬ (48 ≤ c.val ∧ c.val ≤ 57) → (hexN c.val = if 97 ≤ (c.val ||| 32) ∧ (c.val ||| 32) ≤ 102 then some ((c.val ||| 32) - 87) else none) := by decide +kernel
theorem low_small : ∀ c : Fin 256, c.val < 48 → (c.val ||| 32) < 97 := by decide +kernel
theorem low_lt : ∀ c : Fin 256, (c.val ||| 32) < 256 := by decide +kernel

set_option maxRecDepth 100000 in
set_option maxHeartbeats 4000000 in
theorem intPU_calls (w : World) (x : ByteArray) (hx : x.size = 4) :
    Calls Tryd.prog 84 #[.string x, .int .i64 16, .int .i64 7] w (PuI w x) := by
  have hemp : x.toList.isEmpty = false := by
    rw [ByteArray.toList_eq]
    have : x.data.toList.length = 4 := by rw [Array.length_toList]; exact hx
    cases h : x.data.toList with
    | nil => rw [h] at this; cases this
    | cons a l => rfl
  have hcv := Lib.run_convert_string_bytes (P := Tryd.prog) w 9 41 5 x Tryd.underlying9 Tryd.underlying41 Tryd.underlying5
  have HCell := fun j hj => Lib.bytesWorld_cell w 5 x j hj
  have hbw := Lib.bytesWorld_below w 5 x
  obtain ⟨W1, HW1⟩ : ∃ W1, Hid (W1 = Lib.bytesWorld w 5 x) := ⟨_, rfl⟩
  rw [← HW1.out] at hcv HCell hbw
  have HB : Hid (Below w.heap.size w W1) := hbw
  have HC : Hid (∀ j, j < 4 → W1.cell? ⟨w.heap.size, j, none⟩ = some (.int .u8 ((x.data.toList.getD j 0).toNat : Int))) := fun j hj => HCell j (by omega)
  have HL : Hid (x.data.toList.length = 4) := by rw [Hid, Array.length_toList]; exact hx
  rw [hx] at hcv
  obtain ⟨cp, Hcp⟩ : ∃ cp, Hid (cp = grownCap w 4 0 5) := ⟨_, rfl⟩
  rw [← Hcp.out] at hcv
  clear HCell hbw HW1 Hcp
  go_enter Tryd.func84, Tryd.ntmps84
  go_wp2_with fail
  clear hcv hemp
  obtain ⟨g, Hg⟩ : ∃ g, Hid (g = w.heap.size) := ⟨_, rfl⟩
  rw [← Hg.out]
  go_loopw [12, 13, 101] (fun u v i wr => ∃ (k n : Nat), k ≤ 4 ∧ u = .bool false ∧ v = .int .u64 (n : Int) ∧ n ≤ 127 ∧ i = .int .i64 (k : Int) ∧ wr = W1 ∧ Hid (hexF 0 x.data.toList = hexF n (x.data.toList.drop k))) (fun _ _ i _ => 4 - (intOf i).toNat)
  case atStart => exact ⟨0, 0, by omega, rfl, rfl, by omega, rfl, rfl, rfl⟩
  case round =>
    obtain ⟨k, n, hk, rfl, rfl, hn, rfl, rfl, HF⟩ := hrel
    by_cases hlt : k < 4
    · have hkl : k < x.data.toList.length := by rw [HL.out]; exact hlt
      obtain ⟨c, Hc⟩ : ∃ c, Hid (c = ((x.data.toList)[k]'hkl).toNat) := ⟨((x.data.toList)[k]'hkl).toNat, rfl⟩
      have hc256 : c < 256 := by rw [Hc.out]; exact UInt8.toNat_lt _
      have hcell := HC.out k hlt
      rw [← Hg.out, List.getD_eq_getElem?_getD, List.getElem?_eq_getElem hkl] at hcell
      simp only [Option.getD_some] at hcell
      rw [← Hc.out] at hcell
      have HS : Hid (hexF 0 x.data.toList = match hexN c with
        | some d => if n * 16 + d ≤ 127 then hexF (n * 16 + d) (x.data.toList.drop (k + 1)) else none
        | none => none) := by
        rw [Hid, HF.out, List.drop_eq_getElem_cons hkl, Hc.out]
        rfl
      clear HF Hc
      by_cases hd : 48 ≤ c ∧ c ≤ 57
      · obtain ⟨d1, d2⟩ := hd
        obtain ⟨d, rfl⟩ : ∃ d, c = d + 48 := ⟨c - 48, by omega⟩
        have hS := HS.out
        have hh : hexN (d + 48) = some d := by unfold hexN; rw [if_pos ⟨d1, d2⟩]; simp
        rw [hh] at hS
        simp only at hS
        have q95 : ((d : Int) + 48 == 95) = false := by simp; omega
        have hd9 : d ≤ 9 := by omega
        have hcut : ¬ ((1152921504606846976 : Int) ≤ (n : Int)) := by omega
        by_cases hm : n * 16 + d ≤ 127
        · have HN : Hid (hexF 0 x.data.toList = hexF (n * 16 + d) (x.data.toList.drop (k + 1))) := by rw [Hid, hS, if_pos hm]
          clear hS HS
          go_wp2
          go_roundw
          case rel => exact ⟨k + 1, n * 16 + d, by omega, by first | rfl | trivial, by go_num, by omega, by go_num, by first | rfl | trivial, HN⟩
          case measure => simp [intOf]; omega
        · have HN : Hid (hexF 0 x.data.toList = none) := by rw [Hid, hS, if_neg hm]
          clear hS HS
          go_wp2
          go_ret2
          exact ⟨HB.out, by rw [HN.out]; exact ⟨127, 1, rfl, .inl rfl⟩⟩
      · have HX := low_hex ⟨c, hc256⟩ hd
        have hl256 := low_lt ⟨c, hc256⟩
        have hls := low_small ⟨c, hc256⟩
        simp only at HX hl256 hls
        have HLW : Hid (∀ W, Calls Tryd.prog 97 #[.int .u8 (c : Int)] W fun e w' => e = .returned (.int .u8 ((c ||| 32 : Nat) : Int)) ∧ w' = W) := fun W => lower_calls c hc256 W
        have h95 : c = 95 → (c ||| 32) = 127 := fun e => by rw [e]; rfl
        obtain ⟨lc, Hlc⟩ : ∃ lc, Hid (lc = (c ||| 32)) := ⟨_, rfl⟩
        rw [← Hlc.out] at HX hl256 hls HLW h95
        clear Hlc
        have hS := HS.out
        by_cases l97 : 97 ≤ lc
        · have c57 : ¬ c < 48 := fun h => by have := hls h; omega
          have c58 : ¬ c ≤ 57 := fun h => hd ⟨by omega, h⟩
          have c48 : 48 ≤ c := by omega
          by_cases l122 : lc ≤ 122
          · have q95 : ((c : Int) == 95) = false := by
              have : c ≠ 95 := fun e => by have := h95 e; omega
              simp; omega
            clear hls h95 hd
            by_cases l102 : lc ≤ 102
            · rw [HX, if_pos ⟨l97, l102⟩] at hS
              simp only at hS
              by_cases hm : n * 16 + (lc - 87) ≤ 127
              · have HN : Hid (hexF 0 x.data.toList = hexF (n * 16 + (lc - 87)) (x.data.toList.drop (k + 1))) := by rw [Hid, hS, if_pos hm]
                have i97 : (97 : Int) ≤ (lc : Int) := by omega
                have i122 : (lc : Int) ≤ 122 := by omega
                have i48 : (48 : Int) ≤ (c : Int) := by omega
                have i57 : ¬ (c : Int) ≤ 57 := by omega
                have HQ : Hid (97 ≤ lc ∧ lc ≤ 102 ∧ n * 16 + (lc - 87) ≤ 127 ∨ ¬ n * 16 + (lc - 87) ≤ 127) := by rw [Hid]; omega
                clear hS HS HX l97 l122 c48 c57 c58 hl256 hc256
                go_wp2_with fail
                refine (HLW.out _).mono ?_
                rintro e w' ⟨rfl, rfl⟩
                go_wp2_with fail
                refine (HLW.out _).mono ?_
                rintro e w' ⟨rfl, rfl⟩
                go_wp2_with fail
                refine (HLW.out _).mono ?_
                rintro e w' ⟨rfl, rfl⟩
                go_upto_region 46 with fail
                obtain ⟨d, Hd⟩ : ∃ d : Nat, Hid ((lc : Int) - 97 + 10 = (d : Int) ∧ lc - 87 = d) := ⟨lc - 87, by rw [Hid]; omega⟩
                rw [Hd.out.1]
                rw [Hd.out.2] at HN hm
                have d15 : d ≤ 15 := by have := Hd.out; omega
                clear i97 i122 i48 i57 HQ l102 q95
                go_upto_region 48 with fail
                have hcut : ¬ ((1152921504606846976 : Int) ≤ (n : Int)) := by omega
                go_upto_region 50 with fail
                clear hcut
                go_wp2
                go_roundw
                case rel => exact ⟨k + 1, n * 16 + d, by omega, by first | rfl | trivial, by go_num, by omega, by go_num, by first | rfl | trivial, HN⟩
                case measure => simp [intOf]; omega
              · have HN : Hid (hexF 0 x.data.toList = none) := by rw [Hid, hS, if_neg hm]
                have i97 : (97 : Int) ≤ (lc : Int) := by omega
                have i122 : (lc : Int) ≤ 122 := by omega
                have i48 : (48 : Int) ≤ (c : Int) := by omega
                have i57 : ¬ (c : Int) ≤ 57 := by omega
                have HQ : Hid (97 ≤ lc ∧ lc ≤ 102 ∧ n * 16 + (lc - 87) ≤ 127 ∨ ¬ n * 16 + (lc - 87) ≤ 127) := by rw [Hid]; omega
                clear hS HS HX l97 l122 c48 c57 c58 hl256 hc256
                go_wp2_with fail
                refine (HLW.out _).mono ?_
                rintro e w' ⟨rfl, rfl⟩
                go_wp2_with fail
                refine (HLW.out _).mono ?_
                rintro e w' ⟨rfl, rfl⟩
                go_wp2_with fail
                refine (HLW.out _).mono ?_
                rintro e w' ⟨rfl, rfl⟩
                go_upto_region 46 with fail
                obtain ⟨d, Hd⟩ : ∃ d : Nat, Hid ((lc : Int) - 97 + 10 = (d : Int) ∧ lc - 87 = d) := ⟨lc - 87, by rw [Hid]; omega⟩
                rw [Hd.out.1]
                rw [Hd.out.2] at hm
                have d15 : d ≤ 15 := by have := Hd.out; omega
                clear i97 i122 i48 i57 HQ l102 q95
                go_upto_region 48 with fail
                have hcut : ¬ ((1152921504606846976 : Int) ≤ (n : Int)) := by omega
                go_upto_region 50 with fail
                clear hcut
                go_wp2
                go_ret2
                exact ⟨HB.out, by rw [HN.out]; exact ⟨127, 1, rfl, .inl rfl⟩⟩
            · rw [HX, if_neg (fun h => l102 h.2)] at hS
              have HN : Hid (hexF 0 x.data.toList = none) := hS
              have i97 : (97 : Int) ≤ (lc : Int) := by omega
              have i122 : (lc : Int) ≤ 122 := by omega
              have i48 : (48 : Int) ≤ (c : Int) := by omega
              have i57 : ¬ (c : Int) ≤ 57 := by omega
              have i102 : (103 : Int) ≤ (lc : Int) := by omega
              clear hS HS HX l97 l122 c48 c57 c58 hl256 hc256 l102
              go_wp2_with fail
              refine (HLW.out _).mono ?_
              rintro e w' ⟨rfl, rfl⟩
              go_wp2_with fail
              refine (HLW.out _).mono ?_
              rintro e w' ⟨rfl, rfl⟩
              go_wp2_with fail
              refine (HLW.out _).mono ?_
              rintro e w' ⟨rfl, rfl⟩
              go_wp2
              go_ret2
              exact ⟨HB.out, by rw [HN.out]; exact ⟨0, 2, rfl, .inr rfl⟩⟩
          · rw [HX, if_neg (fun h => l122 (by omega))] at hS
            have HN : Hid (hexF 0 x.data.toList = none) := hS
            clear hS HS HX hls h95 hd
            cases q95 : ((c : Int) == 95)
            all_goals
              go_wp2_with fail
              refine (HLW.out _).mono ?_
              rintro e w' ⟨rfl, rfl⟩
              go_wp2_with fail
              refine (HLW.out _).mono ?_
              rintro e w' ⟨rfl, rfl⟩
              go_wp2
              go_ret2
              exact ⟨HB.out, by rw [HN.out]; exact ⟨0, 2, rfl, .inr rfl⟩⟩
        · rw [HX, if_neg (fun h => l97 h.1)] at hS
          have HN : Hid (hexF 0 x.data.toList = none) := hS
          have q95 : ((c : Int) == 95) = false := by
            have : c ≠ 95 := fun e => by have := h95 e; omega
            simp; omega
          clear hS HS HX hls h95
          by_cases c48 : 48 ≤ c
          · have c58 : ¬ c ≤ 57 := fun h => hd ⟨c48, h⟩
            clear hd
            go_wp2_with fail
            refine (HLW.out _).mono ?_
            rintro e w' ⟨rfl, rfl⟩
            go_wp2
            go_ret2
            exact ⟨HB.out, by rw [HN.out]; exact ⟨0, 2, rfl, .inr rfl⟩⟩
          · clear hd
            go_wp2_with fail
            refine (HLW.out _).mono ?_
            rintro e w' ⟨rfl, rfl⟩
            go_wp2
            go_ret2
            exact ⟨HB.out, by rw [HN.out]; exact ⟨0, 2, rfl, .inr rfl⟩⟩
    · have HN : Hid (hexF 0 x.data.toList = some n) := by
        rw [Hid, HF.out, List.drop_of_length_le (by rw [HL.out]; omega)]; rfl
      clear HF
      go_wp2
      go_ret2
      exact ⟨HB.out, by rw [HN.out]; rfl⟩
end Go.Proofs.YtelhgjepjieocaaDoor
