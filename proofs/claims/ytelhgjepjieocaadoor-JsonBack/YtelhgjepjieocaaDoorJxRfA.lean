/- Layer 18 (json): the document's Space, hex. -/
import Derived.Test.YtelhgjepjieocaaDoorJxPrint
namespace Go.Proofs.YtelhgjepjieocaaDoor
open Go.RowKit Go.Sort
set_option linter.unusedVariables false

theorem tl_hd {s : ByteArray} {n : Nat} (h : n < s.size) : hdN (tl s n) = some s[n].toNat := by rw [tl_cons h]; rfl
theorem tl_hd0 {s : ByteArray} {n : Nat} (h : ¬ n < s.size) : hdN (tl s n) = none := by rw [tl_nil (by omega)]; rfl
theorem tl_tail {s : ByteArray} {n : Nat} (h : n < s.size) : (tl s n).tail = tl s (n + 1) := by rw [tl_cons h]; rfl
set_option maxRecDepth 100000 in
set_option maxHeartbeats 4000000 in
theorem refSpace_calls (s : ByteArray) (n : Nat) (w : World) (hn : n ≤ s.size) (hs : s.size ≤ 1048576) :
    Calls Tryd.prog 26 #[.string s, .int .i64 (n : Int)] w (fun e w' => Below w.heap.size w w' ∧ ∃ m : Nat, e = .returned (.int .i64 (m : Int)) ∧ m ≤ s.size ∧ tl s m = spL (tl s n)) := by
  obtain ⟨L, HL⟩ : ∃ L : List UInt8, Hid (L = spL (tl s n)) := ⟨spL (tl s n), (Eq.refl _ : spL (tl s n) = _)⟩
  have HI : Hid (spL (tl s n) = L ∧ Below w.heap.size w w) := ⟨HL.out.symm, Below.refl _ _⟩
  rw [← HL.out]
  clear HL
  go_enter Tryd.func26, Tryd.ntmps26
  go_wp2
  go_loopw [1] (fun i wr => ∃ k : Nat, k ≤ s.size ∧ i = .int .i64 (k : Int) ∧ Hid (spL (tl s k) = L ∧ Below w.heap.size w wr)) (fun i _ => s.size - (intOf i).toNat)
  case atStart => exact ⟨n, hn, rfl, HI⟩
  case round =>
    clear HI
    obtain ⟨k, hk, rfl, HI⟩ := hrel
    by_cases hlt : k < s.size
    · by_cases hsp : isSpN s[k].toNat = true
      · have HN : Hid (spL (tl s (k + 1)) = L ∧ Below w.heap.size w wr) := ⟨by rw [← HI.out.1, ← tl_tail hlt, spL_yes (tl_hd hlt) hsp], HI.out.2⟩
        clear HI
        have h4 : s[k].toNat = 32 ∨ s[k].toNat = 9 ∨ s[k].toNat = 10 ∨ s[k].toNat = 13 := by simpa [isSpN, or_assoc] using hsp
        clear hsp
        rcases h4 with hc | hc | hc | hc
        · have q32 : ((s[k].toNat : Int) == 32) = true := by rw [hc]; rfl
          clear hc
          go_wp2
          go_roundw
          case rel => exact ⟨k + 1, by omega, by go_num, HN.out⟩
          case measure => simp [intOf]; omega
        · have q32 : ((s[k].toNat : Int) == 32) = false := by rw [hc]; rfl
          have q9 : ((s[k].toNat : Int) == 9) = true := by rw [hc]; rfl
          clear hc
          go_wp2
          go_roundw
          case rel => exact ⟨k + 1, by omega, by go_num, HN.out⟩
          case measure => simp [intOf]; omega
        · have q32 : ((s[k].toNat : Int) == 32) = false := by rw [hc]; rfl
          have q9 : ((s[k].toNat : Int) == 9) = false := by rw [hc]; rfl
          have q10 : ((s[k].toNat : Int) == 10) = true := by rw [hc]; rfl
          clear hc
          go_wp2
          go_roundw
          case rel => exact ⟨k + 1, by omega, by go_num, HN.out⟩
          case measure => simp [intOf]; omega
        · have q32 : ((s[k].toNat : Int) == 32) = false := by rw [hc]; rfl
          have q9 : ((s[k].toNat : Int) == 9) = false := by rw [hc]; rfl
          have q10 : ((s[k].toNat : Int) == 10) = false := by rw [hc]; rfl
          have q13 : ((s[k].toNat : Int) == 13) = true := by rw [hc]; rfl
          clear hc
          go_wp2
          go_roundw
          case rel => exact ⟨k + 1, by omega, by go_num, HN.out⟩
          case measure => simp [intOf]; omega
      · have hsp' : isSpN s[k].toNat = false := by simpa using hsp
        have HN : Hid (tl s k = L) := by rw [Hid, ← HI.out.1, spL_no (fun c hc => by rw [tl_hd hlt] at hc; cases hc; exact hsp')]
        have HB := HI.out.2
        have q : ∀ c : Nat, (c = 32 ∨ c = 9 ∨ c = 10 ∨ c = 13) → ((s[k].toNat : Int) == (c : Int)) = false := fun c hc => by
          have : s[k].toNat ≠ c := fun e => by rw [e] at hsp; rcases hc with rfl | rfl | rfl | rfl <;> exact hsp rfl
          simp; omega
        have q32 : ((s[k].toNat : Int) == 32) = false := q 32 (by simp)
        have q9 : ((s[k].toNat : Int) == 9) = false := q 9 (by simp)
        have q10 : ((s[k].toNat : Int) == 10) = false := q 10 (by simp)
        have q13 : ((s[k].toNat : Int) == 13) = false := q 13 (by simp)
        clear hsp hsp' q HI
        go_wp2
        go_ret
        exact ⟨HB, k, rfl, hk, HN.out⟩
    · have HN : Hid (tl s k = L) := by rw [Hid, ← HI.out.1, spL_no (fun c hc => by rw [tl_hd0 hlt] at hc; cases hc)]
      have HB := HI.out.2
      clear HI
      go_wp2
      go_ret
      exact ⟨HB, k, rfl, hk, HN.out⟩
set_option maxRecDepth 100000 in
set_option maxHeartbeats 4000000 in
theorem refHex_calls (c : Nat) (w : World) (hc : c < 256) :
    Calls Tryd.prog 65 #[.int .u8 (c : Int)] w (fun e w' => e = .returned (.int .i64 (match hexN c with | some d => (d : Int) | none => -1)) ∧ w' = w) := by
  have h7 : c ≤ 47 ∨ (48 ≤ c ∧ c ≤ 57) ∨ (58 ≤ c ∧ c ≤ 64) ∨ (65 ≤ c ∧ c ≤ 70) ∨ (71 ≤ c ∧ c ≤ 96) ∨ (97 ≤ c ∧ c ≤ 102) ∨ 103 ≤ c := by omega
  rcases h7 with h | h | h | h | h | h | h
  · have HE : Hid (hexN c = none) := by rw [Hid]; unfold hexN; rw [if_neg (by omega), if_neg (by omega), if_neg (by omega)]
    have g0 : ¬ ((48 : Int) ≤ (c : Int)) := by omega
    have l0 : (c : Int) ≤ 57 := by omega
    have g1 : ¬ ((97 : Int) ≤ (c : Int)) := by omega
    have l1 : (c : Int) ≤ 102 := by omega
    have g2 : ¬ ((65 : Int) ≤ (c : Int)) := by omega
    have l2 : (c : Int) ≤ 70 := by omega
    rw [HE.out]
    clear HE h
    go_enter Tryd.func65, Tryd.ntmps65
    go_wp2
    go_ret
    exact ⟨rfl, rfl⟩
  · have HE : Hid (hexN c = some (c - 48)) := by rw [Hid]; unfold hexN; rw [if_pos (by omega)]
    have g0 : (48 : Int) ≤ (c : Int) := by omega
    have l0 : (c : Int) ≤ 57 := by omega
    have g1 : ¬ ((97 : Int) ≤ (c : Int)) := by omega
    have l1 : (c : Int) ≤ 102 := by omega
    have g2 : ¬ ((65 : Int) ≤ (c : Int)) := by omega
    have l2 : (c : Int) ≤ 70 := by omega
    rw [HE.out]
    clear HE h
    go_enter Tryd.func65, Tryd.ntmps65
    go_wp2
    go_ret
    refine ⟨?_, rfl⟩
    show Ending.returned (.int .i64 _) = _
    congr 2
    omega
  · have HE : Hid (hexN c = none) := by rw [Hid]; unfold hexN; rw [if_neg (by omega), if_neg (by omega), if_neg (by omega)]
    have g0 : (48 : Int) ≤ (c : Int) := by omega
    have l0 : ¬ ((c : Int) ≤ 57) := by omega
    have g1 : ¬ ((97 : Int) ≤ (c : Int)) := by omega
    have l1 : (c : Int) ≤ 102 := by omega
    have g2 : ¬ ((65 : Int) ≤ (c : Int)) := by omega
    have l2 : (c : Int) ≤ 70 := by omega
    rw [HE.out]
    clear HE h
    go_enter Tryd.func65, Tryd.ntmps65
    go_wp2
    go_ret
    exact ⟨rfl, rfl⟩
  · have HE : Hid (hexN c = some (c - 55)) := by rw [Hid]; unfold hexN; rw [if_neg (by omega), if_neg (by omega), if_pos (by omega)]
    have g0 : (48 : Int) ≤ (c : Int) := by omega
    have l0 : ¬ ((c : Int) ≤ 57) := by omega
    have g1 : ¬ ((97 : Int) ≤ (c : Int)) := by omega
    have l1 : (c : Int) ≤ 102 := by omega
    have g2 : (65 : Int) ≤ (c : Int) := by omega
    have l2 : (c : Int) ≤ 70 := by omega
    rw [HE.out]
    clear HE h
    go_enter Tryd.func65, Tryd.ntmps65
    go_wp2
    go_ret
    refine ⟨?_, rfl⟩
    show Ending.returned (.int .i64 _) = _
    congr 2
    omega
  · have HE : Hid (hexN c = none) := by rw [Hid]; unfold hexN; rw [if_neg (by omega), if_neg (by omega), if_neg (by omega)]
    have g0 : (48 : Int) ≤ (c : Int) := by omega
    have l0 : ¬ ((c : Int) ≤ 57) := by omega
    have g1 : ¬ ((97 : Int) ≤ (c : Int)) := by omega
    have l1 : (c : Int) ≤ 102 := by omega
    have g2 : (65 : Int) ≤ (c : Int) := by omega
    have l2 : ¬ ((c : Int) ≤ 70) := by omega
    rw [HE.out]
    clear HE h
    go_enter Tryd.func65, Tryd.ntmps65
    go_wp2
    go_ret
    exact ⟨rfl, rfl⟩
  · have HE : Hid (hexN c = some (c - 87)) := by rw [Hid]; unfold hexN; rw [if_neg (by omega), if_pos (by omega)]
    have g0 : (48 : Int) ≤ (c : Int) := by omega
    have l0 : ¬ ((c : Int) ≤ 57) := by omega
    have g1 : (97 : Int) ≤ (c : Int) := by omega
    have l1 : (c : Int) ≤ 102 := by omega
    have g2 : (65 : Int) ≤ (c : Int) := by omega
    have l2 : ¬ ((c : Int) ≤ 70) := by omega
    rw [HE.out]
    clear HE h
    go_enter Tryd.func65, Tryd.ntmps65
    go_wp2
    go_ret
    refine ⟨?_, rfl⟩
    show Ending.returned (.int .i64 _) = _
    congr 2
    omega
  · have HE : Hid (hexN c = none) := by rw [Hid]; unfold hexN; rw [if_neg (by omega), if_neg (by omega), if_neg (by omega)]
    have g0 : (48 : Int) ≤ (c : Int) := by omega
    have l0 : ¬ ((c : Int) ≤ 57) := by omega
    have g1 : (97 : Int) ≤ (c : Int) := by omega
    have l1 : ¬ ((c : Int) ≤ 102) := by omega
    have g2 : (65 : Int) ≤ (c : Int) := by omega
    have l2 : ¬ ((c : Int) ≤ 70) := by omega
    rw [HE.out]
    clear HE h
    go_enter Tryd.func65, Tryd.ntmps65
    go_wp2
    go_ret
    exact ⟨rfl, rfl⟩
end Go.Proofs.YtelhgjepjieocaaDoor
