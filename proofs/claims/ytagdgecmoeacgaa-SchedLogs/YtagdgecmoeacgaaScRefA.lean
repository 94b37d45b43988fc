/- Layer 17 (sched): the document's New, Age. -/
import Derived.Test.YtagdgecmoeacgaaScRefM
import Derived.Test.YtagdgecmoeacgaaScAlive
import Derived.Lib.QuietBelow
namespace Go.Proofs.Ytagdgecmoeacgaa
open Go.RowKit
set_option linter.unusedVariables false

/-- The history lies at an address, two cells each. -/
def HsAt (w : World) (ho : Option Addr) (H : List He) : Prop := ∀ k (h : k < H.length), ∃ b off, ho = some ⟨b, off, none⟩ ∧ w.cell? ⟨b, off + k * 2, none⟩ = some (.slice H[k].ao H[k].r.length H[k].cap) ∧ w.cell? ⟨b, off + k * 2 + 1, none⟩ = some (.int .i64 H[k].ch) ∧ VAt w H[k].ao (H[k].r.map bV)
theorem HsAt.below {w w' : World} {ho : Option Addr} {H : List He} (h : HsAt w ho H) (hb : Below w.heap.size w w') : HsAt w' ho H := fun k hk => by
  obtain ⟨b, off, e, h1, h2, h3⟩ := h k hk
  exact ⟨b, off, e, by rw [hb.cell (p := ⟨b, off + k * 2, none⟩) (World.block_lt_of_cell? w ⟨b, off + k * 2, none⟩ h1)]; exact h1, by rw [hb.cell (p := ⟨b, off + k * 2 + 1, none⟩) (World.block_lt_of_cell? w ⟨b, off + k * 2 + 1, none⟩ h2)]; exact h2, h3.below hb⟩

set_option maxRecDepth 100000 in
set_option maxHeartbeats 2000000 in
theorem age_calls (w : World) (p : Value) (hp : ∃ a n c, p = .slice a n c) (bd : Int) (ho : Option Addr) (hn hc : Nat) (H : List He) (a : Nat) (hH : HsAt w ho H) (hl : H.length = hn) (hm : hn ≤ 1099511627776) (ham : a ≤ 140737488355328) (hrl : ∀ x ∈ H, x.r.length ≤ 140737488355328) :
    Calls Try.prog 24 #[.agg #[p, .int .i64 bd, .slice ho hn hc], .int .i64 (a : Int)] w fun e w' => e = .returned (.int .i64 (ageT H a hn : Int)) ∧ Below w.heap.size w w' := by
  obtain ⟨pa, pn, pc, rfl⟩ := hp
  have HH : Hid (HsAt w ho H) := hH
  have HL : Hid (H.length = hn) := hl
  have HR : Hid (∀ x ∈ H, x.r.length ≤ 140737488355328) := hrl
  obtain ⟨R, HRe⟩ : ∃ R, Hid (R = ageT H a hn) := ⟨_, rfl⟩
  have HE : Hid (R = 0 + ageT H a hn) := by rw [Hid, HRe.out] <;> omega
  rw [← HRe.out]
  have hb1 : Below w.heap.size w (w.alloc (.cells #[.slice pa pn pc, .int .i64 bd, .slice ho hn hc] 50)) := below_alloc w _
  have HC : Hid ((w.alloc (.cells #[.slice pa pn pc, .int .i64 bd, .slice ho hn hc] 50)).cell? ⟨w.heap.size, 2, none⟩ = some (.slice ho hn hc)) := by
    rw [Hid, cell_blkT (heap_alloc_new w _)]; rfl
  have HB1 : Hid (Below w.heap.size w (w.alloc (.cells #[.slice pa pn pc, .int .i64 bd, .slice ho hn hc] 50))) := hb1
  clear hH hl hrl HRe hb1
  go_enter Try.func24, Try.ntmps24
  go_wp2
  go_loopw [5, 6] (fun x i wr => ∃ k n : Nat, k ≤ hn ∧ n ≤ hn ∧ i = .int .i64 ((k : Int) - 1) ∧ x = .int .i64 (n : Int) ∧ Hid (R = n + ageT H a k ∧ n + k ≤ hn) ∧ Hid (Below w.heap.size w wr) ∧ Hid (wr.cell? ⟨w.heap.size, 2, none⟩ = some (.slice ho hn hc))) (fun _ i _ => (intOf i + 1).toNat)
  case atStart => exact ⟨hn, 0, Nat.le_refl _, Nat.zero_le _, rfl, rfl, ⟨HE.out, by omega⟩, HB1, HC⟩
  case round =>
    clear HE HB1 HC
    obtain ⟨k, n, hk, hnn, rfl, rfl, HE, HB, HC⟩ := hrel
    have hcc := HC.out
    by_cases hlt : 0 < k
    · obtain ⟨j, rfl⟩ : ∃ j, k = j + 1 := ⟨k - 1, by omega⟩
      have ej : (((j + 1 : Nat) : Int) - 1) = (j : Int) := by omega
      rw [ej]
      have hjH : j < H.length := by rw [HL.out] <;> omega
      obtain ⟨b, off, rfl, h1, h2, h3⟩ := (HH.out.below HB.out) j hjH
      have hrm := HR.out _ (List.getElem_mem hjH)
      have HA : Hid (ageT H a (j + 1) = if (H[j]'hjH).r.getD a false = true ∧ (H[j]'hjH).ch ≠ (a : Int) then ageT H a j + 1 else 0) := by
        rw [Hid, ageT, List.getElem?_eq_getElem hjH]
      obtain ⟨⟨xa, xc, r, ch⟩, Hx⟩ : ∃ x, Hid (x = H[j]'hjH) := ⟨H[j]'hjH, rfl⟩
      rw [← Hx.out] at h1 h2 h3 hrm HA
      dsimp only at h1 h2 h3 hrm HA
      obtain ⟨l, Hl⟩ : ∃ l, Hid (l = r.length) := ⟨_, rfl⟩
      rw [← Hl.out] at h1 hrm
      have hbz : w.heap.size < wr.heap.size := World.block_lt_of_cell? wr ⟨w.heap.size, 2, none⟩ hcc
      have HBa : Hid (Below w.heap.size w (wr.alloc (.cells #[.slice xa l xc, .int .i64 ch] 66))) := HB.out.alloc HB.out.size _
      have HCa : Hid ((wr.alloc (.cells #[.slice xa l xc, .int .i64 ch] 66)).cell? ⟨w.heap.size, 2, none⟩ = some (.slice (some ⟨b, off, none⟩) hn hc)) := by
        rw [Hid, (below_alloc wr _).cell (p := ⟨w.heap.size, 2, none⟩) hbz]; exact hcc
      have h3a : VAt (wr.alloc (.cells #[.slice xa l xc, .int .i64 ch] 66)) xa (r.map bV) := h3.below (below_alloc wr _)
      have HEo := HE.out.2
      by_cases hal : a < l
      · obtain ⟨rb, ro, rfl, hrc⟩ := h3a.bool a (by rw [← Hl.out]; exact hal)
        cases hb : r.getD a false with
        | false =>
          have HZ : Hid (R = n) := by rw [Hid, HE.out.1, HA.out, if_neg (by rw [hb]; simp)] <;> omega
          rw [hb] at hrc
          clear HA HE HB HC hb Hx h3 h3a hjH
          go_wp2
          go_ret
          exact ⟨by rw [HZ.out]; rfl, HBa.out⟩
        | true =>
          rw [hb] at hrc
          by_cases hch : ch = (a : Int)
          · have HZ : Hid (R = n) := by rw [Hid, HE.out.1, HA.out, if_neg (by simp [hch])] <;> omega
            have hcq : (ch == (a : Int)) = true := by simp [hch]
            clear HA HE HB HC hb Hx h3 h3a hch hjH
            go_wp2
            go_ret
            exact ⟨by rw [HZ.out]; rfl, HBa.out⟩
          · have HZ : Hid (R = (n + 1) + ageT H a j ∧ (n + 1) + j ≤ hn) := ⟨by rw [HE.out.1, HA.out, if_pos ⟨hb, hch⟩] <;> omega, by omega⟩
            have hcq : (ch == (a : Int)) = false := by simp [hch]
            clear HA HE HB HC hb Hx h3 h3a hch hjH
            go_wp2
            go_roundw
            case rel => exact ⟨j, n + 1, by omega, by omega, by go_num, by go_num, HZ, HBa, HCa⟩
            case measure => simp [intOf] <;> omega
      · have HZ : Hid (R = n) := by
          rw [Hid, HE.out.1, HA.out, if_neg]
          · omega
          · rintro ⟨h9, -⟩
            have := getD_lt h9
            rw [← Hl.out] at this
            exact hal this
        clear HA HE HB HC Hx h3 h3a hjH
        go_wp2
        go_ret
        exact ⟨by rw [HZ.out]; rfl, HBa.out⟩
    · have h0 : k = 0 := by omega
      subst h0
      have HZ : Hid (R = n) := by rw [Hid, HE.out.1]; rfl
      go_wp2
      go_ret
      exact ⟨by rw [HZ.out]; rfl, HB.out⟩

set_option maxRecDepth 100000 in
theorem refNew_calls (w : World) (pa : Option Addr) (pn pc : Nat) (b : Int) :
    Calls Try.prog 17 #[.slice pa pn pc, .int .i64 b] w fun e w' => e = .returned (.agg #[.slice pa pn pc, .int .i64 (max b 1), .slice none 0 0]) ∧ Below w.heap.size w w' := by
  have HB : ∀ x : Int, Below w.heap.size w (w.alloc (.cells #[.slice pa pn pc, .int .i64 x, .slice none 0 0] 50)) := fun x => below_alloc w _
  have g0 : ∀ x : Int, (w.alloc (.cells #[.slice pa pn pc, .int .i64 x, .slice none 0 0] 50)).cell? ⟨w.heap.size, 0, none⟩ = some (.slice pa pn pc) := fun x => by rw [cell_blkT (heap_alloc_new w _)]; rfl
  have g1 : ∀ x : Int, (w.alloc (.cells #[.slice pa pn pc, .int .i64 x, .slice none 0 0] 50)).cell? ⟨w.heap.size, 1, none⟩ = some (.int .i64 x) := fun x => by rw [cell_blkT (heap_alloc_new w _)]; rfl
  have g2 : ∀ x : Int, (w.alloc (.cells #[.slice pa pn pc, .int .i64 x, .slice none 0 0] 50)).cell? ⟨w.heap.size, 2, none⟩ = some (.slice none 0 0) := fun x => by rw [cell_blkT (heap_alloc_new w _)]; rfl
  by_cases hb : b < 1
  · have hm : max b 1 = 1 := by omega
    rw [hm]
    go_enter Try.func17, Try.ntmps17
    go_wp2
    refine bodyPost_ret (v := .agg #[.slice pa pn pc, .int .i64 1, .slice none 0 0]) (by simp [results, Try.results17, go_sem, g0, g1, g2]) rfl ⟨rfl, HB 1⟩
  · have hm : max b 1 = b := by omega
    have hb' : 1 ≤ b := by omega
    rw [hm]
    go_enter Try.func17, Try.ntmps17
    go_wp2
    refine bodyPost_ret (v := .agg #[.slice pa pn pc, .int .i64 b, .slice none 0 0]) (by simp [results, Try.results17, go_sem, g0, g1, g2]) rfl ⟨rfl, HB b⟩
end Go.Proofs.Ytagdgecmoeacgaa
