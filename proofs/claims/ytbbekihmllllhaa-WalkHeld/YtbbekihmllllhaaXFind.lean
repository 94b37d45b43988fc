/- The document's sorted lists: Find, Common. -/
import Derived.Test.YtbbekihmllllhaaXRow
import Derived.Test.YtbbekihmllllhaaXLess
namespace Go.Proofs.Ytbbekihmllllhaa
open Go.RowKit
set_option linter.unusedVariables false

def strs (l : List ByteArray) : List Value := l.map .string
def ints (l : List Int) : List Value := l.map (.int .i64)
theorem strs_length (l : List ByteArray) : (strs l).length = l.length := by simp [strs]
theorem ints_length (l : List Int) : (ints l).length = l.length := by simp [ints]
theorem strs_one (l : List ByteArray) : ∀ u ∈ strs l, u.oneCell' = true := by
  intro u hu; obtain ⟨x, _, rfl⟩ := List.mem_map.1 hu; rfl
theorem ints_one (l : List Int) : ∀ u ∈ ints l, u.oneCell' = true := by
  intro u hu; obtain ⟨x, _, rfl⟩ := List.mem_map.1 hu; rfl
theorem Sv.At.str {w : World} {x : Sv} {ks : List ByteArray} (h : x.At w) (hv : x.vs = strs ks) (i : Nat) (hi : i < ks.length) : ∃ b off, x.ao = some ⟨b, off, none⟩ ∧ w.cell? ⟨b, off + i, none⟩ = some (.string ks[i]) := by
  obtain ⟨b, off, ha, hc⟩ := h.cells i (by rw [hv, strs_length]; exact hi)
  refine ⟨b, off, ha, ?_⟩
  rw [hc]; simp [hv, strs]
theorem Sv.At.int {w : World} {x : Sv} {ks : List Int} (h : x.At w) (hv : x.vs = ints ks) (i : Nat) (hi : i < ks.length) : ∃ b off, x.ao = some ⟨b, off, none⟩ ∧ w.cell? ⟨b, off + i, none⟩ = some (.int .i64 ks[i]) := by
  obtain ⟨b, off, ha, hc⟩ := h.cells i (by rw [hv, ints_length]; exact hi)
  refine ⟨b, off, ha, ?_⟩
  rw [hc]; simp [hv, ints]

set_option maxRecDepth 100000 in
set_option maxHeartbeats 1000000 in
theorem find_calls (x : Sv) (ks : List ByteArray) (k : ByteArray) (w : World) (hx : x.At w) (hv : x.vs = strs ks) (hs : SortedK ks) (hz : ∀ p ∈ ks, p.size ≤ 140737488351296) (hk : k.size ≤ 140737488351296) (hl : ks.length ≤ 17592186044416) :
    Calls Try.prog 49 #[.slice x.ao ks.length x.cap, .string k] w fun e w' => e = .returned (.tuple #[.int .i64 (place ks k : Int), .bool (decide (k ∈ ks))]) ∧ ∃ n, w' = w.drewN n := by
  have HX : Hid (∀ i (hi : i < ks.length), ∃ b off, x.ao = some ⟨b, off, none⟩ ∧ w.cell? ⟨b, off + i, none⟩ = some (.string ks[i])) := fun i hi => hx.str hv i hi
  have HS : Hid (SortedK ks) := hs
  have HZ : Hid (∀ p ∈ ks, p.size ≤ 140737488351296) := hz
  clear hx hv hs hz
  obtain ⟨xao, xcap, xvs⟩ := x
  dsimp only at HX ⊢
  go_enter Try.func49, Try.ntmps49
  go_wp2
  go_loopw [6, 7] (fun lo hi wr => ∃ a b n : Nat, a ≤ b ∧ b ≤ ks.length ∧ lo = .int .i64 a ∧ hi = .int .i64 b ∧ Hid (∀ j (hj : j < ks.length), j < a → Lt (kyb ks[j]) (kyb k)) ∧ Hid (∀ j (hj : j < ks.length), b ≤ j → ¬ Lt (kyb ks[j]) (kyb k)) ∧ wr = w.drewN n) (fun lo hi _ => (intOf hi).toNat - (intOf lo).toNat)
  case atStart => exact ⟨0, ks.length, 0, Nat.zero_le _, Nat.le_refl _, rfl, rfl, fun j _ h => absurd h (Nat.not_lt_zero j), fun j h1 h2 => absurd h1 (by omega), rfl⟩
  case round =>
    obtain ⟨a, b, n, hab, hb, rfl, rfl, H1, H2, rfl⟩ := hrel
    by_cases hlt : a < b
    · obtain ⟨m, HM⟩ : ∃ m : Nat, m = a + (b - a) / 2 := ⟨_, rfl⟩
      have hm1 : a ≤ m ∧ m < b := by omega
      have hq : Int.tdiv ((b : Int) - (a : Int)) 2 = ((m - a : Nat) : Int) := by
        rw [Int.tdiv_eq_ediv_of_nonneg (by omega)]; omega
      have hmi : (a : Int) + ((m - a : Nat) : Int) = (m : Int) := by omega
      obtain ⟨bb, off, rfl, hc⟩ := HX.out m (by omega)
      have HC := less_calls ks[m] k (w.drewN n) (HZ.out _ (List.getElem_mem _)) hk
      rw [less_lt] at HC
      clear HM
      go_wp2_with fail
      refine HC.mono ?_
      clear HC
      rintro e w1 ⟨rfl, q, rfl⟩
      by_cases hL : Lt ks[m].data.toList k.data.toList
      · rw [decide_eq_true hL]
        have H1' : Hid (∀ j (hj : j < ks.length), j < m + 1 → Lt (kyb ks[j]) (kyb k)) := fun j hj hjm => by
          rcases Nat.lt_or_ge j m with h3 | h3
          · exact lt_tr (sortedK_at HS.out h3 (by omega)) hL
          · have : j = m := by omega
            subst this; exact hL
        go_wp2
        go_roundw
        case rel => exact ⟨m + 1, b, _, by omega, hb, by go_num, rfl, H1', H2, rfl⟩
        case measure => simp [intOf]; omega
      · rw [decide_eq_false hL]
        have H2' : Hid (∀ j (hj : j < ks.length), m ≤ j → ¬ Lt (kyb ks[j]) (kyb k)) := fun j hj hjm => by
          rcases Nat.lt_or_ge m j with h3 | h3
          · exact fun h4 => hL (lt_tr (sortedK_at HS.out h3 hj) h4)
          · have : j = m := by omega
            subst this; exact hL
        go_wp2
        go_roundw
        case rel => exact ⟨a, m, _, by omega, by omega, rfl, rfl, H1, H2', rfl⟩
        case measure => simp [intOf]; omega
    · have : b = a := by omega
      subst this
      have HP : Hid (place ks k = b) := place_eq hb H1.out (fun h => H2.out b h (Nat.le_refl _))
      by_cases hin : b < ks.length
      · obtain ⟨bb, off, rfl, hc⟩ := HX.out b hin
        have hd : decide ((b : Int) < (ks.length : Int)) = true := by simp; omega
        have hi1 : (0 : Int) ≤ (b : Int) ∧ (b : Int) < (ks.length : Int) := by omega
        have hp := HP.out
        have HMEM : Hid ((ks[b].toList == k.toList) = decide (k ∈ ks)) := by
          show _ = _
          rw [Bool.eq_iff_iff, decide_eq_true_iff, ← place_mem HS.out]
          constructor
          · intro h; exact ⟨by omega, by simp only [hp]; rw [beq_iff_eq, ByteArray.toList_eq, ByteArray.toList_eq] at h; exact ky_inj h⟩
          · rintro ⟨h, e⟩; simp only [hp] at e; rw [e]; simp
        clear hp
        go_wp2
        go_quiet (fail)
        go_wp2
        go_ret2
        rw [HP.out, HMEM.out]
        exact ⟨rfl, _, World.drewN_drewN _ _ _⟩
      · have hd : decide ((b : Int) < (ks.length : Int)) = false := by simp; omega
        have hp := HP.out
        have HNO : Hid (decide (k ∈ ks) = false) := by
          show _ = _
          rw [decide_eq_false_iff_not, ← place_mem HS.out]
          rintro ⟨h, -⟩; omega
        clear hp
        go_wp2
        go_quiet (fail)
        go_wp2
        go_ret2
        rw [HP.out, HNO.out]
        exact ⟨rfl, _, World.drewN_drewN _ _ _⟩
end Go.Proofs.Ytbbekihmllllhaa
