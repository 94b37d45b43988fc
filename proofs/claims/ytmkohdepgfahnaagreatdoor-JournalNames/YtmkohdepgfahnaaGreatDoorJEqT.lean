/- Layer 13 (journal): slices.Equal of texts. -/
import Derived.Test.YtmkohdepgfahnaaGreatDoorSGenB
import Derived.BigQuiet
import Derived.Deep.QuietTactic
namespace Go.Proofs.YtmkohdepgfahnaaGreatDoor
open Go.RowKit
set_option linter.unusedVariables false
set_option linter.unusedSimpArgs false

theorem txt_no {l m : List ByteArray} {k : Nat} (h1 : k < l.length) (h2 : k < m.length) (h : l[k] ≠ m[k]) : decide (l = m) = false := by
  rw [decide_eq_false_iff_not]
  intro e
  subst e
  exact h rfl
theorem txt_yes {l m : List ByteArray} (hl : l.length = m.length) (h : ∀ i (h1 : i < l.length) (h2 : i < m.length), l[i] = m[i]) : l = m := List.ext_getElem hl fun i h1 h2 => h i h1 h2

set_option maxRecDepth 100000 in
set_option maxHeartbeats 1000000 in
theorem equalT_calls (ao bo : Option Addr) (ca cb : Nat) (l m : List ByteArray) (w : World) (hl : l.length ≤ 140737488355328) (hm : m.length ≤ 140737488355328) (ha : CellsAt w ao (l.map Value.string)) (hb : CellsAt w bo (m.map Value.string)) :
    Calls Tryz.prog 86 #[.slice ao l.length ca, .slice bo m.length cb] w fun e w' => e = .returned (.bool (decide (l = m))) ∧ ∃ n, w' = w.drewN n := by
  obtain ⟨R, HR⟩ : ∃ R, Hid (R = decide (l = m)) := ⟨_, rfl⟩
  rw [← HR.out]
  by_cases hlen : l.length = m.length
  · have hq : ((l.length : Int) != (m.length : Int)) = false := by simp; omega
    obtain ⟨n, Hn⟩ : ∃ n, Hid (n = m.length) := ⟨_, rfl⟩
    rw [← Hn.out] at hlen hm hq ⊢
    obtain ⟨n', Hn'⟩ : ∃ n', Hid (n' = l.length) := ⟨_, rfl⟩
    rw [← Hn'.out] at hlen hl hq ⊢
    subst hlen
    go_enter Tryz.func86, Tryz.ntmps86
    go_wp2
    go_loopw [13] (fun i wr => ∃ k : Nat, k ≤ n' ∧ i = .int .i64 k ∧ Hid (∀ j (h1 : j < l.length) (h2 : j < m.length), j < k → l[j] = m[j]) ∧ ∃ q, wr = w.drewN q) (fun i _ => n' - (intOf i).toNat)
    case atStart => exact ⟨0, Nat.zero_le _, rfl, fun _ _ _ h => absurd h (Nat.not_lt_zero _), 0, rfl⟩
    case round =>
      obtain ⟨k, hk, rfl, HS, hdq⟩ := hrel
      have HQ : Hid (∃ q, wr = w.drewN q) := hdq
      have hbw : Below w.heap.size w wr := by obtain ⟨q, rfl⟩ := hdq; exact below_draws w q
      have HQ2 : Hid (∀ n, ∃ q, wr.drewN n = w.drewN q) := by intro n; obtain ⟨q, rfl⟩ := hdq; exact ⟨_, World.drewN_drewN _ _ _⟩
      clear hdq
      by_cases hlt : k < n'
      · have k1 : k < l.length := by rw [← Hn'.out]; exact hlt
        have k2 : k < m.length := by rw [← Hn.out]; exact hlt
        obtain ⟨b, off, rfl, hc⟩ := (ha.below hbw).str k k1
        obtain ⟨b2, off2, rfl, hc2⟩ := (hb.below hbw).str k k2
        obtain ⟨c, Hc⟩ : ∃ c, Hid (c = l[k]'k1) := ⟨_, rfl⟩
        obtain ⟨d, Hd⟩ : ∃ d, Hid (d = m[k]'k2) := ⟨_, rfl⟩
        rw [← Hc.out] at hc
        rw [← Hd.out] at hc2
        by_cases he : c = d
        · have HS2 : Hid (∀ j (h1 : j < l.length) (h2 : j < m.length), j < k + 1 → l[j] = m[j]) := by
            intro j h1 h2 h3
            by_cases hj : j = k
            · subst hj
              have := Hc.out.symm.trans (he.trans Hd.out)
              exact this
            · exact HS.out j h1 h2 (by omega)
          clear Hc Hd HS k1 k2
          subst he
          have hqq : (c.toList == c.toList) = true := beq_self_eq_true _
          go_wp2_with fail
          go_quiet (fail)
          go_wp2
          go_roundw
          case rel => exact ⟨k + 1, by omega, by go_num, HS2, HQ2.out _⟩
          case measure => simp [intOf]; omega
        · have HF : Hid (R = false) := by
            show _ = _
            rw [HR.out]
            exact txt_no k1 k2 (by rw [← Hc.out, ← Hd.out]; exact he)
          have hqq : (c.toList == d.toList) = false := by rw [beq_toList]; simpa using he
          clear Hc Hd HS k1 k2
          go_wp2_with fail
          go_quiet (fail)
          go_wp2
          go_ret
          exact ⟨by rw [HF.out]; rfl, HQ2.out _⟩
      · have HT : Hid (R = true) := by
          show _ = _
          rw [HR.out, decide_eq_true_eq]
          exact txt_yes (by rw [← Hn.out, ← Hn'.out]) fun j h1 h2 => HS.out j h1 h2 (by rw [← Hn'.out] at h1; omega)
        go_wp2
        go_ret
        exact ⟨by rw [HT.out]; rfl, HQ.out⟩
  · have HF : Hid (R = false) := by
      show _ = _
      rw [HR.out, decide_eq_false_iff_not]
      intro e
      subst e
      exact hlen rfl
    have hq : ((l.length : Int) != (m.length : Int)) = true := by simp; omega
    obtain ⟨n, Hn⟩ : ∃ n, Hid (n = m.length) := ⟨_, rfl⟩
    obtain ⟨n', Hn'⟩ : ∃ n', Hid (n' = l.length) := ⟨_, rfl⟩
    rw [← Hn.out] at hq ⊢
    rw [← Hn'.out] at hq ⊢
    clear hlen
    go_enter Tryz.func86, Tryz.ntmps86
    go_wp2
    go_ret
    exact ⟨by rw [HF.out]; rfl, 0, rfl⟩
end Go.Proofs.YtmkohdepgfahnaaGreatDoor
