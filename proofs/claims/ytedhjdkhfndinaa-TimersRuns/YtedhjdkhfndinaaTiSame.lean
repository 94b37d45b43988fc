/- Layer 14 (timers): the document's SameInts. -/
import Derived.Test.YtedhjdkhfndinaaTiFire
namespace Go.Proofs.Ytedhjdkhfndinaa
open Go.RowKit
set_option linter.unusedVariables false

/-- The whole numbers l lie at an address. -/
def IAt (w : World) (ao : Option Addr) (l : List Int) : Prop := ∀ k (h : k < l.length), ∃ b off, ao = some ⟨b, off, none⟩ ∧ w.cell? ⟨b, off + k, none⟩ = some (.int .i64 l[k])
theorem IAt.below {w w' : World} {ao : Option Addr} {l : List Int} (h : IAt w ao l) (hb : Below w.heap.size w w') : IAt w' ao l := fun k hk => by
  obtain ⟨b, off, e, hc⟩ := h k hk
  refine ⟨b, off, e, (hb.cell (p := ⟨b, off + k, none⟩) ?_).trans hc⟩
  unfold World.cell? at hc
  split at hc
  · rename_i hq; exact lt_of_heapT hq
  · cases hc
theorem IAt.own {w : World} {B : Nat} {ao : Option Addr} {n cap : Nat} {fs : List Tm} (h : w.ownsRow B 3 1 (.slice ao n cap) (fs.map idV).length (fs.map idV)) : IAt w ao (fs.map (·.id)) ∧ n = (fs.map (·.id)).length := by
  rcases h.2 with ⟨e0, h0⟩ | ⟨g, cap', cur, e0, _⟩
  · simp only [Value.slice.injEq] at e0
    have hf : fs = [] := by
      cases fs with
      | nil => rfl
      | cons a fs => simp at h0
    subst hf
    exact ⟨fun k hk => by simp at hk, by simpa using e0.2.1⟩
  · simp only [Value.slice.injEq] at e0
    obtain ⟨rfl, rfl, rfl⟩ := e0
    refine ⟨fun k hk => ⟨g, 0, rfl, ?_⟩, by simp⟩
    have hk' : k < fs.length := by simpa using hk
    rw [Nat.zero_add, World.ownsRow.cellAt h k (by simp; exact hk')]
    simp [hk', idV]

set_option maxRecDepth 100000 in
set_option maxHeartbeats 1000000 in
theorem sameI_calls (ao bo : Option Addr) (ca cb : Nat) (l m : List Int) (w : World) (hl : l.length ≤ 140737488355328) (hm : m.length ≤ 140737488355328) (ha : IAt w ao l) (hb : IAt w bo m) :
    Calls Try.prog 17 #[.slice ao l.length ca, .slice bo m.length cb] w fun e w' => e = .returned (.bool (decide (l = m))) ∧ ∃ n, w' = w.drewN n := by
  obtain ⟨R, HR⟩ : ∃ R, Hid (R = decide (l = m)) := ⟨_, rfl⟩
  rw [← HR.out]
  by_cases hlen : l.length = m.length
  · have hq : ((l.length : Int) != (m.length : Int)) = false := by simp; omega
    obtain ⟨n, Hn⟩ : ∃ n, Hid (n = m.length) := ⟨_, rfl⟩
    rw [← Hn.out] at hlen hm hq ⊢
    obtain ⟨n', Hn'⟩ : ∃ n', Hid (n' = l.length) := ⟨_, rfl⟩
    rw [← Hn'.out] at hlen hl hq ⊢
    subst hlen
    go_enter Try.func17, Try.ntmps17
    go_wp2
    go_loopw [5] (fun i wr => ∃ k : Nat, k ≤ n' ∧ i = .int .i64 k ∧ Hid (∀ j (h1 : j < l.length) (h2 : j < m.length), j < k → l[j] = m[j]) ∧ ∃ q, wr = w.drewN q) (fun i _ => n' - (intOf i).toNat)
    case atStart => exact ⟨0, Nat.zero_le _, rfl, fun _ _ _ h => absurd h (Nat.not_lt_zero _), 0, rfl⟩
    case round =>
      obtain ⟨k, hk, rfl, HS, hdq⟩ := hrel
      have HQ : Hid (∃ q, wr = w.drewN q) := hdq
      have hbw : Below w.heap.size w wr := by obtain ⟨q, rfl⟩ := hdq; exact below_drawsT w q
      have HQ2 : Hid (∀ n, ∃ q, wr.drewN n = w.drewN q) := by intro n; obtain ⟨q, rfl⟩ := hdq; exact ⟨_, World.drewN_drewN _ _ _⟩
      clear hdq
      by_cases hlt : k < n'
      · have k1 : k < l.length := by rw [← Hn'.out]; exact hlt
        have k2 : k < m.length := by rw [← Hn.out]; exact hlt
        obtain ⟨b, off, rfl, hc⟩ := (ha.below hbw) k k1
        obtain ⟨b2, off2, rfl, hc2⟩ := (hb.below hbw) k k2
        obtain ⟨c, Hc⟩ : ∃ c, Hid (c = l[k]'k1) := ⟨_, rfl⟩
        obtain ⟨d, Hd⟩ : ∃ d, Hid (d = m[k]'k2) := ⟨_, rfl⟩
        rw [← Hc.out] at hc
        rw [← Hd.out] at hc2
        by_cases he : c = d
        · have HS2 : Hid (∀ j (h1 : j < l.length) (h2 : j < m.length), j < k + 1 → l[j] = m[j]) := by
            intro j h1 h2 h3
            by_cases hj : j = k
            · subst hj
              exact Hc.out.symm.trans (he.trans Hd.out)
            · exact HS.out j h1 h2 (by omega)
          clear Hc Hd HS k1 k2
          subst he
          have hqq : (c != c) = false := by simp
          go_wp2_with fail
          go_quiet (fail)
          go_wp2
          go_roundw
          case rel => exact ⟨k + 1, by omega, by go_num, HS2, HQ2.out _⟩
          case measure => simp [intOf]; omega
        · have HF : Hid (R = false) := by
            show _ = _
            rw [HR.out, decide_eq_false_iff_not]
            intro e
            subst e
            exact he (Hc.out.trans Hd.out.symm)
          have hqq : (c != d) = true := by simpa using he
          clear Hc Hd HS k1 k2
          go_wp2_with fail
          go_quiet (fail)
          go_wp2
          go_ret
          exact ⟨by rw [HF.out]; rfl, HQ2.out _⟩
      · have HT : Hid (R = true) := by
          show _ = _
          rw [HR.out, decide_eq_true_eq]
          exact List.ext_getElem (by rw [← Hn.out, ← Hn'.out]) fun j h1 h2 => HS.out j h1 h2 (by rw [← Hn'.out] at h1; omega)
        go_wp2
        go_ret
        exact ⟨by rw [HT.out]; rfl, HQ.out⟩
  · have HF : Hid (R = false) := by
      show _ = _
      rw [HR.out, decide_eq_false_iff_not]
      intro e
      subst e
      exact hlen rfl
    have hq : ((l.length : Int) != (m.length : Int)) = true := by simp; omega
    obtain ⟨n, Hn⟩ : ∃ n, Hid (n = m.length) := ⟨_, rfl⟩
    obtain ⟨n', Hn'⟩ : ∃ n', Hid (n' = l.length) := ⟨_, rfl⟩
    rw [← Hn.out] at hq ⊢
    rw [← Hn'.out] at hq ⊢
    clear hlen
    go_enter Try.func17, Try.ntmps17
    go_wp2
    go_ret
    exact ⟨by rw [HF.out]; rfl, 0, rfl⟩
end Go.Proofs.Ytedhjdkhfndinaa
