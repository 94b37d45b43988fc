import Derived.Test.YtmkohdepgfahnaaGreatDoorJNum
import Derived.BigQuiet
import Derived.Deep.QuietTactic
import Derived.Test.YtmkohdepgfahnaaGreatDoorJSumR
import Derived.Test.YtmkohdepgfahnaaGreatDoorRcSameT
/- Layer 13 (journal): the document's Same. -/
namespace Go.Proofs.YtmkohdepgfahnaaGreatDoor
open Go.RowKit
set_option linter.unusedVariables false

theorem same_no {l m : List UInt8} {k : Nat} (h1 : k < l.length) (h2 : k < m.length) (h : l[k] ≠ m[k]) : decide (l = m) = false := by
  rw [decide_eq_false_iff_not]
  intro e
  subst e
  exact h rfl
theorem same_yes {l m : List UInt8} (hl : l.length = m.length) (h : ∀ i (h1 : i < l.length) (h2 : i < m.length), l[i] = m[i]) : l = m := List.ext_getElem hl fun i h1 h2 => h i h1 h2

set_option maxRecDepth 100000 in
set_option maxHeartbeats 1000000 in
theorem same_calls (ao bo : Option Addr) (ca cb : Nat) (l m : List UInt8) (w : World) (hl : l.length ≤ 140737488355328) (hm : m.length ≤ 140737488355328) (ha : BAt w ao l) (hb : BAt w bo m) :
    Calls Tryz.prog 12 #[.slice ao l.length ca, .slice bo m.length cb] w fun e w' => e = .returned (.bool (decide (l = m))) ∧ ∃ n, w' = w.drewN n := by
  obtain ⟨R, HR⟩ : ∃ R, Hid (R = decide (l = m)) := ⟨_, rfl⟩
  rw [← HR.out]
  by_cases hlen : l.length = m.length
  · have hq : ((l.length : Int) != (m.length : Int)) = false := by simp; omega
    obtain ⟨n, Hn⟩ : ∃ n, Hid (n = m.length) := ⟨_, rfl⟩
    rw [← Hn.out] at hlen hm hq ⊢
    obtain ⟨n', Hn'⟩ : ∃ n', Hid (n' = l.length) := ⟨_, rfl⟩
    rw [← Hn'.out] at hlen hl hq ⊢
    subst hlen
    go_enter Tryz.func12, Tryz.ntmps12
    go_wp2
    go_loopw [13] (fun i wr => ∃ k : Nat, k ≤ n' ∧ i = .int .i64 k ∧ Hid (∀ j (h1 : j < l.length) (h2 : j < m.length), j < k → l[j] = m[j]) ∧ ∃ q, wr = w.drewN q) (fun i _ => n' - (intOf i).toNat)
    case atStart => exact ⟨0, Nat.zero_le _, rfl, fun _ _ _ h => absurd h (Nat.not_lt_zero _), 0, rfl⟩
    case round =>
      obtain ⟨k, hk, rfl, HS, hdq⟩ := hrel
      have HQ : Hid (∃ q, wr = w.drewN q) := hdq
      have hbw : Below w.heap.size w wr := by obtain ⟨q, rfl⟩ := hdq; exact below_draws w q
      have HQ2 : Hid (∀ n, ∃ q, wr.drewN n = w.drewN q) := by intro n; obtain ⟨q, rfl⟩ := hdq; exact ⟨_, World.drewN_drewN _ _ _⟩
      clear hdq
      by_cases hlt : k < n'
      · have k1 : k < l.length := by rw [← Hn'.out]; exact hlt
        have k2 : k < m.length := by rw [← Hn.out]; exact hlt
        obtain ⟨b, off, rfl, hc⟩ := (ha.below hbw).at k k1
        obtain ⟨b2, off2, rfl, hc2⟩ := (hb.below hbw).at k k2
        obtain ⟨c, Hc⟩ : ∃ c, Hid (c = l[k]'k1) := ⟨_, rfl⟩
        obtain ⟨d, Hd⟩ : ∃ d, Hid (d = m[k]'k2) := ⟨_, rfl⟩
        rw [← Hc.out] at hc
        rw [← Hd.out] at hc2
        by_cases he : c = d
        · have HS2 : Hid (∀ j (h1 : j < l.length) (h2 : j < m.length), j < k + 1 → l[j] = m[j]) := by
            intro j h1 h2 h3
            by_cases hj : j = k
            · subst hj
              have := Hc.out.symm.trans (he.trans Hd.out)
              exact this
            · exact HS.out j h1 h2 (by omega)
          clear Hc Hd HS k1 k2
          subst he
          have hqq : ((c.toNat : Int) != (c.toNat : Int)) = false := by simp
          go_wp2_with fail
          go_quiet (fail)
          go_wp2
          go_roundw
          case rel => exact ⟨k + 1, by omega, by go_num, HS2, HQ2.out _⟩
          case measure => simp [intOf]; omega
        · have HF : Hid (R = false) := by
            show _ = _
            rw [HR.out]
            exact same_no k1 k2 (by rw [← Hc.out, ← Hd.out]; exact he)
          have hqq : ((c.toNat : Int) != (d.toNat : Int)) = true := by
            simp
            intro e
            exact he (UInt8.toNat_inj.1 (by omega))
          clear Hc Hd HS k1 k2
          go_wp2_with fail
          go_quiet (fail)
          go_wp2
          go_ret
          exact ⟨by rw [HF.out]; rfl, HQ2.out _⟩
      · have HT : Hid (R = true) := by
          show _ = _
          rw [HR.out, decide_eq_true_eq]
          exact same_yes (by rw [← Hn.out, ← Hn'.out]) fun j h1 h2 => HS.out j h1 h2 (by rw [← Hn'.out] at h1; omega)
        go_wp2
        go_ret
        exact ⟨by rw [HT.out]; rfl, HQ.out⟩
  · have HF : Hid (R = false) := by
      show _ = _
      rw [HR.out, decide_eq_false_iff_not]
      intro e
      subst e
      exact hlen rfl
    have hq : ((l.length : Int) != (m.length : Int)) = true := by simp; omega
    obtain ⟨n, Hn⟩ : ∃ n, Hid (n = m.length) := ⟨_, rfl⟩
    obtain ⟨n', Hn'⟩ : ∃ n', Hid (n' = l.length) := ⟨_, rfl⟩
    rw [← Hn.out] at hq ⊢
    rw [← Hn'.out] at hq ⊢
    clear hlen
    go_enter Tryz.func12, Tryz.ntmps12
    go_wp2
    go_ret
    exact ⟨by rw [HF.out]; rfl, 0, rfl⟩
end Go.Proofs.YtmkohdepgfahnaaGreatDoor

/- Layer 13 (journal): JournalSums, the walk. -/
namespace Go.Proofs.YtmkohdepgfahnaaGreatDoor
open Go.RowKit
set_option linter.unusedVariables false

theorem empty_own (w : World) : (w.alloc (.cells #[] 5)).ownsRow w.heap.size 5 1 (.slice (some ⟨w.heap.size, 0, none⟩) 0 0) 0 [] := World.ownsRow_lit (size := 1) w #[] 0 (Nat.le_refl _) (by unfold maxLen; omega) rfl
theorem flip_ne {c x : UInt8} (h : ¬ x = 0) : c ≠ c ^^^ x := by
  intro e
  apply h
  have h2 := congrArg (c ^^^ ·) e
  simp only [UInt8.xor_self] at h2
  rw [← UInt8.xor_assoc, UInt8.xor_self, UInt8.zero_xor] at h2
  exact h2.symm
theorem flip_val (c x : UInt8) : bits .xor .u8 (c.toNat : Int) (x.toNat : Int) = ((c ^^^ x).toNat : Int) := by
  rw [u8_xor_nat _ _ (by have := c.toNat_lt; omega) (by have := x.toNat_lt; omega), UInt8.toNat_xor]

set_option maxRecDepth 100000 in
set_option maxHeartbeats 2000000 in
theorem journalSums_calls (ao : Option Addr) (cap : Nat) (l : List UInt8) (k : Int) (x : UInt8) (w : World) (hv : Vs w) (hl : l.length ≤ 140737488351296) (h : BAt w ao l) :
    Calls Tryz.prog 4 #[.slice ao l.length cap, .int .i64 k, .int .u8 (x.toNat : Int)] w fun e w' => e = .returned (.bool true) ∧ Below w.heap.size w w' := by
  go_enter Tryz.func4, Tryz.ntmps4
  go_wp2_with fail
  refine (journalFixed_calls w hv).mono ?_
  rintro e w1 ⟨rfl, hb1⟩
  have HB1 : Hid (Below w.heap.size w w1) := hb1
  have HA1 : Hid (BAt (w1.alloc (.cells #[] 5)) ao l) := (h.below hb1).below (below_new _ _)
  clear hv hb1
  obtain ⟨n, Hn⟩ : ∃ n, Hid (n = l.length) := ⟨_, rfl⟩
  rw [← Hn.out] at hl ⊢
  have HNL : Hid ((bs l).length = n * 1) := by show _ = _; rw [bs_length, ← Hn.out, Nat.mul_one]
  go_wp2_with (at_builtin; refine append_src _ rfl (.tmp 11) (.tmp 12) 23 5 (.int .u8 0) 1 1 Tryz.underlying23 info_u8 rfl (by decide) rfl w1.heap.size _ 0 [] rfl (empty_own w1) ao n cap (bs l) rfl HNL.out HA1.out (bs_one l) (by unfold maxLen; omega) (by omega) (by simp) ?_)
  intro v2 w2 ho2' hg2
  have ho2 : Own w2 w1.heap.size v2 l := by
    unfold Own
    rw [← Hn.out]
    simpa using ho2'
  have HB2 : Hid (Below w.heap.size w w2) := HB1.out.trans ((((Below.refl w1.heap.size w1).alloc (Nat.le_refl _) _).trans (hg2.toBelow (by simp) (fun q hq => by simp [Value.ownBlock] at hq; omega))).mono HB1.out.size)
  clear ho2' hg2 HA1 HNL
  obtain ⟨a2, c2, rfl⟩ := ho2.shape
  have HO2 : Hid (Own w2 w1.heap.size (.slice a2 l.length c2) l) := ho2
  have HC1 : Hid (∀ w', Below w2.heap.size w2 w' → Calls Tryz.prog 10 #[.slice a2 n c2] w' fun e w'' => e = .returned (.int .u32 (sumB l)) ∧ w'' = w') := fun w' h' => by
    have := sum_calls a2 c2 l w' (by rw [← Hn.out]; omega) (ho2.below h').bytes
    rw [← Hn.out] at this
    exact this
  have HC2 : Hid (Calls Tryz.prog 11 #[.slice ao n cap] w2 fun e w'' => e = .returned (.int .u32 (sumB l)) ∧ w'' = w2) := by
    have := refSum_calls ao cap l w2 (by rw [← Hn.out]; omega) (h.below HB2.out)
    rw [← Hn.out] at this
    exact this
  have HC3 : Hid (Calls Tryz.prog 12 #[.slice a2 n c2, .slice ao n cap] w2 fun e w' => e = .returned (.bool true) ∧ ∃ n, w' = w2.drewN n) := by
    have := same_calls a2 ao c2 cap l l w2 (by rw [← Hn.out]; omega) (by rw [← Hn.out]; omega) ho2.bytes (h.below HB2.out)
    rw [← Hn.out] at this
    simp only [decide_true] at this
    exact this
  clear ho2 h
  rw [← Hn.out]
  obtain ⟨sm, Hsm⟩ : ∃ s, Hid (s = sumB l) := ⟨_, rfl⟩
  rw [← Hsm.out] at HC1 HC2
  go_wp2_with fail
  refine (HC1.out w2 (Below.refl _ _)).mono ?_
  rintro e w3 ⟨rfl, rfl⟩
  go_wp2_with fail
  refine HC2.out.mono ?_
  rintro e w4 ⟨rfl, rfl⟩
  have q0 : ((sm : Int) != (sm : Int)) = false := by simp
  go_wp2_with fail
  refine HC3.out.mono ?_
  rintro e w5 ⟨rfl, hd⟩
  have hb5 : Below w4.heap.size w4 w5 := by obtain ⟨m, rfl⟩ := hd; exact below_draws _ _
  have HB5 : Hid (Below w.heap.size w w5) := HB2.out.trans (hb5.mono HB2.out.size)
  have HO5 : Hid (Own w5 w1.heap.size (.slice a2 l.length c2) l) := HO2.out.below hb5
  clear hd hb5 HC1 HC2 HC3 HO2 HB2 q0
  by_cases hk0 : k < 0
  · go_wp2
    go_ret
    exact ⟨rfl, HB5.out⟩
  by_cases hkn : (n : Int) ≤ k
  · have q1 : decide ((n : Int) ≤ k) = true := by simpa using hkn
    go_wp2
    go_ret
    exact ⟨rfl, HB5.out⟩
  have q1 : decide ((n : Int) ≤ k) = false := by simpa using hkn
  by_cases hx0 : x = 0
  · have q2 : ((x.toNat : Int) == 0) = true := by subst hx0; rfl
    clear hx0
    go_wp2
    go_ret
    exact ⟨rfl, HB5.out⟩
  have q2 : ((x.toNat : Int) == 0) = false := by
    have : x.toNat ≠ 0 := fun e => hx0 (UInt8.toNat_inj.1 (by simpa using e))
    simpa using this
  obtain ⟨j, rfl⟩ : ∃ j : Nat, k = (j : Int) := ⟨k.toNat, by omega⟩
  have hj : j < l.length := by rw [← Hn.out]; omega
  obtain ⟨g, hg⟩ : ∃ g, a2 = some ⟨g, 0, none⟩ := by
    obtain ⟨ao', cap', e1, e2⟩ := row_forms HO5.out
    obtain ⟨g, e3⟩ := e2 (by omega)
    simp only [Value.slice.injEq] at e1
    exact ⟨g, by rw [e1.1]; exact e3⟩
  subst hg
  have c0 := HO5.out.at rfl j hj
  obtain ⟨c, Hc⟩ : ∃ c, Hid (c = l[j]'hj) := ⟨_, rfl⟩
  have e0 : l.getD j 0 = c := by rw [Hc.out]; simp [hj]
  rw [e0] at c0
  clear e0
  obtain ⟨c0, f0⟩ := c0
  have hxo := flip_val c x
  obtain ⟨d, Hd⟩ : ∃ d, Hid (d = c ^^^ x) := ⟨_, rfl⟩
  rw [← Hd.out] at hxo
  have HO6 : Hid (Own (w5.setCell ⟨g, j, none⟩ (.int .u8 (d.toNat : Int))) w1.heap.size (.slice (some ⟨g, 0, none⟩) l.length c2) (l.set j d)) := HO5.out.stored rfl j d
  have HB6 : Hid (Below w.heap.size w (w5.setCell ⟨g, j, none⟩ (.int .u8 (d.toNat : Int)))) := HB5.out.setCell (p := ⟨g, j, none⟩) (Nat.le_trans HB1.out.size (HO5.out.lt g rfl).1) _
  have HNE : Hid (sumB (l.set j d) ≠ sm) := by
    show _ ≠ _
    rw [Hsm.out]
    refine sumB_set hj ?_
    rw [← Hc.out, Hd.out]
    exact flip_ne hx0
  have HSM : Hid (Calls Tryz.prog 10 #[.slice (some ⟨g, 0, none⟩) n c2] (w5.setCell ⟨g, j, none⟩ (.int .u8 (d.toNat : Int))) fun e w'' => e = .returned (.int .u32 (sumB (l.set j d))) ∧ w'' = (w5.setCell ⟨g, j, none⟩ (.int .u8 (d.toNat : Int)))) := by
    have h6 : (l.set j d).length = n := by rw [List.length_set, Hn.out]
    have := sum_calls (some ⟨g, 0, none⟩) c2 (l.set j d) (w5.setCell ⟨g, j, none⟩ (.int .u8 (d.toNat : Int))) (by rw [h6]; omega) (by
      have := HO6.out
      rw [show l.length = (l.set j d).length from (List.length_set ..).symm] at this
      exact this.bytes)
    rw [h6] at this
    exact this
  obtain ⟨s2, Hs2⟩ : ∃ s, Hid (s = sumB (l.set j d)) := ⟨_, rfl⟩
  rw [← Hs2.out] at HSM HNE
  have q3 : ((s2 : Int) != (sm : Int)) = true := by
    have := HNE.out
    simp
    omega
  clear Hs2 HNE HO6 HO5 Hd Hc Hsm hx0 hkn hk0 hj
  have hjn : j < n := by
    have := q1
    simp at this
    omega
  go_wp2_with fail
  refine HSM.out.mono ?_
  rintro e w7 ⟨rfl, rfl⟩
  go_wp2
  go_ret
  exact ⟨rfl, HB6.out⟩
end Go.Proofs.YtmkohdepgfahnaaGreatDoor
