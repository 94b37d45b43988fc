/- The walk of the document's Compare. -/
import Derived.Test.YtehbclliiphglaaKLess
import Derived.Test.YtehbclliiphglaaKPiece
namespace Go.Proofs.Ytehbclliiphglaa
open Go.RowKit
set_option linter.unusedVariables false

theorem bytesLess_irrefl (l : List UInt8) : Op.bytesLess l l = false := by
  induction l with
  | nil => rfl
  | cons c l ih => simp [Op.bytesLess, ih]

/-- Does the document put p ahead of q? -/
def ahead (p q : Pt) : Bool := decide (p.k < q.k) || (p.k == q.k && (Op.bytesLess p.t.toList q.t.toList || decide (p.n < q.n)))

theorem ptEq_false {p q : Pt} (h : p ≠ q) : ptEq p q = false := by
  cases he : ptEq p q with
  | false => rfl
  | true => exact absurd ((ptEq_iff p q).1 he) h

theorem cmpP_ahead {p q : Pt} (hp : vldB p = true) (hq : vldB q = true) (h : ahead p q = true) : ptEq p q = false ∧ cmpP p q = -1 := by
  unfold ahead at h
  simp only [Bool.or_eq_true, decide_eq_true_eq, Bool.and_eq_true, beq_iff_eq] at h
  refine ⟨ptEq_false fun e => ?_, ?_⟩
  · subst e
    rcases h with h | ⟨_, h | h⟩
    · omega
    · rw [bytesLess_irrefl] at h; exact absurd h (by decide)
    · omega
  · rcases h with h | ⟨hk, h⟩
    · have hne : (p.k == q.k) = false := by simpa using (show ¬ p.k = q.k by omega)
      simp [cmpP, hne, cmpI, h]
    · have hkb : (p.k == q.k) = true := by simpa using hk
      rcases vld_cases hp with ⟨h1, h2⟩ | ⟨h1, h2⟩ | ⟨h1, h2, h3⟩ <;> rcases vld_cases hq with ⟨g1, g2⟩ | ⟨g1, g2⟩ | ⟨g1, g2, g3⟩
      all_goals try omega
      · have hl : Op.bytesLess p.t.toList q.t.toList = true := by
          rcases h with h | h
          · exact h
          · omega
        simp [cmpP, h1, g1, cmpS, hl]
      · have hn : p.n < q.n := by
          rcases h with h | h
          · rw [h2, g2] at h; exact absurd h (by decide)
          · exact h
        simp [cmpP, h1, g1, cmpI, hn]
      · have hn : p.n < q.n := by
          rcases h with h | h
          · rw [h2, g2] at h; exact absurd h (by decide)
          · exact h
        simp [cmpP, h1, g1, cmpI, hn]

theorem cmpP_behind {p q : Pt} (hp : vldB p = true) (hq : vldB q = true) (h : ahead p q = false) (hne : p ≠ q) : cmpP p q = 1 := by
  unfold ahead at h
  simp only [Bool.or_eq_false_iff, decide_eq_false_iff_not, Bool.and_eq_false_iff] at h
  obtain ⟨h0, h⟩ := h
  by_cases hk : p.k = q.k
  · have hkb : (p.k == q.k) = true := by simpa using hk
    rw [hkb] at h
    simp only [Bool.true_eq_false, false_or] at h
    obtain ⟨hl, hn⟩ := h
    rcases vld_cases hp with ⟨h1, h2⟩ | ⟨h1, h2⟩ | ⟨h1, h2, h3⟩ <;> rcases vld_cases hq with ⟨g1, g2⟩ | ⟨g1, g2⟩ | ⟨g1, g2, g3⟩
    all_goals try omega
    · have ht : (p.t.toList == q.t.toList) = false := by
        rw [beq_eq_false_iff_ne]
        intro e
        exact hne ((ptEq_iff p q).1 (by simp [ptEq, h1, g1, h2, g2, e]))
      simp [cmpP, h1, g1, cmpS, hl, ht]
    · have hn2 : q.n < p.n := by
        have : p.n ≠ q.n := fun e => hne ((ptEq_iff p q).1 (by simp [ptEq, h1, g1, h2, g2, e]))
        omega
      simp [cmpP, h1, g1, cmpI, hn, hn2]
    · have hn2 : q.n < p.n := by
        have : p.n ≠ q.n := fun e => hne ((ptEq_iff p q).1 (by simp [ptEq, h1, g1, h2, g2, e]))
        omega
      simp [cmpP, h1, g1, cmpI, hn, hn2]
  · have hkb : (p.k == q.k) = false := by simpa using hk
    simp [cmpP, hkb, cmpI, h0]
    omega

set_option maxRecDepth 100000 in
set_option maxHeartbeats 2000000 in
theorem rcompare_calls (ao bo : Option Addr) (cap cap2 : Nat) (ps qs : List Pt) (w : World) (hl : ps.length ≤ 4398046511104) (hl2 : qs.length ≤ 4398046511104) (hp : PartsAt w ao ps) (hq : PartsAt w bo qs) :
    Calls Try.prog 17 #[.slice ao ps.length cap, .slice bo qs.length cap2] w fun e w' => e = .returned (.tuple #[.int .i64 (cmpAns ps qs).1, .int .i64 (cmpAns ps qs).2]) ∧ Below w.heap.size w w' := by
  go_enter Try.func17, Try.ntmps17
  go_wp2_with fail
  refine (rallValid_calls ao cap ps w hl hp).mono ?_
  rintro e w1 ⟨rfl, hb1⟩
  have hq1 := hq.below hb1
  have hp1 := hp.below hb1
  cases hv : ps.all vldB with
  | false =>
    have HA : Hid (cmpAns ps qs = (0, 10)) := by simp only [cmpAns, hv, Hid]; rfl
    clear hv
    go_wp2
    go_ret2
    rw [HA.out]
    exact ⟨rfl, hb1⟩
  | true =>
    go_wp2_with fail
    refine (rallValid_calls bo cap2 qs w1 hl2 hq1).mono ?_
    rintro e w2 ⟨rfl, hb2⟩
    have hq2 := hq1.below hb2
    have hp2 := hp1.below hb2
    have hb3 : Below w.heap.size w w2 := hb1.trans (hb2.mono hb1.size)
    cases hv2 : qs.all vldB with
    | false =>
      have HA : Hid (cmpAns ps qs = (0, 10)) := by simp only [cmpAns, hv2, Bool.and_false, Hid]; rfl
      clear hv hv2
      go_wp2
      go_ret2
      rw [HA.out]
      exact ⟨rfl, hb3⟩
    | true =>
      have HA : Hid (cmpAns ps qs = (cmpL ps qs, 0)) := by simp only [cmpAns, hv, hv2, Hid]; rfl
      have HV : Hid (∀ i (h : i < ps.length), vldB ps[i] = true) := fun i h => (List.all_eq_true.1 hv) _ (List.getElem_mem h)
      have HV2 : Hid (∀ i (h : i < qs.length), vldB qs[i] = true) := fun i h => (List.all_eq_true.1 hv2) _ (List.getElem_mem h)
      clear hv hv2 hp hq hp1 hq1 hb1 hb2
      go_wp2
      go_loopw [6] (fun i wr => ∃ k : Nat, k ≤ ps.length ∧ k ≤ qs.length ∧ i = .int .i64 k ∧ Hid (cmpL (ps.drop k) (qs.drop k) = cmpL ps qs) ∧ Below w.heap.size w wr ∧ Below w2.heap.size w2 wr) (fun i _ => ps.length - (intOf i).toNat)
      case atStart => exact ⟨0, Nat.zero_le _, Nat.zero_le _, rfl, by simp [Hid], hb3, Below.refl _ _⟩
      case round =>
        obtain ⟨k, hk, hk', rfl, HC, hb, hbx⟩ := hrel
        by_cases hlt : k < ps.length ∧ k < qs.length
        · obtain ⟨hlt1, hlt2⟩ := hlt
          obtain ⟨b, off, rfl, h0, h1, h2, hwf⟩ := (hp2.below hbx) k ps[k] (by simp [hlt1])
          obtain ⟨b', off', rfl, h0', h1', h2', hwf'⟩ := (hq2.below hbx) k qs[k] (by simp [hlt2])
          have hli : (k : Int) < (ps.length : Int) := by omega
          have hli2 : (k : Int) < (qs.length : Int) := by omega
          have hdd : decide ((k : Int) < (ps.length : Int)) = true := by simpa using hlt1
          by_cases hA : ps[k].k < qs[k].k
          · have hAd : decide (ps[k].k < qs[k].k) = true := by simpa using hA
            have HX : Hid (cmpL ps qs = -1) := by
              show _ = _
              obtain ⟨e1, e2⟩ := cmpP_ahead (HV.out k hlt1) (HV2.out k hlt2) (show ahead ps[k] qs[k] = true by simp [ahead, hA])
              rw [← HC.out, cmpL_drop ps qs k hlt1 hlt2, e1, e2]; rfl
            go_wp2
            go_quiet (fail)
            go_wp2
            go_light
            go_ret2
            rw [HA.out, HX.out]
            exact ⟨rfl, by first | exact below_drewN hb _ | exact below_drewN (below_drewN hb _) _⟩
          · have hAd : decide (ps[k].k < qs[k].k) = false := by simpa using hA
            by_cases hE : ps[k].k = qs[k].k
            · have hEd : (ps[k].k == qs[k].k) = true := by simpa using hE
              have HEk : Hid (ps[k].k = qs[k].k) := hE
              cases hLs : Op.bytesLess ps[k].t.toList qs[k].t.toList with
              | true =>
                have hless : ∀ wx, Calls Try.prog 23 #[.string ps[k].t, .string qs[k].t] wx fun e w' => e = .returned (.bool true) ∧ ∃ n, w' = wx.drewN n := fun wx => by
                  have := less_calls ps[k].t qs[k].t wx hwf.2.2 hwf'.2.2; rw [hLs] at this; exact this
                have HLs : Hid (Op.bytesLess ps[k].t.toList qs[k].t.toList = true) := hLs
                have HX : Hid (cmpL ps qs = -1) := by
                  show _ = _
                  obtain ⟨e1, e2⟩ := cmpP_ahead (HV.out k hlt1) (HV2.out k hlt2) (show ahead ps[k] qs[k] = true by simp [ahead, hE, hLs])
                  rw [← HC.out, cmpL_drop ps qs k hlt1 hlt2, e1, e2]; rfl
                clear hLs hE
                go_wp2
                go_quiet ((go_at_call 23; exact Calls.quiet_of (hless _)))
                go_wp2
                go_light
                go_ret2
                rw [HA.out, HX.out]
                exact ⟨rfl, by first | exact below_drewN hb _ | exact below_drewN (below_drewN hb _) _⟩
              | false =>
                have hless : ∀ wx, Calls Try.prog 23 #[.string ps[k].t, .string qs[k].t] wx fun e w' => e = .returned (.bool false) ∧ ∃ n, w' = wx.drewN n := fun wx => by
                  have := less_calls ps[k].t qs[k].t wx hwf.2.2 hwf'.2.2; rw [hLs] at this; exact this
                by_cases hN : ps[k].n < qs[k].n
                · have hNd : decide (ps[k].n < qs[k].n) = true := by simpa using hN
                  have HX : Hid (cmpL ps qs = -1) := by
                    show _ = _
                    obtain ⟨e1, e2⟩ := cmpP_ahead (HV.out k hlt1) (HV2.out k hlt2) (show ahead ps[k] qs[k] = true by simp [ahead, hE, hN])
                    rw [← HC.out, cmpL_drop ps qs k hlt1 hlt2, e1, e2]; rfl
                  clear hLs hE
                  go_wp2
                  go_quiet ((go_at_call 23; exact Calls.quiet_of (hless _)))
                  go_wp2
                  go_light
                  go_ret2
                  rw [HA.out, HX.out]
                  exact ⟨rfl, by first | exact below_drewN hb _ | exact below_drewN (below_drewN hb _) _⟩
                · have hNd : decide (ps[k].n < qs[k].n) = false := by simpa using hN
                  have HAh : Hid (ahead ps[k] qs[k] = false) := by simp [ahead, hE, hLs, hN, Hid]
                  clear hLs hE
                  go_wp2
                  go_quiet ((go_at_call 23; exact Calls.quiet_of (hless _)))
                  go_wp2
                  have hrun := run_neq_part ps[k].k ps[k].n qs[k].k qs[k].n ps[k].t qs[k].t
                  have hgd := guard_part
                  go_quiet (fail)
                  clear hrun hgd
                  generalize hbq : ptEq ⟨ps[k].k, ps[k].t, ps[k].n⟩ ⟨qs[k].k, qs[k].t, qs[k].n⟩ = bq
                  have HB : Hid (ptEq ps[k] qs[k] = bq) := hbq
                  clear hbq
                  cases bq with
                  | true =>
                    have HC2 : Hid (cmpL (ps.drop (k + 1)) (qs.drop (k + 1)) = cmpL ps qs) := by
                      show _ = _
                      rw [← HC.out, cmpL_drop ps qs k hlt1 hlt2, HB.out]; rfl
                    go_wp2
                    go_roundw
                    case rel => exact ⟨k + 1, by omega, by omega, by go_num, HC2, by first | exact below_drewN hb _ | exact below_drewN (below_drewN hb _) _, by first | exact below_drewN hbx _ | exact below_drewN (below_drewN hbx _) _⟩
                    case measure => simp [intOf]; omega
                  | false =>
                    have HX : Hid (cmpL ps qs = 1) := by
                      show _ = _
                      rw [← HC.out, cmpL_drop ps qs k hlt1 hlt2, HB.out, cmpP_behind (HV.out k hlt1) (HV2.out k hlt2) HAh.out (fun e => by
                        have h := HB.out; rw [(ptEq_iff _ _).2 e] at h; exact absurd h (by decide))]; rfl
                    go_wp2
                    go_light
                    go_ret2
                    rw [HA.out, HX.out]
                    exact ⟨rfl, by first | exact below_drewN hb _ | exact below_drewN (below_drewN hb _) _⟩
            · have hEd : (ps[k].k == qs[k].k) = false := by simpa using hE
              have HAh : Hid (ahead ps[k] qs[k] = false) := by simp [ahead, hA, hE, Hid]
              go_wp2
              go_quiet (fail)
              go_wp2
              have hrun := run_neq_part ps[k].k ps[k].n qs[k].k qs[k].n ps[k].t qs[k].t
              have hgd := guard_part
              go_quiet (fail)
              clear hrun hgd
              generalize hbq : ptEq ⟨ps[k].k, ps[k].t, ps[k].n⟩ ⟨qs[k].k, qs[k].t, qs[k].n⟩ = bq
              have HB : Hid (ptEq ps[k] qs[k] = bq) := hbq
              clear hbq
              cases bq with
              | true =>
                have HC2 : Hid (cmpL (ps.drop (k + 1)) (qs.drop (k + 1)) = cmpL ps qs) := by
                  show _ = _
                  rw [← HC.out, cmpL_drop ps qs k hlt1 hlt2, HB.out]; rfl
                go_wp2
                go_roundw
                case rel => exact ⟨k + 1, by omega, by omega, by go_num, HC2, by first | exact below_drewN hb _ | exact below_drewN (below_drewN hb _) _, by first | exact below_drewN hbx _ | exact below_drewN (below_drewN hbx _) _⟩
                case measure => simp [intOf]; omega
              | false =>
                have HX : Hid (cmpL ps qs = 1) := by
                  show _ = _
                  rw [← HC.out, cmpL_drop ps qs k hlt1 hlt2, HB.out, cmpP_behind (HV.out k hlt1) (HV2.out k hlt2) HAh.out (fun e => by
                    have h := HB.out; rw [(ptEq_iff _ _).2 e] at h; exact absurd h (by decide))]; rfl
                go_wp2
                go_light
                go_ret2
                rw [HA.out, HX.out]
                exact ⟨rfl, by first | exact below_drewN hb _ | exact below_drewN (below_drewN hb _) _⟩
        · have HX : Hid (cmpI ps.length qs.length = cmpL ps qs) := by
            show _ = _
            rw [← HC.out, cmpL_end ps qs k hlt hk hk']
          by_cases hP : k < ps.length
          · have hd1 : decide ((k : Int) < (ps.length : Int)) = true := by simpa using hP
            have hd2 : ¬ (k : Int) < (qs.length : Int) := by omega
            clear hlt
            rcases Int.lt_trichotomy (ps.length : Int) (qs.length : Int) with h | h | h
            · have HY : Hid (cmpL ps qs = -1) := by
                show _ = _
                rw [← HX.out, cmpI, if_pos h]
              go_wp2
              go_light
              go_ret2
              rw [HA.out, HY.out]
              exact ⟨rfl, hb⟩
            · have HY : Hid (cmpL ps qs = 0) := by
                show _ = _
                rw [← HX.out, cmpI, if_neg (by omega), if_neg (by omega)]
              have g1 : ¬ (ps.length : Int) < (qs.length : Int) := by omega
              have g2 : ¬ (qs.length : Int) < (ps.length : Int) := by omega
              clear h
              go_wp2
              go_light
              go_ret2
              rw [HA.out, HY.out]
              exact ⟨rfl, hb⟩
            · have HY : Hid (cmpL ps qs = 1) := by
                show _ = _
                rw [← HX.out, cmpI, if_neg (by omega), if_pos h]
              have g1 : ¬ (ps.length : Int) < (qs.length : Int) := by omega
              go_wp2
              go_light
              go_ret2
              rw [HA.out, HY.out]
              exact ⟨rfl, hb⟩
          · have hd1 : decide ((k : Int) < (ps.length : Int)) = false := by simpa using hP
            clear hlt
            rcases Int.lt_trichotomy (ps.length : Int) (qs.length : Int) with h | h | h
            · have HY : Hid (cmpL ps qs = -1) := by
                show _ = _
                rw [← HX.out, cmpI, if_pos h]
              go_wp2
              go_light
              go_ret2
              rw [HA.out, HY.out]
              exact ⟨rfl, hb⟩
            · have HY : Hid (cmpL ps qs = 0) := by
                show _ = _
                rw [← HX.out, cmpI, if_neg (by omega), if_neg (by omega)]
              have g1 : ¬ (ps.length : Int) < (qs.length : Int) := by omega
              have g2 : ¬ (qs.length : Int) < (ps.length : Int) := by omega
              clear h
              go_wp2
              go_light
              go_ret2
              rw [HA.out, HY.out]
              exact ⟨rfl, hb⟩
            · have HY : Hid (cmpL ps qs = 1) := by
                show _ = _
                rw [← HX.out, cmpI, if_neg (by omega), if_pos h]
              have g1 : ¬ (ps.length : Int) < (qs.length : Int) := by omega
              go_wp2
              go_light
              go_ret2
              rw [HA.out, HY.out]
              exact ⟨rfl, hb⟩
end Go.Proofs.Ytehbclliiphglaa
