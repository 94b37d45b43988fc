import Derived.Test.YtjbnbpclelbohaaRwHas
import Derived.Lib.QuietBelow
import Derived.Test.YtjbnbpclelbohaaKAllValid
/- The walks of cmp.Compare at int, uint64 and string, and of compareParts. -/
namespace Go.Proofs.Ytjbnbpclelbohaa
open Go.RowKit
set_option linter.unusedVariables false

def cmpI (a b : Int) : Int := if a < b then -1 else if b < a then 1 else 0
def cmpS (a b : List UInt8) : Int := if Op.bytesLess a b then -1 else if a == b then 0 else 1

theorem ret_int {k : IntKind} {a b : Int} (h : a = b) : Ending.returned (.int k a) = .returned (.int k b) := by rw [h]

set_option maxHeartbeats 400000 in
theorem cmpInt_calls (a b : Int) (w : World) : Calls Try.prog 63 #[.int .i64 a, .int .i64 b] w fun e w' => e = .returned (.int .i64 (cmpI a b)) ∧ w' = w := by
  go_enter Try.func63, Try.ntmps63
  go_wp2
  all_goals go_light
  all_goals go_ret
  all_goals refine ⟨ret_int ?_, rfl⟩
  all_goals (unfold cmpI; repeat' split) <;> omega
set_option maxHeartbeats 400000 in
theorem cmpU64_calls (a b : Int) (w : World) : Calls Try.prog 80 #[.int .u64 a, .int .u64 b] w fun e w' => e = .returned (.int .i64 (cmpI a b)) ∧ w' = w := by
  go_enter Try.func80, Try.ntmps80
  go_wp2
  all_goals go_light
  all_goals go_ret
  all_goals refine ⟨ret_int ?_, rfl⟩
  all_goals (unfold cmpI; repeat' split) <;> omega
set_option maxHeartbeats 400000 in
theorem cmpStr_calls (a b : ByteArray) (w : World) : Calls Try.prog 79 #[.string a, .string b] w fun e w' => e = .returned (.int .i64 (cmpS a.toList b.toList)) ∧ w' = w := by
  go_enter Try.func79, Try.ntmps79
  go_wp2
  all_goals go_light
  all_goals go_ret
  all_goals refine ⟨ret_int ?_, rfl⟩
  · have h : Op.bytesLess a.toList b.toList = true := ‹_›
    simp [cmpS, h]
  · have h : Op.bytesLess a.toList b.toList = false := ‹_›
    have h2 : (!a.toList == b.toList) = true := ‹_›
    simp at h2
    simp [cmpS, h, h2]
  · have h : Op.bytesLess a.toList b.toList = false := ‹_›
    have h2 : (!a.toList == b.toList) = false := ‹_›
    have h3 : (a.toList == b.toList) = true := by simpa using h2
    rw [cmpS, if_neg (by rw [h]; decide), if_pos h3]

def cmpP (p q : Pt) : Int := if p.k == q.k then if p.k == 1 then cmpS p.t.toList q.t.toList else cmpI p.n q.n else cmpI p.k q.k

set_option maxHeartbeats 400000 in
theorem compareParts_calls (k n k' n' : Int) (t t' : ByteArray) (w : World) :
    Calls Try.prog 62 #[.agg #[.int .i64 k, .string t, .int .u64 n], .agg #[.int .i64 k', .string t', .int .u64 n']] w fun e w' => e = .returned (.int .i64 (cmpP ⟨k, t, n⟩ ⟨k', t', n'⟩)) ∧ Below w.heap.size w w' := by
  have hbl : ∀ a b : Obj, Below w.heap.size w ((w.alloc a).alloc b) := fun a b => ((Below.refl _ _).alloc (Nat.le_refl _) _).alloc (by simp) _
  by_cases hk : k = k'
  · have hkb : (k != k') = false := by simpa using hk
    by_cases h1 : k = 1
    · have h1b : (k == 1) = true := by simpa using h1
      have HC : Hid (cmpP ⟨k, t, n⟩ ⟨k', t', n'⟩ = cmpS t.toList t'.toList) := by simp [cmpP, hk, Hid]; omega
      clear hk h1
      go_enter Try.func62, Try.ntmps62
      go_wp2_with fail
      refine (cmpStr_calls t t' _).mono ?_
      rintro e w1 ⟨rfl, rfl⟩
      go_wp2
      go_ret
      exact ⟨ret_int HC.out.symm, hbl _ _⟩
    · have h1b : (k == 1) = false := by simpa using h1
      have HC : Hid (cmpP ⟨k, t, n⟩ ⟨k', t', n'⟩ = cmpI n n') := by simp [cmpP, hk, Hid]; intro h; omega
      clear hk h1
      go_enter Try.func62, Try.ntmps62
      go_wp2_with fail
      refine (cmpU64_calls n n' _).mono ?_
      rintro e w1 ⟨rfl, rfl⟩
      go_wp2
      go_ret
      exact ⟨ret_int HC.out.symm, hbl _ _⟩
  · have hkb : (k != k') = true := by simpa using hk
    have HC : Hid (cmpP ⟨k, t, n⟩ ⟨k', t', n'⟩ = cmpI k k') := by simp [cmpP, hk, Hid]
    clear hk
    go_enter Try.func62, Try.ntmps62
    go_wp2_with fail
    refine (cmpInt_calls k k' _).mono ?_
    rintro e w1 ⟨rfl, rfl⟩
    go_wp2
    go_ret
    exact ⟨ret_int HC.out.symm, hbl _ _⟩
end Go.Proofs.Ytjbnbpclelbohaa

/- The walk of Compare. -/
namespace Go.Proofs.Ytjbnbpclelbohaa
open Go.RowKit Go.Sort
set_option linter.unusedVariables false

/-- The order of two lists. -/
def cmpL : List Pt → List Pt → Int
  | [], [] => 0
  | [], _ :: _ => -1
  | _ :: _, [] => 1
  | p :: ps, q :: qs => if ptEq p q then cmpL ps qs else cmpP p q

def cmpAns (ps qs : List Pt) : Int × Int := if ps.all vldB && qs.all vldB then (cmpL ps qs, 0) else (0, 10)

theorem cmpL_drop (ps qs : List Pt) (k : Nat) (h : k < ps.length) (h2 : k < qs.length) : cmpL (ps.drop k) (qs.drop k) = if ptEq ps[k] qs[k] then cmpL (ps.drop (k + 1)) (qs.drop (k + 1)) else cmpP ps[k] qs[k] := by
  rw [List.drop_eq_getElem_cons h, List.drop_eq_getElem_cons h2, cmpL]
theorem cmpL_end (ps qs : List Pt) (k : Nat) (h : ¬ (k < ps.length ∧ k < qs.length)) (h1 : k ≤ ps.length) (h2 : k ≤ qs.length) : cmpL (ps.drop k) (qs.drop k) = cmpI ps.length qs.length := by
  by_cases hp : k = ps.length
  · rw [List.drop_eq_nil_of_le (by omega)]
    by_cases hq : k = qs.length
    · rw [List.drop_eq_nil_of_le (by omega)]
      simp [cmpL, cmpI]
      split <;> omega
    · rw [List.drop_eq_getElem_cons (i := k) (l := qs) (by omega)]
      simp only [cmpL, cmpI]
      rw [if_pos (by omega)]
  · have hq : k = qs.length := by omega
    rw [show qs.drop k = [] from List.drop_eq_nil_of_le (by omega), List.drop_eq_getElem_cons (i := k) (l := ps) (by omega)]
    simp only [cmpL, cmpI]
    rw [if_neg (by omega), if_pos (by omega)]

set_option maxHeartbeats 1000000 in
theorem compare_calls (ao bo : Option Addr) (cap cap2 : Nat) (ps qs : List Pt) (w : World) (hl : ps.length ≤ 4398046511104) (hl2 : qs.length ≤ 4398046511104) (hp : PartsAt w ao ps) (hq : PartsAt w bo qs) :
    Calls Try.prog 43 #[.slice ao ps.length cap, .slice bo qs.length cap2] w fun e w' => e = .returned (.tuple #[.int .i64 (cmpAns ps qs).1, .int .i64 (cmpAns ps qs).2]) ∧ Below w.heap.size w w' := by
  go_enter Try.func43, Try.ntmps43
  go_wp2_with fail
  refine (allValid_calls ao cap ps w hl hp).mono ?_
  rintro e w1 ⟨rfl, hb1⟩
  have hq1 := hq.below hb1
  have hp1 := hp.below hb1
  cases hv : ps.all vldB with
  | false =>
    have HA : Hid (cmpAns ps qs = (0, 10)) := by simp only [cmpAns, hv, Hid]; rfl
    clear hv
    go_wp2
    go_ret2
    rw [HA.out]
    exact ⟨rfl, hb1⟩
  | true =>
    go_wp2_with fail
    refine (allValid_calls bo cap2 qs w1 hl2 hq1).mono ?_
    rintro e w2 ⟨rfl, hb2⟩
    have hq2 := hq1.below hb2
    have hp2 := hp1.below hb2
    have hb3 : Below w.heap.size w w2 := hb1.trans (hb2.mono hb1.size)
    cases hv2 : qs.all vldB with
    | false =>
      have HA : Hid (cmpAns ps qs = (0, 10)) := by simp only [cmpAns, hv2, Bool.and_false, Hid]; rfl
      clear hv hv2
      go_wp2
      go_ret2
      rw [HA.out]
      exact ⟨rfl, hb3⟩
    | true =>
      have HA : Hid (cmpAns ps qs = (cmpL ps qs, 0)) := by simp only [cmpAns, hv, hv2, Hid]; rfl
      clear hv hv2 hp hq hp1 hq1 hb1 hb2
      rcases Nat.lt_or_ge qs.length ps.length with hle | hle
      · have hlei : (qs.length : Int) < (ps.length : Int) := by omega
        go_wp2
        go_loopw [20] (fun i wr => ∃ k : Nat, k ≤ qs.length ∧ i = .int .i64 k ∧ Hid (cmpL (ps.drop k) (qs.drop k) = cmpL ps qs) ∧ Below w.heap.size w wr ∧ Below w2.heap.size w2 wr) (fun i _ => qs.length - (intOf i).toNat)
        case atStart => exact ⟨0, Nat.zero_le _, rfl, by simp [Hid], hb3, Below.refl _ _⟩
        case round =>
          obtain ⟨k, hk, rfl, HC, hb, hbx⟩ := hrel
          by_cases hlt : k < qs.length
          · have hlt1 : k < ps.length := by omega
            have hlt2 : k < qs.length := by omega
            obtain ⟨b, off, rfl, h0, h1, h2, hwf⟩ := (hp2.below hbx) k ps[k] (by simp [hlt1])
            obtain ⟨b', off', rfl, h0', h1', h2', hwf'⟩ := (hq2.below hbx) k qs[k] (by simp [hlt2])
            have hli : (k : Int) < (ps.length : Int) := by omega
            have hli2 : (k : Int) < (qs.length : Int) := by omega
            have hrun := run_eql_part ps[k].k ps[k].n qs[k].k qs[k].n ps[k].t qs[k].t
            have hgd := guard_part
            go_wp2
            go_quiet (fail)
            clear hrun hgd
            generalize hbq : ptEq ⟨ps[k].k, ps[k].t, ps[k].n⟩ ⟨qs[k].k, qs[k].t, qs[k].n⟩ = bq
            have HB : Hid (ptEq ps[k] qs[k] = bq) := hbq
            clear hbq
            cases bq with
            | true =>
              have HC2 : Hid (cmpL (ps.drop (k + 1)) (qs.drop (k + 1)) = cmpL ps qs) := by
                show _ = _
                rw [← HC.out, cmpL_drop ps qs k hlt1 hlt2, HB.out]; rfl
              go_wp2
              go_roundw
              case rel => exact ⟨k + 1, by omega, by go_num, HC2, below_drewN hb _, below_drewN hbx _⟩
              case measure => simp [intOf]; omega
            | false =>
              have HC2 : Hid (cmpP ps[k] qs[k] = cmpL ps qs) := by
                show _ = _
                rw [← HC.out, cmpL_drop ps qs k hlt1 hlt2, HB.out]; rfl
              go_wp2
              have e0 : (wr.drewN nq).cell? ⟨b, off + k * 3, none⟩ = some (.int .i64 ps[k].k) := h0
              have e1 : (wr.drewN nq).cell? ⟨b, off + k * 3 + 1, none⟩ = some (.string ps[k].t) := h1
              have e2 : (wr.drewN nq).cell? ⟨b, off + k * 3 + 2, none⟩ = some (.int .u64 ps[k].n) := h2
              have f0 : (wr.drewN nq).cell? ⟨b', off' + k * 3, none⟩ = some (.int .i64 qs[k].k) := h0'
              have f1 : (wr.drewN nq).cell? ⟨b', off' + k * 3 + 1, none⟩ = some (.string qs[k].t) := h1'
              have f2 : (wr.drewN nq).cell? ⟨b', off' + k * 3 + 2, none⟩ = some (.int .u64 qs[k].n) := h2'
              have k0 := cell_regrown e0
              have k1 := cell_regrown e1
              have k2 := cell_regrown e2
              have j0 := cell_regrown f0
              have j1 := cell_regrown f1
              have j2 := cell_regrown f2
              have cC := fun d os => Calls.regrown_of (compareParts_calls ps[k].k ps[k].n qs[k].k qs[k].n ps[k].t qs[k].t (grow (redrawn (wr.drewN nq) d) os))
              clear e0 e1 e2 f0 f1 f2 h0 h1 h2 h0' h1' h2'
              refine wp_region_quiet_below (by kernel_rfl) (by kernel_rfl) ?_
              repeat (quiet_step (exact cC _ _))
              refine wpQuiet_nil ?_
              intro _ hw'
              obtain ⟨⟨dq, osq⟩, hw''⟩ := hw'
              subst hw''
              clear cC k0 k1 k2 j0 j1 j2
              go_wp2
              go_ret2
              rw [HA.out, show cmpL ps qs = cmpP ⟨ps[k].k, ps[k].t, ps[k].n⟩ ⟨qs[k].k, qs[k].t, qs[k].n⟩ from HC2.out.symm]
              exact ⟨rfl, (below_drewN hb _).trans ((below_regrown _ dq osq).mono (below_drewN hb nq).size)⟩
          · obtain rfl : k = qs.length := by omega
            have HC2 : Hid (cmpI ps.length qs.length = cmpL ps qs) := by
              show _ = _
              rw [← HC.out, cmpL_end ps qs qs.length (by omega) (by omega) (by omega)]
            go_wp2_with fail
            refine (cmpInt_calls _ _ _).mono ?_
            rintro e w3 ⟨rfl, rfl⟩
            go_wp2
            go_ret2
            rw [HA.out, ← HC2.out]
            exact ⟨rfl, hb⟩
      · have hlei : (ps.length : Int) ≤ (qs.length : Int) := by omega
        go_wp2
        go_loopw [20] (fun i wr => ∃ k : Nat, k ≤ ps.length ∧ i = .int .i64 k ∧ Hid (cmpL (ps.drop k) (qs.drop k) = cmpL ps qs) ∧ Below w.heap.size w wr ∧ Below w2.heap.size w2 wr) (fun i _ => ps.length - (intOf i).toNat)
        case atStart => exact ⟨0, Nat.zero_le _, rfl, by simp [Hid], hb3, Below.refl _ _⟩
        case round =>
          obtain ⟨k, hk, rfl, HC, hb, hbx⟩ := hrel
          by_cases hlt : k < ps.length
          · have hlt1 : k < ps.length := by omega
            have hlt2 : k < qs.length := by omega
            obtain ⟨b, off, rfl, h0, h1, h2, hwf⟩ := (hp2.below hbx) k ps[k] (by simp [hlt1])
            obtain ⟨b', off', rfl, h0', h1', h2', hwf'⟩ := (hq2.below hbx) k qs[k] (by simp [hlt2])
            have hli : (k : Int) < (ps.length : Int) := by omega
            have hli2 : (k : Int) < (qs.length : Int) := by omega
            have hrun := run_eql_part ps[k].k ps[k].n qs[k].k qs[k].n ps[k].t qs[k].t
            have hgd := guard_part
            go_wp2
            go_quiet (fail)
            clear hrun hgd
            generalize hbq : ptEq ⟨ps[k].k, ps[k].t, ps[k].n⟩ ⟨qs[k].k, qs[k].t, qs[k].n⟩ = bq
            have HB : Hid (ptEq ps[k] qs[k] = bq) := hbq
            clear hbq
            cases bq with
            | true =>
              have HC2 : Hid (cmpL (ps.drop (k + 1)) (qs.drop (k + 1)) = cmpL ps qs) := by
                show _ = _
                rw [← HC.out, cmpL_drop ps qs k hlt1 hlt2, HB.out]; rfl
              go_wp2
              go_roundw
              case rel => exact ⟨k + 1, by omega, by go_num, HC2, below_drewN hb _, below_drewN hbx _⟩
              case measure => simp [intOf]; omega
            | false =>
              have HC2 : Hid (cmpP ps[k] qs[k] = cmpL ps qs) := by
                show _ = _
                rw [← HC.out, cmpL_drop ps qs k hlt1 hlt2, HB.out]; rfl
              go_wp2
              have e0 : (wr.drewN nq).cell? ⟨b, off + k * 3, none⟩ = some (.int .i64 ps[k].k) := h0
              have e1 : (wr.drewN nq).cell? ⟨b, off + k * 3 + 1, none⟩ = some (.string ps[k].t) := h1
              have e2 : (wr.drewN nq).cell? ⟨b, off + k * 3 + 2, none⟩ = some (.int .u64 ps[k].n) := h2
              have f0 : (wr.drewN nq).cell? ⟨b', off' + k * 3, none⟩ = some (.int .i64 qs[k].k) := h0'
              have f1 : (wr.drewN nq).cell? ⟨b', off' + k * 3 + 1, none⟩ = some (.string qs[k].t) := h1'
              have f2 : (wr.drewN nq).cell? ⟨b', off' + k * 3 + 2, none⟩ = some (.int .u64 qs[k].n) := h2'
              have k0 := cell_regrown e0
              have k1 := cell_regrown e1
              have k2 := cell_regrown e2
              have j0 := cell_regrown f0
              have j1 := cell_regrown f1
              have j2 := cell_regrown f2
              have cC := fun d os => Calls.regrown_of (compareParts_calls ps[k].k ps[k].n qs[k].k qs[k].n ps[k].t qs[k].t (grow (redrawn (wr.drewN nq) d) os))
              clear e0 e1 e2 f0 f1 f2 h0 h1 h2 h0' h1' h2'
              refine wp_region_quiet_below (by kernel_rfl) (by kernel_rfl) ?_
              repeat (quiet_step (exact cC _ _))
              refine wpQuiet_nil ?_
              intro _ hw'
              obtain ⟨⟨dq, osq⟩, hw''⟩ := hw'
              subst hw''
              clear cC k0 k1 k2 j0 j1 j2
              go_wp2
              go_ret2
              rw [HA.out, show cmpL ps qs = cmpP ⟨ps[k].k, ps[k].t, ps[k].n⟩ ⟨qs[k].k, qs[k].t, qs[k].n⟩ from HC2.out.symm]
              exact ⟨rfl, (below_drewN hb _).trans ((below_regrown _ dq osq).mono (below_drewN hb nq).size)⟩
          · obtain rfl : k = ps.length := by omega
            have HC2 : Hid (cmpI ps.length qs.length = cmpL ps qs) := by
              show _ = _
              rw [← HC.out, cmpL_end ps qs ps.length (by omega) (by omega) (by omega)]
            go_wp2_with fail
            refine (cmpInt_calls _ _ _).mono ?_
            rintro e w3 ⟨rfl, rfl⟩
            go_wp2
            go_ret2
            rw [HA.out, ← HC2.out]
            exact ⟨rfl, hb⟩
end Go.Proofs.Ytjbnbpclelbohaa
