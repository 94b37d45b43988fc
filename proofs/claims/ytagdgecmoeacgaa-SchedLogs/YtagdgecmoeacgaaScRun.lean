/- Layer 17 (sched): slices.Contains over bools, Run. -/
import Derived.Test.YtagdgecmoeacgaaScRunM
namespace Go.Proofs.Ytagdgecmoeacgaa
open Go.RowKit
set_option linter.unusedVariables false
variable {S S' : Nat → Prop}

theorem containsB_calls (ro : Option Addr) (n rc : Nat) (r : List Bool) (w : World) (hn : r.length = n) (hm : n ≤ 140737488355328) (hr : VAt w ro (r.map bV)) :
    Calls Try.prog 21 #[.slice ro n rc, .bool true] w fun e w' => e = .returned (.bool (decide (0 < r.count true))) ∧ w' = w := by
  have HI := idxB_calls ro n rc r w hn hm hr
  obtain ⟨Z, HZ⟩ : ∃ Z, Hid (Z = decide (0 < r.count true)) := ⟨_, rfl⟩
  rw [← HZ.out]
  by_cases h : 0 < r.count true
  · have hi : idxB r = (ftB r : Int) := if_pos (ftB_lt r h)
    have HT : Hid (Z = true) := by rw [Hid, HZ.out]; exact decide_eq_true h
    rw [hi] at HI
    clear hi h hr HZ
    go_enter Try.func21, Try.ntmps21
    go_wp2_with fail
    refine HI.mono ?_
    clear HI
    rintro e w1 ⟨rfl, rfl⟩
    go_wp2
    go_ret
    exact ⟨by rw [HT.out]; rfl, rfl⟩
  · have hi : idxB r = -1 := if_neg (by rw [ftB_none r (by omega)]; omega)
    have HT : Hid (Z = false) := by rw [Hid, HZ.out]; exact decide_eq_false h
    rw [hi] at HI
    clear hi h hr HZ
    go_enter Try.func21, Try.ntmps21
    go_wp2_with fail
    refine HI.mono ?_
    clear HI
    rintro e w1 ⟨rfl, rfl⟩
    go_wp2
    go_ret
    exact ⟨by rw [HT.out]; rfl, rfl⟩

theorem meth_ready (w : World) (b : Nat) : (method 88 59 (.pointer (some ⟨b, 0, none⟩)) "Ready").run Try.prog w = .ok (45, .pointer (some ⟨b, 0, none⟩)) w := by kernel_rfl
theorem meth_step (w : World) (b : Nat) : (method 88 59 (.pointer (some ⟨b, 0, none⟩)) "Step").run Try.prog w = .ok (46, .pointer (some ⟨b, 0, none⟩)) w := by kernel_rfl

section
attribute [local go_sem] Oper.semAt_some
theorem runC_idle (w : World) : CallsD Try.prog 20 #[] .returning w fun e u' w' => e = .returned (.tuple #[]) ∧ u' = .returning ∧ w' = w := by
  refine callsD_of_wpS Try.func20 rfl fun c₀ cs hu => ?_
  apply wpS_region
  simp [wpOpsS, go_sem, recoverD, hu, Try.ntmps20]
  refine ⟨rfl, .returning, ?_, .tuple #[], results_none rfl _ _ _, rfl, rfl, rfl⟩
  rw [← hu]
end

theorem rdy_at {ws : List Wk} {D : List Nat} {j : Nat} {x : Wk} (h : ws[j]? = some x) : (rdyP ws D).getD j false = (decide (x.start ≤ (D.length : Int)) && decide ((x.done : Int) < x.work)) := by
  rw [List.getD_eq_getElem?_getD]
  simp [rdyP, h]
theorem ws_at {ws : List Wk} {bs : List Nat} (h : ws.map (·.b) = bs) {j : Nat} (hj : j < bs.length) : ∃ x, ws[j]? = some x ∧ bs[j] = x.b := by
  subst h
  rw [List.length_map] at hj
  exact ⟨ws[j], List.getElem?_eq_getElem hj, by simp⟩
/-- What Run leaves. -/
def RunW (w : World) (T1 T2 : Nat → Prop) (lb cb : Nat) (s s' : St) (e : Ending) (w' : World) : Prop :=
  e = .returned (.int .i64 ((s'.D.length - s.D.length : Nat) : Int)) ∧ (∃ S1 S2, StI w' S1 S2 lb cb s' ∧ (∀ k, S1 k → T1 k ∨ w.heap.size ≤ k) ∧ (∀ k, S2 k → T2 k ∨ w.heap.size ≤ k)) ∧ Frm (fun k => T1 k ∨ T2 k) w w' ∧ s'.ws.map (·.b) = s.ws.map (·.b)

set_option maxRecDepth 100000 in
set_option maxHeartbeats 4000000 in
theorem run_calls {T1 T2 : Nat → Prop} (w : World) (lb cb n ac mx : Nat) (ao : Option Addr) (s : St) (most : Int) (h : StI w T1 T2 lb cb s) (hn : s.ws.length = n) (ha : VAt w ao ((s.ws.map (·.b)).map acB)) (hd : ∀ a, ao = some a → ¬ T1 a.block ∧ ¬ T2 a.block) (hnm : n ≤ 1099511627776) (hm : most.toNat = mx) (hmx : mx ≤ 1048576) (hD : s.D.length + mx ≤ 1099511627776) :
    Calls Try.prog 14 #[.slice ao n ac, .pointer (some ⟨cb, 0, none⟩), .int .i64 most] w (RunW w T1 T2 lb cb s (runR mx s)) := by
  have HA : Hid (VAt w ao ((s.ws.map (·.b)).map acB)) := ha
  have HD : Hid (∀ a, ao = some a → ¬ T1 a.block ∧ ¬ T2 a.block) := hd
  have hmf : ∀ (fn : Fn) (first cap : Array Value) (w : World), (Instr.makeFunc fn first cap).run Try.prog w = .ok (.func fn first cap) w := fun _ _ _ _ => rfl
  obtain ⟨w1, hmk, ho1, hb1⟩ := make_bool w n (by omega)
  obtain ⟨g, Hg⟩ : ∃ g, Hid (g = w.heap.size) := ⟨_, rfl⟩
  rw [← Hg.out] at hmk ho1
  have HI1 : Hid (RnI w T1 T2 T1 T2 lb cb g n s (s.ws.map (·.b)) (List.replicate n false) w1) := by
    refine ⟨h.below hb1, by rw [← Hg.out, List.map_replicate]; exact ho1, List.length_replicate, ⟨fun hh => ?_, fun hh => ?_⟩, Frm.ofBelow hb1 _, fun k hk => .inl hk, fun k hk => .inl hk, rfl⟩
    · have := h.lg.sb _ hh; rw [Hg.out] at this; omega
    · have := h.ch.sb _ hh; rw [Hg.out] at this; omega
  obtain ⟨d0, Hd0⟩ : ∃ d0, Hid (d0 = s.D.length) := ⟨_, rfl⟩
  rw [← Hd0.out] at hD
  obtain ⟨bs, Hbs⟩ : ∃ bs, Hid (bs = s.ws.map (·.b)) := ⟨_, rfl⟩
  rw [← Hbs.out] at HI1 HA
  have HBL : Hid (bs.length = n) := by rw [Hid, Hbs.out, List.length_map]; exact hn
  clear h ha hd ho1 hb1 hn
  go_enter_defers Try.func14, Try.ntmps14
  go_wp2_with fail
  clear hmk hmf
  go_loopw [6] (fun x wr => ∃ (k : Nat) (S1 S2 : Nat → Prop) (rl : List Bool), k ≤ mx ∧ x = .int .i64 (k : Int) ∧ Hid (RnI w T1 T2 S1 S2 lb cb g n (runR k s) bs rl wr) ∧ Hid ((runR k s).D.length = d0 + k)) (fun x _ => mx - (intOf x).toNat)
  case atStart => exact ⟨0, T1, T2, _, Nat.zero_le _, rfl, HI1, Hd0.out.symm⟩
  case round =>
    clear HI1
    obtain ⟨k, S1, S2, rl, hk, rfl, HI, HDl⟩ := hrel
    by_cases hlt : k < mx
    · have hlm : (k : Int) < most := by omega
      obtain ⟨sk, Hsk⟩ : ∃ sk, Hid (sk = runR k s) := ⟨_, rfl⟩
      have HNx : Hid (runR (k + 1) s = stepR sk) := by rw [Hid, Hsk.out]; exact runR_last k s
      have HSt : Hid ((rdyP sk.ws sk.D).count true = 0 → runR mx s = sk) := fun hc => by rw [Hsk.out] at hc ⊢; exact runR_stop hk hc
      rw [← Hsk.out] at HI HDl
      clear Hsk
      have hDm : sk.D.length ≤ 1099511627776 := by have := HDl.out; omega
      obtain ⟨R, HR⟩ : ∃ R, Hid (R = rdyP sk.ws sk.D) := ⟨_, rfl⟩
      have HRl : Hid (R.length = n) := by
        have h1 := congrArg List.length HI.out.bs
        rw [List.length_map, HBL.out] at h1
        rw [Hid, HR.out, rdyP_length]; exact h1
      have HI2 : Hid (RnI w T1 T2 S1 S2 lb cb g n sk bs (rdJ rl R 0) wr) := by rw [rdJ_zero]; exact HI
      have HLen : Hid (rl.length = n) := HI.out.len
      clear HI
      go_wp2
      go_loopw [20] (fun i wr => ∃ j : Nat, j ≤ n ∧ i = .int .i64 (j : Int) ∧ Hid (RnI w T1 T2 S1 S2 lb cb g n sk bs (rdJ rl R j) wr)) (fun i _ => n - (intOf i).toNat)
      case atStart => exact ⟨0, Nat.zero_le _, rfl, HI2⟩
      case round =>
        clear HI2
        obtain ⟨j, hj, rfl, HI⟩ := hrel
        by_cases hjn : j < n
        · have hjb : j < bs.length := by rw [HBL.out]; exact hjn
          obtain ⟨x, hx, hxb⟩ := ws_at HI.out.bs hjb
          obtain ⟨b, off, rfl, hc⟩ := (HA.out.frm HI.out.frm (fun a e hh => hh.elim (HD.out a e).1 (HD.out a e).2)) j (by rw [List.length_map]; exact hjb)
          have hc2 : wr.cell? ⟨b, off + j, none⟩ = some (.iface 59 (.pointer (some ⟨x.b, 0, none⟩))) := by rw [hc, List.getElem_map, hxb]; rfl
          have hmt := meth_ready wr x.b
          have HRC := ready_calls wr j x HI.out.st.lg hx (by omega)
          obtain ⟨v, Hv⟩ : ∃ v, Hid (v = R.getD j false) := ⟨_, rfl⟩
          have hve : (decide (x.start ≤ (sk.D.length : Int)) && decide ((x.done : Int) < x.work)) = v := by rw [Hv.out, HR.out]; exact (rdy_at hx).symm
          rw [hve] at HRC
          have HNs : Hid (∀ W, RnI w T1 T2 S1 S2 lb cb g n sk bs (rdJ rl R j) W → RnI w T1 T2 S1 S2 lb cb g n sk bs (rdJ rl R (j + 1)) (W.setCell ⟨g, j, none⟩ (.bool v))) := fun W hW => by
            rw [← rdJ_succ HLen.out HRl.out hjn, ← Hv.out]
            exact hW.set j v
          obtain ⟨xb, Hxb⟩ : ∃ xb, Hid (xb = x.b) := ⟨_, rfl⟩
          rw [← Hxb.out] at hc2 hmt HRC
          clear hc hx hxb hve Hv Hxb hjb
          go_wp2_with fail
          refine HRC.mono ?_
          clear HRC hmt
          rintro e w3 ⟨rfl, q, hw3⟩
          have HI3 : Hid (RnI w T1 T2 S1 S2 lb cb g n sk bs (rdJ rl R j) w3) := by rw [hw3]; exact HI.out.below (below_drawsT _ _)
          have HI4 : Hid (RnI w T1 T2 S1 S2 lb cb g n sk bs (rdJ rl R (j + 1)) (w3.setCell ⟨g, j, none⟩ (.bool v))) := HNs.out _ HI3.out
          have hqq : (∃ old, w3.cell? ⟨g, j, none⟩ = some old) ∧ w3.frozen? ⟨g, j, none⟩ = false := by
            obtain ⟨g', eg, hcx, hfx⟩ := HI3.out.rd.at j (by rw [List.length_map, HI3.out.len]; exact hjn)
            simp only [Option.some.injEq, Addr.mk.injEq, and_true] at eg
            subst eg
            exact ⟨⟨_, hcx⟩, hfx⟩
          obtain ⟨⟨old, hcx⟩, hfx⟩ := hqq
          clear hw3 HI HI3 HNs
          go_wp2
          go_roundw
          case rel => exact ⟨j + 1, by omega, by go_num, HI4⟩
          case measure => simp [intOf]; omega
        · have HI3 : Hid (RnI w T1 T2 S1 S2 lb cb g n sk bs R wr) := by
            have h1 := HI.out
            rw [show j = n by omega, rdJ_end HLen.out HRl.out] at h1
            exact h1
          have HCo := containsB_calls (some ⟨g, 0, none⟩) n n R wr HRl.out (by omega) HI3.out.rd.v
          clear HI
          go_wp2_with fail
          refine HCo.mono ?_
          clear HCo
          rintro e w3 ⟨rfl, rfl⟩
          by_cases hcn : 0 < R.count true
          · have hcd : decide (0 < R.count true) = true := decide_eq_true hcn
            rw [hcd]
            have HXC := next_calls cb sk.c sk.D.length (some ⟨g, 0, none⟩) n n R w3 HI3.out.st.ch HI3.out.st.ok (by omega) (by have h1 := HI3.out.st.al; have h2 := congrArg List.length HI3.out.bs; rw [List.length_map, HBL.out] at h2; omega) HRl.out (by omega) HI3.out.rd.v (fun a ea => by cases ea; exact ⟨HI3.out.ng.2, (HI3.out.rd.lt g rfl).2⟩)
            have HOK : Hid ((nextP sk.c R).2.2 = true) := by rw [Hid, next_ok]; exact hcd
            obtain ⟨hq1, hq2⟩ := next_ready (c := sk.c) hcn
            have HSR : Hid (stepR sk = ⟨(nextP sk.c R).1, bump sk.ws (nextP sk.c R).2.1, sk.D ++ [(nextP sk.c R).2.1]⟩) := by
              rw [Hid]; unfold stepR; rw [← HR.out, if_pos hcn]
            have HO2 : Hid (Okc (nextP sk.c R).1 (sk.D.length + 1) ∧ (nextP sk.c R).1.ages.length ≤ sk.ws.length) := by
              have h2 := congrArg List.length HI3.out.bs
              rw [List.length_map, HBL.out] at h2
              exact ⟨HI3.out.st.ok.next R (by rw [HRl.out]; omega), by rw [h2]; rw [nextP_eq]; simp [ageP_length]; exact Nat.le_of_eq HRl.out⟩
            obtain ⟨Z, HZ⟩ : ∃ Z, Hid (Z = nextP sk.c R) := ⟨_, rfl⟩
            rw [← HZ.out] at HXC HOK hq1 HSR HO2
            obtain ⟨c', gt, okk⟩ := Z
            dsimp only at HOK hq1 HSR HO2
            have hok := HOK.out
            subst hok
            have hgn : gt < n := by rw [← HRl.out]; exact hq1
            clear HZ hq1 hq2 HOK hcd hcn HSt
            go_wp2_with fail
            refine HXC.mono ?_
            clear HXC
            rintro e w5 ⟨rfl, hc5, hf5⟩
            have hgb : gt < bs.length := by rw [HBL.out]; exact hgn
            obtain ⟨x, hx, hxb⟩ := ws_at HI3.out.bs hgb
            obtain ⟨k1, k2, k3, k4, k5⟩ := HI3.out.next hc5 hf5
            have HSC := step_calls w5 gt x k1 hx (by omega) (by have := HI3.out.st.dn x (List.mem_of_getElem? hx); omega)
            obtain ⟨b, off, rfl, hc⟩ := (HA.out.frm k5 (fun a e hh => hh.elim (HD.out a e).1 (HD.out a e).2)) gt (by rw [List.length_map]; exact hgb)
            have hca : w5.cell? ⟨b, off + gt, none⟩ = some (.iface 59 (.pointer (some ⟨x.b, 0, none⟩))) := by rw [hc, List.getElem_map, hxb]; rfl
            have hmt := meth_step w5 x.b
            have HST : Hid (∀ w6, LgAt w6 (fun k => S1 k ∨ (w5.heap.size ≤ k ∧ k < w6.heap.size)) lb (sk.ws.set gt (up x)) (sk.D ++ [gt]) → Frm S1 w5 w6 → ∃ S1' S2', RnI w T1 T2 S1' S2' lb cb g n (runR (k + 1) s) bs R w6) := fun w6 hl6 hf6 => by
              rw [HNx.out, HSR.out]
              exact HI3.out.step hc5 hf5 hx hl6 hf6 HO2.out.1 HO2.out.2
            have HDn : Hid ((runR (k + 1) s).D.length = d0 + (k + 1)) := by
              rw [Hid, HNx.out, HSR.out]
              show (sk.D ++ [gt]).length = _
              rw [List.length_append, HDl.out]; rfl
            obtain ⟨xb, Hxb⟩ : ∃ xb, Hid (xb = x.b) := ⟨_, rfl⟩
            rw [← Hxb.out] at hca hmt HSC
            clear hc hx hxb hgb k1 k2 k3 k4 k5 hc5 hf5 HI3 HSR HO2 HNx HDl Hxb
            go_wp2_with fail
            refine HSC.mono ?_
            clear HSC hmt
            rintro e w6 ⟨rfl, hl6, hf6⟩
            obtain ⟨S1', S2', hI6⟩ := HST.out w6 hl6 hf6
            have HI6 : Hid (RnI w T1 T2 S1' S2' lb cb g n (runR (k + 1) s) bs R w6) := hI6
            clear hl6 hf6 HST hI6
            go_wp2
            go_roundw
            case rel => exact ⟨k + 1, S1', S2', R, by omega, by go_num, HI6, HDn⟩
            case measure => simp [intOf]; omega
          · have hcd : decide (0 < R.count true) = false := decide_eq_false hcn
            rw [hcd]
            have HE : Hid (RunW w T1 T2 lb cb s (runR mx s) (.returned (.int .i64 (k : Int))) w3) := by
              rw [HSt.out (by rw [← HR.out]; omega)]
              refine ⟨?_, ⟨S1, S2, HI3.out.st, HI3.out.sub1, HI3.out.sub2⟩, HI3.out.frm, by rw [HI3.out.bs, Hbs.out]⟩
              rw [HDl.out, ← Hd0.out, Nat.add_sub_cancel_left]
            clear hcd hcn HI3
            go_wp2
            refine leaves_cons (f := 20) (args := #[]) (by simp) (by simp [go_sem]) ?_
            refine (runC_idle _).mono ?_
            rintro e u' w5 ⟨rfl, rfl, rfl⟩
            simp [Leaves, settle, results, Try.results14, go_sem]
            exact HE.out
    · have hlm : ¬ ((k : Int) < most) := by omega
      have hkm : k = mx := by omega
      have HE : Hid (RunW w T1 T2 lb cb s (runR mx s) (.returned (.int .i64 (k : Int))) wr) := by
        have h1 := HI.out
        have h2 := HDl.out
        rw [hkm] at h1 h2
        refine ⟨?_, ⟨S1, S2, h1.st, h1.sub1, h1.sub2⟩, h1.frm, by rw [h1.bs, Hbs.out]⟩
        rw [h2, ← Hd0.out, Nat.add_sub_cancel_left, hkm]
      clear hkm HI
      go_wp2
      refine leaves_cons (f := 20) (args := #[]) (by simp) (by simp [go_sem]) ?_
      refine (runC_idle _).mono ?_
      rintro e u' w5 ⟨rfl, rfl, rfl⟩
      simp [Leaves, settle, results, Try.results14, go_sem]
      exact HE.out
end Go.Proofs.Ytagdgecmoeacgaa
