/- Layer 17 (sched): the law on logs. -/
import Derived.Test.YtagdgecmoeacgaaScLogsM
namespace Go.Proofs.Ytagdgecmoeacgaa
open Go.RowKit
set_option linter.unusedVariables false
variable {S S' : Nat → Prop}

theorem emptyA (W : World) : Ow (W.alloc (.cells #[] 40)) W.heap.size 40 (.slice (some ⟨W.heap.size, 0, none⟩) 0 0) [] := World.ownsRow_lit (size := 1) W #[] 0 (Nat.le_refl _) (by unfold maxLen; omega) rfl

theorem meth_readyC (W : World) (xb : Nat) : (method (88 + 100) 59 (.pointer (some ⟨xb, 0, none⟩)) "Ready").run Try.prog W = .ok (45, .pointer (some ⟨xb, 0, none⟩)) W := by kernel_rfl
theorem map4 {f : Operand → Value} {x y z t : Operand} {u v p q : Value} (h : f x = u) (k : f y = v) (i : f z = p) (j : f t = q) : (#[x, y, z, t] : Array Operand).map f = #[u, v, p, q] := by simp [h, k, i, j]
theorem LrI.runs {w wr : World} {S1 S2 : Nat → Prop} {lb cb : Nat} {s : St} {aa : Option Addr} {n ca : Nat} {qv : Value} {bs : List Nat} {G : List Nat} (h : LrI w S1 S2 lb cb s (.slice aa n ca) bs qv G wr) (hn : s.ws.length = n) (hl : n ≤ 20) (mx : Nat) (most : Int) (hm : most.toNat = mx) (hmx : mx ≤ 1048576) (hD : s.D.length ≤ 1048576) :
    Calls Try.prog 14 #[.slice aa n ca, .pointer (some ⟨cb, 0, none⟩), .int .i64 most] wr fun e w' => e = .returned (.int .i64 (((runR mx s).D.length - s.D.length : Nat) : Int)) ∧ ∃ T1 T2, LrI w T1 T2 lb cb (runR mx s) (.slice aa n ca) bs qv G w' :=
  (run_calls wr lb cb n ca mx aa s most h.st hn (by rw [h.bs]; exact h.ac.v) (fun a ea => h.na a.block (by rw [ea]; rfl)) (by omega) hm hmx (by omega)).mono fun e w' hr => h.run hr
/-- A call through an interface in a walk that only reads. -/
theorem quiet_inv {C : World → Prop} {o : Oper} {a : Act} {K : Act → Prop} {x : Operand} {nm : String} {t : TypeId} {p : Value} {f : FuncId} {v : Value} (ho : o.op = .call { callee := .invoke x nm, args := #[], argTypes := #[] }) (hx : a.eval x = .iface t p)
    (hm : ∀ W, (method (88 + 100) t p nm).run Try.prog W = .ok (f, p) W) (hf : ∀ W, (callFunc f #[p]).run Try.prog W = .ok (.enter f #[p]) W) (hc : ∀ w, C w → Calls Try.prog f #[p] w fun e w' => e = .returned v ∧ C w') (hk : K (a.put o.dst v)) : o.quiet Try.prog a C K :=
  ⟨v, fun w hw => by
    unfold Oper.quietAt
    have : (execOp a.eval o).run Try.prog w = .ok (.enter f #[p]) w := by
      have hm := hm w
      have hf := hf w
      simp only [Nat.reduceAdd] at hm
      generalize ha : a.eval = ev at hx ⊢
      unfold execOp
      simp only [ho, resolve, invoke, Sem.run_bind, Sem.run_pure, Result.andThen_ok, List.map_toArray, List.map_nil, hx]
      simp [hm, hf, go_sem]
    rw [this]
    exact ⟨rfl, hc w hw⟩, hk⟩

set_option maxRecDepth 100000 in
set_option maxHeartbeats 4000000 in
theorem schedLogs_calls (jo : Option Addr) (jn jc : Nat) (js : List (Int × Int)) (ao : Option Addr) (pn pc : Nat) (ps : List Int) (bound steps first : Int) (w : World)
    (hj : JbAt w jo js) (hjn : js.length = jn) (hjl : jn ≤ 140737488355328) (hp : VAt w ao (ps.map iV)) (hpn : ps.length = pn) (hpl : pn ≤ 17592186044415) (hpcap : pn ≤ pc) (hnil : ao = none → pc = 0 ∧ pn = 0)
    (hpr : ∀ p ∈ ps, -9223372036854775808 ≤ p ∧ p ≤ 9223372036854775807) (hb2 : bound ≤ 9223372036854775807) :
    Calls Try.prog 4 #[.agg (gmC jo jn jc ao pn pc bound steps), .int .i64 first] w fun e w' => e = .returned (.bool true) ∧ Below w.heap.size w w' := by
  have HJ : Hid (JbAt w jo js ∧ js.length = jn ∧ jn ≤ 140737488355328) := ⟨hj, hjn, hjl⟩
  have HP : Hid (VAt w ao (ps.map iV) ∧ ps.length = pn ∧ pn ≤ 17592186044415 ∧ pn ≤ pc) := ⟨hp, hpn, hpl, hpcap⟩
  have HNil : Hid (ao = none → pc = 0 ∧ pn = 0) := hnil
  have HPR : Hid (∀ p ∈ ps, -9223372036854775808 ≤ p ∧ p ≤ 9223372036854775807) := hpr
  have HB2 : Hid (bound ≤ 9223372036854775807) := hb2
  clear hj hjn hjl hp hpn hpl hpcap hnil hpr hb2
  obtain ⟨w1, hw1⟩ : ∃ w1, Hid (w1 = w.alloc (.cells (gmC jo jn jc ao pn pc bound steps) 25)) := ⟨_, rfl⟩
  have HB1 : Hid (Below w.heap.size w w1) := by rw [Hid, hw1.out]; exact below_alloc1 _ _
  have HG1 : Hid (w1.heap[w.heap.size]? = some (.cells (gmC jo jn jc ao pn pc bound steps) 25)) := by rw [Hid, hw1.out]; exact heap_alloc_new w _
  have HA := alive_calls w1
  unfold gmC at hw1 ⊢
  go_enter Try.func4, Try.ntmps4
  go_wp2_with fail
  rw [← hw1.out]
  clear hw1
  refine HA.mono ?_
  clear HA
  rintro e w2 ⟨rfl, hb2⟩
  have HB2' : Hid (Below w.heap.size w w2) := HB1.out.trans (hb2.mono HB1.out.size)
  have HG2 : Hid (w2.heap[w.heap.size]? = some (.cells (gmC jo jn jc ao pn pc bound steps) 25)) := (hb2.block _ (lt_of_heapT HG1.out)).trans HG1.out
  obtain ⟨g, Hg⟩ : ∃ g, Hid (g = w.heap.size) := ⟨_, rfl⟩
  rw [← Hg.out] at HG2 ⊢
  clear hb2 HB1 HG1
  have c0 : w2.cell? ⟨g, 0, none⟩ = some (.slice jo jn jc) := by rw [cell_blkT HG2.out]; rfl
  have HCT := cut_calls w2 jo jn jc js (HJ.out.1.below HB2'.out) HJ.out.2.1 HJ.out.2.2
  go_wp2_with fail
  refine HCT.mono ?_
  clear HCT c0
  rintro e w3 ⟨⟨v, rfl, ho3⟩, hb3⟩
  obtain ⟨ks, Hks⟩ : ∃ ks, Hid (ks = js.take 20) := ⟨_, rfl⟩
  rw [← Hks.out] at ho3
  obtain ⟨ko, kc, rfl⟩ := ho3.shape
  obtain ⟨l, Hl⟩ : ∃ l, Hid (ks.length = l) := ⟨_, rfl⟩
  have hl20 : l ≤ 20 := by rw [← Hl.out, Hks.out, List.length_take]; omega
  rw [Hl.out] at ho3 ⊢
  have HI : Hid (OwJ w3 w2.heap.size (.slice ko l kc) (clK ks 0) ∧ Below w2.heap.size w2 w3) := ⟨by rw [clK_zero]; exact ho3, hb3⟩
  clear ho3 hb3 HJ Hks
  go_wp2
  go_loopw [6, 25] (fun x i wr => ∃ k : Nat, k ≤ l ∧ i = .int .i64 (k : Int) ∧ Hid (OwJ wr w2.heap.size (.slice ko l kc) (clK ks k) ∧ Below w2.heap.size w2 wr)) (fun _ i _ => l - (intOf i).toNat)
  case atStart => exact ⟨0, Nat.zero_le _, rfl, HI⟩
  case round =>
    clear HI
    obtain ⟨k, hk, rfl, HI⟩ := hrel
    by_cases hlt : k < l
    · have hkl : k < ks.length := by rw [Hl.out]; exact hlt
      have hkc : k < (clK ks k).length := by rw [clK_length]; exact hkl
      obtain ⟨q, rfl, hqB, c0, c1, f0, f1⟩ := HI.out.1.at k hkc
      rw [clK_at hkl] at c0 c1
      have hs0 := HI.out.1.set0 k hkc 0
      rw [clK_at hkl] at hs0
      obtain ⟨ja, Hja⟩ : ∃ ja, Hid (ja = (ks[k]'hkl).1) := ⟨(ks[k]'hkl).1, rfl⟩
      obtain ⟨jb, Hjb⟩ : ∃ jb, Hid (jb = (ks[k]'hkl).2) := ⟨(ks[k]'hkl).2, rfl⟩
      rw [← Hja.out] at c0
      rw [← Hjb.out] at c1 hs0
      have hk1 : k < ((clK ks k).set k (0, jb)).length := by rw [List.length_set]; exact hkc
      obtain ⟨q', eq', -, -, d1, -, e1⟩ := hs0.at k hk1
      have hqq : q' = q := by simpa using eq'.symm
      subst hqq
      rw [List.getElem_set_self] at d1
      have hB0 : Below w2.heap.size w2 (wr.setCell ⟨q', k * 2, none⟩ (.int .i64 0)) := HI.out.2.setCell (by exact hqB) _
      have HSucc : Hid ((clK ks k).set k (0, min jb 15) = clK ks (k + 1)) := by rw [Hid, ← clK_succ hkl]; unfold clJ; rw [Hjb.out]
      by_cases h15 : 15 < jb
      · have HN : Hid (OwJ ((wr.setCell ⟨q', k * 2, none⟩ (.int .i64 0)).setCell ⟨q', k * 2 + 1, none⟩ (.int .i64 15)) w2.heap.size (.slice (some ⟨q', 0, none⟩) l kc) (clK ks (k + 1)) ∧ Below w2.heap.size w2 ((wr.setCell ⟨q', k * 2, none⟩ (.int .i64 0)).setCell ⟨q', k * 2 + 1, none⟩ (.int .i64 15))) := by
          refine ⟨?_, hB0.setCell (by exact hqB) _⟩
          have := hs0.set1 k hk1 15
          rw [List.getElem_set_self, List.set_set] at this
          rw [← HSucc.out, show min jb 15 = 15 by omega]
          exact this
        clear HI hs0 hB0 HSucc Hja Hjb
        go_wp2
        go_roundw
        case rel => exact ⟨k + 1, by omega, by go_num, HN⟩
        case measure => simp [intOf]; omega
      · have HN : Hid (OwJ (wr.setCell ⟨q', k * 2, none⟩ (.int .i64 0)) w2.heap.size (.slice (some ⟨q', 0, none⟩) l kc) (clK ks (k + 1)) ∧ Below w2.heap.size w2 (wr.setCell ⟨q', k * 2, none⟩ (.int .i64 0))) := by
          refine ⟨?_, hB0⟩
          rw [← HSucc.out, show min jb 15 = jb by omega]
          exact hs0
        clear HI hs0 hB0 HSucc Hja Hjb
        go_wp2
        go_roundw
        case rel => exact ⟨k + 1, by omega, by go_num, HN⟩
        case measure => simp [intOf]; omega
    · obtain ⟨ms, Hms⟩ : ∃ ms, Hid (ms = ks.map clJ) := ⟨_, rfl⟩
      have HJ : Hid (JbAt wr ko ms ∧ ms.length = l) := by
        have h1 := HI.out.1
        rw [clK_all (by rw [Hl.out]; omega), ← Hms.out] at h1
        exact ⟨h1.jb, by rw [Hms.out, List.length_map]; exact Hl.out⟩
      have HG : Hid (wr.heap[g]? = some (.cells (gmC jo jn jc ao pn pc bound steps) 25) ∧ Below w.heap.size w wr) := ⟨(HI.out.2.block _ (lt_of_heapT HG2.out)).trans HG2.out, HB2'.out.trans (HI.out.2.mono HB2'.out.size)⟩
      clear HI HG2 HB2'
      go_upto_if 44 with fail
      go_cut [1] from 43 to 44 (fun s1 wx => wx = wr ∧ ∃ f : Int, s1 = .int .i64 f ∧ Hid (f = max first 0))
      case first =>
        by_cases h0 : first < 0
        · go_wp2
          go_meet
          exact ⟨rfl, _, rfl, by rw [Hid]; omega⟩
        · go_wp2
          go_meet
          exact ⟨rfl, _, rfl, by rw [Hid]; omega⟩
      case rest =>
        obtain ⟨rfl, f1, rfl, Hf1⟩ := hcut
        go_upto_if 46 with fail
        go_cut [1] from 45 to 46 (fun s1 wx => wx = wc ∧ ∃ f : Nat, s1 = .int .i64 (f : Int) ∧ Hid (f ≤ 400))
        case first =>
          have hf1 : 0 ≤ f1 := by rw [Hf1.out]; omega
          obtain ⟨fn, rfl⟩ : ∃ n : Nat, f1 = (n : Int) := ⟨f1.toNat, by omega⟩
          by_cases h0 : 400 < fn
          · have h0' : (400 : Int) < (fn : Int) := by omega
            go_wp2
            go_meet
            exact ⟨rfl, 400, rfl, Nat.le_refl _⟩
          · have h0' : ¬ ((400 : Int) < (fn : Int)) := by omega
            go_wp2
            go_meet
            exact ⟨rfl, fn, rfl, by rw [Hid]; omega⟩
        case rest =>
          obtain ⟨rfl, f, rfl, Hf⟩ := hcut
          clear Hf1 hlt hk
          generalize wc = w5 at HJ HG ⊢
          clear wc
          obtain ⟨bd, Hbd⟩ : ∃ bd, Hid (bd = max bound 1) := ⟨_, rfl⟩
          go_upto_region 15 with fail
          refine wp_region_V 10 (JL w5 ⟨ps, bd, -1, []⟩) (R15 w5.heap.size g ao pn pc bound ps) (by kernel_rfl) rfl (by kernel_rfl) (by kernel_rfl) [some 47, some 48, some 49, some 50, some 51, some 52, some 53, some 54, some 7, some 8] (by kernel_rfl) ?J0 ?hop ?tail
          case J0 => exact fun W vs hW => ⟨hW, fun h => (by cases h), fun h => (by cases h), fun h => (by cases h), fun h => (by cases h)⟩
          case hop =>
            intro i o hi ho a W ls vs hJ hlf hs hd hall
            have hB := hJ.below
            have hgW : W.heap[g]? = some (.cells (gmC jo jn jc ao pn pc bound steps) 25) := (hB.block _ (lt_of_heapT HG.out.1)).trans HG.out.1
            match i, hi, ho, hd, hlf, hall with
            | 0, _, ho, hd, hlf, hall =>
              obtain rfl := Option.some.inj ho
              refine ⟨.inl rfl, ?_⟩
              refine wp_callF (f := 10) (vals := #[]) rfl (by simp) (by go_simp) ?_
              refine (newLog_callsF W).mono ?_
              rintro e w' ⟨rfl, hlg, hbb⟩
              exact ⟨_, rfl, _, rfl, ⟨W.heap.size, rfl, hB.size, ⟨_, hlg⟩⟩, hJ.next0 (by decide) (by decide) hlf hbb, fun j u _ _ h => h.mono hbb⟩
            | 1, _, ho, hd, hlf, hall =>
              obtain rfl := Option.some.inj ho
              refine ⟨.inl rfl, ?_⟩
              exact f_buildI rfl ⟨_, rfl, ⟨W.heap.size, rfl, hB.size, heap_alloc_new W _⟩, hJ.next0 (by decide) (by decide) hlf (below_alloc1 W _), fun j u _ _ h => h.mono (below_alloc1 W _)⟩
            | 2, _, ho, hd, hlf, hall =>
              obtain rfl := Option.some.inj ho
              refine ⟨.inl rfl, ?_⟩
              exact f_fldGame (x := .tmp 2) 1 (by decide) rfl ((hs 2 (notDst (by kernel_rfl))).trans rfl) ⟨_, rfl, rfl, hJ.next0 (by decide) (by decide) hlf (Below.refl _ _), fun _ _ _ _ h => h⟩
            | 3, _, ho, hd, hlf, hall =>
              obtain rfl := Option.some.inj ho
              refine ⟨.inl rfl, ?_⟩
              exact f_loadIs (x := .tmp 49) rfl (hd 2 49 (by kernel_rfl) (by kernel_rfl)).1 (by rw [cell_blkT hgW]; rfl) ⟨_, rfl, rfl, hJ.next0 (by decide) (by decide) hlf (Below.refl _ _), fun _ _ _ _ h => h⟩
            | 4, _, ho, hd, hlf, hall =>
              obtain rfl := Option.some.inj ho
              refine ⟨.inl rfl, ?_⟩
              obtain ⟨q, h1, h2, h3⟩ := (hd 1 48 (by kernel_rfl) (by kernel_rfl)).1
              refine f_appI rfl h1 (hd 3 50 (by kernel_rfl) (by kernel_rfl)).1 HP.out.2.1 (HP.out.1.below (HG.out.2.trans (hB.mono HG.out.2.size))) HP.out.2.2.1 h3 w5.heap.size h2 ?_
              intro ao2 c2 w' hv hn hb
              exact ⟨_, rfl, ⟨ao2, c2, rfl, hv, hn⟩, hJ.next4 (hall 0 (by kernel_rfl)) hb (by rw [← (hd 0 47 (by kernel_rfl) (by kernel_rfl)).2]; exact (hd 0 47 (by kernel_rfl) (by kernel_rfl)).1), fun j u _ _ h => h.mono hb⟩
            | 5, _, ho, hd, hlf, hall =>
              obtain rfl := Option.some.inj ho
              refine ⟨.inl rfl, ?_⟩
              exact f_fldGame (x := .tmp 2) 2 (by decide) rfl ((hs 2 (notDst (by kernel_rfl))).trans rfl) ⟨_, rfl, rfl, hJ.next0 (by decide) (by decide) hlf (Below.refl _ _), fun _ _ _ _ h => h⟩
            | 6, _, ho, hd, hlf, hall =>
              obtain rfl := Option.some.inj ho
              refine ⟨.inl rfl, ?_⟩
              exact f_loadIn (x := .tmp 52) rfl (hd 5 52 (by kernel_rfl) (by kernel_rfl)).1 (by rw [cell_blkT hgW]; rfl) ⟨_, rfl, rfl, hJ.next0 (by decide) (by decide) hlf (Below.refl _ _), fun _ _ _ _ h => h⟩
            | 7, _, ho, hd, hlf, hall =>
              obtain rfl := Option.some.inj ho
              refine ⟨.inl rfl, ?_⟩
              obtain ⟨ao2, c2, h1, h2, h3⟩ := (hd 4 51 (by kernel_rfl) (by kernel_rfl)).1
              obtain ⟨e0, lb, e1, e2, e3⟩ := hJ.h4 (hall 4 (by kernel_rfl))
              refine wp_callF (f := 11) (vals := #[.slice ao2 pn c2, .int .i64 bound]) rfl (map2 h1 (hd 6 53 (by kernel_rfl) (by kernel_rfl)).1) (by go_simp) ?_
              refine (newC_calls ao2 pn c2 ps bound W HP.out.2.1 (by have := HP.out.2.2.1; omega) h3 h2).mono ?_
              rintro e w' ⟨cb, rfl, hc, hbb⟩
              rw [← Hbd.out] at hc
              exact ⟨_, rfl, _, rfl, trivial, hJ.next7 hlf e0 hbb ⟨lb, cb, _, e1, rfl, e3.below hbb, hc, fun k hk => Nat.le_trans hB.size hk.1, e2, fun hk => by have := e3.sb lb rfl; have := hk.1; omega⟩, fun j u _ _ h => h.mono hbb⟩
            | 8, _, ho, hd, hlf, hall =>
              obtain rfl := Option.some.inj ho
              refine ⟨.inl rfl, ?_⟩
              exact f_asg (x := .tmp 47) rfl rfl ⟨_, rfl, trivial, hJ.next8 (hd 0 47 (by kernel_rfl) (by kernel_rfl)).2 (hall 0 (by kernel_rfl)), fun _ _ _ _ h => h⟩
            | 9, _, ho, hd, hlf, hall =>
              obtain rfl := Option.some.inj ho
              refine ⟨.inl rfl, ?_⟩
              exact f_asg (x := .tmp 54) rfl rfl ⟨_, rfl, trivial, hJ.next9 (hd 7 54 (by kernel_rfl) (by kernel_rfl)).2 (hall 7 (by kernel_rfl)), fun _ _ _ _ h => h⟩
            | n + 10, hi, _, _, _, _ => exact absurd hi (by omega)
          case tail =>
            intro vs W ls hls hJ hR
            obtain ⟨hB, -, h2, h3, h4⟩ := hJ
            obtain ⟨-, lb, cb, S2, r0, r7, hlg, hch, ho2, hol, hnl⟩ := h2 (hls 7 (by decide))
            have r8 := (h3 (hls 8 (by decide))).2
            have r9 := (h4 (hls 9 (by decide))).2
            obtain ⟨q1, r1, -, -⟩ := hR 1 (by decide)
            have r2 : vs 2 = .pointer (some ⟨g, 1, none⟩) := hR 2 (by decide)
            have r3 : vs 3 = .slice ao pn pc := hR 3 (by decide)
            obtain ⟨q4, c4, r4, -, -⟩ := hR 4 (by decide)
            have r5 : vs 5 = .pointer (some ⟨g, 2, none⟩) := hR 5 (by decide)
            have r6 : vs 6 = .int .i64 bound := hR 6 (by decide)
            have HLC : Hid (LgAt W (fun k => k = lb) lb [] [] ∧ ChAt W S2 cb ⟨ps, bd, -1, []⟩ ∧ (∀ k, S2 k → w5.heap.size ≤ k) ∧ w5.heap.size ≤ lb ∧ ¬ S2 lb ∧ Below w5.heap.size w5 W) := ⟨hlg, hch, ho2, hol, hnl, hB⟩
            simp only [putL, put_lit, List.setIfInBounds_toArray, List.set_cons_succ, List.set_cons_zero]
            rw [r8, r9, r0, r1, r2, r3, r4, r5, r6, r7]
            have HDC := done_calls W lb [] [] hlg (by simp)
            clear h2 h3 h4 hlg hch ho2 hol hnl hB hR hls r0 r1 r2 r3 r4 r5 r6 r7 r8 r9
            go_wp2_with fail
            refine HDC.mono ?_
            clear HDC
            rintro e w6 ⟨⟨v, rfl, ho6⟩, hb6⟩
            obtain ⟨qo6, qc6, rfl, -⟩ := ho6.shape
            simp only [List.map_nil, List.length_nil] at ho6 ⊢
            have HL6 : Hid (LdI w5 (fun k => k = lb) S2 lb cb ⟨ps, bd, -1, []⟩ ms 0 [] (.slice (some ⟨w6.heap.size, 0, none⟩) 0 0) [] (w6.alloc (.cells #[] 40))) := by
              have hb7 := below_alloc1 w6 (.cells #[] 40)
              have hB := HLC.out.2.2.2.2.2
              have hB6 := hB.trans (hb6.mono hB.size)
              refine ⟨(HLC.out.1.below hb6).below hb7, (HLC.out.2.1.below hb6).below hb7, fun j hj h2 => HLC.out.2.2.2.2.1 (by rw [← hj]; exact h2), fun j hj => by rw [hj]; exact HLC.out.2.2.2.1, HLC.out.2.2.1, (emptyA w6).mono hB6.size, fun b e => ?_, rfl, hB6.trans (hb7.mono hB6.size)⟩
              simp [Value.ownBlock] at e
              have h6 := hb6.size
              exact ⟨fun hk => by have := HLC.out.1.sb lb rfl; omega, fun hk => by have := HLC.out.2.1.sb b hk; omega⟩
            have HMS : Hid (∀ j ∈ ms, j.1 = 0) := by
              rw [Hid, Hms.out]
              intro j hj
              obtain ⟨i, _, rfl⟩ := List.mem_map.1 hj
              rfl
            clear ho6 hb6 HLC
            go_wp2
            go_loopw [9, 11, 12, 70] (fun x y z i wr => ∃ (k : Nat) (S : Nat → Prop) (ws : List Wk) (aa : Option Addr) (ca : Nat), k ≤ l ∧ i = .int .i64 (k : Int) ∧ x = .slice aa k ca ∧ Hid (LdI w5 S S2 lb cb ⟨ps, bd, -1, []⟩ ms k ws (.slice aa k ca) (ws.map (·.b)) wr)) (fun _ _ _ i _ => l - (intOf i).toNat)
            case atStart => exact ⟨0, _, [], _, _, Nat.zero_le _, rfl, rfl, HL6⟩
            case round =>
              clear HL6
              obtain ⟨k, S, ws, aa, ca, hk, rfl, rfl, HI⟩ := hrel
              by_cases hlt : k < l
              · have hkm : k < ms.length := by rw [HJ.out.2]; exact hlt
                obtain ⟨b, off, rfl, hc0, hc1⟩ := (HJ.out.1.below HI.out.below) k hkm
                rw [HMS.out _ (List.getElem_mem hkm)] at hc0
                have hws := HI.out.len (Nat.le_of_lt hkm)
                obtain ⟨jb, Hjb⟩ : ∃ jb, Hid (jb = (ms[k]'hkm).2) := ⟨(ms[k]'hkm).2, rfl⟩
                obtain ⟨bs, Hbs⟩ : ∃ bs, Hid (bs = ws.map (·.b)) := ⟨_, rfl⟩
                rw [← Hbs.out] at HI
                have HN : Hid (∀ (w' : World) (xb : Nat) (W0 : World), LdI w5 S S2 lb cb ⟨ps, bd, -1, []⟩ ms k ws (.slice aa k ca) bs W0 → LgAt w' (fun k => S k ∨ (W0.heap.size ≤ k ∧ k < w'.heap.size)) lb (ws ++ [⟨xb, 0, jb, 0⟩]) [] → Frm S W0 w' → LdI w5 (fun k => S k ∨ (W0.heap.size ≤ k ∧ k < w'.heap.size)) S2 lb cb ⟨ps, bd, -1, []⟩ ms (k + 1) (ws ++ [⟨xb, 0, jb, 0⟩]) (.slice aa k ca) bs w') := fun w' xb W0 h0 hl hf => by
                  have e : (0, jb) = ms[k]'hkm := Prod.ext (HMS.out _ (List.getElem_mem hkm)).symm Hjb.out
                  have h9 := h0.add (xb := xb) hkm (w' := w')
                  rw [← e] at h9
                  exact h9 hl hf
                rw [← Hjb.out] at hc1
                have HAC : Hid (∀ W, LdI w5 S S2 lb cb ⟨ps, bd, -1, []⟩ ms k ws (.slice aa k ca) bs W → Calls Try.prog 13 #[.pointer (some ⟨lb, 0, none⟩), .agg #[.int .i64 0, .int .i64 jb]] W (AddW W S lb ws [] 0 jb)) := fun W hW => add_calls W lb ws [] 0 jb hW.lg (by omega)
                have HIa : Hid (∀ o, LdI w5 S S2 lb cb ⟨ps, bd, -1, []⟩ ms k ws (.slice aa k ca) bs (wr.alloc o)) := fun o => HI.out.more (below_alloc1 wr o)
                have HSz : Hid (¬ S wr.heap.size) := fun h => by have := HI.out.lg.sb _ h; omega
                have HWk : Hid (∀ xb : Nat, (ws ++ [(⟨xb, 0, jb, 0⟩ : Wk)])[k]? = some ⟨xb, 0, jb, 0⟩) := fun xb => by rw [← hws, List.getElem?_append_right (Nat.le_refl _), Nat.sub_self]; rfl
                have HBx : Hid (∀ xb : Nat, (ws ++ [(⟨xb, 0, jb, 0⟩ : Wk)]).map (·.b) = bs ++ [xb]) := fun xb => by rw [List.map_append, Hbs.out]; rfl
                clear HI hws Hjb
                go_wp2_with fail
                refine (HAC.out _ (HIa.out _)).mono ?_
                rintro e w7 ⟨xb, rfl, hl7, hf7, hx7⟩
                have HI7 := HN.out w7 xb _ (HIa.out _) hl7 hf7
                obtain ⟨T, HT⟩ : ∃ T : Nat → Prop, Hid (LdI w5 T S2 lb cb ⟨ps, bd, -1, []⟩ ms (k + 1) (ws ++ [(⟨xb, 0, jb, 0⟩ : Wk)]) (.slice aa k ca) bs w7) := ⟨_, HI7⟩
                have hcj : w7.cell? ⟨wr.heap.size, 1, none⟩ = some (.int .i64 jb) := by
                  rw [cell_blkT ((hf7.block wr.heap.size (by simp [World.size_alloc]) HSz.out).trans (heap_alloc_new wr _))]; rfl
                obtain ⟨jk, Hjk⟩ : ∃ jk, Hid (jk = wr.heap.size) := ⟨_, rfl⟩
                rw [← Hjk.out] at hcj ⊢
                obtain ⟨rb, Hrb⟩ : ∃ rb, Hid (rb = decide (0 < jb)) := ⟨_, rfl⟩
                have HRC : Hid (∀ n, Calls Try.prog 45 #[.pointer (some ⟨xb, 0, none⟩)] (w7.drewN n) fun e w' => e = .returned (.bool rb) ∧ ∃ m, w' = (w7.drewN n).drewN m) := fun n => by
                  have h1 := ready_calls (w7.drewN n) k ⟨xb, 0, jb, 0⟩ (HT.out.lg.below (below_drawsT _ _)) (HWk.out xb) (by simp)
                  have e : (decide ((0 : Int) ≤ (([] : List Nat).length : Int)) && decide (((0 : Nat) : Int) < jb)) = rb := by rw [Hrb.out]; simp
                  dsimp only at h1
                  rw [e] at h1
                  exact h1
                clear HI7 hl7 hf7 hx7 HN HAC HIa HSz HWk
                go_upto_region 23 with fail
                go_cut [86] from 77 to 85 (fun c wx => c = .bool false ∧ ∃ q, wx = w7.drewN q)
                case first =>
                  by_cases hjb : 0 < jb
                  · obtain rfl : rb = true := by rw [Hrb.out]; simp [hjb]
                    refine wp_region_quiet_lit (by kernel_rfl) (by kernel_rfl) ?_
                    iterate 4 (quiet_step (fail))
                    refine BigFrame.wpQuiet_want (by rfl) (fun K hK => ?_)
                    refine quiet_inv (f := 45) (v := .bool true) rfl rfl (fun W => meth_readyC W xb) (fun W => by go_simp) (fun w hw => ?_) (hK _ ?_)
                    · obtain ⟨n, rfl⟩ := hw
                      exact Calls.quiet_of (HRC.out n)
                    · clear hK K
                      repeat (quiet_step (fail))
                      refine wpQuiet_nil ?_
                      intro _ hw'
                      obtain ⟨nq, hw''⟩ := hw'
                      subst hw''
                      go_wp2_with fail
                      go_meet
                      exact ⟨rfl, nq, rfl⟩
                  · obtain rfl : rb = false := by rw [Hrb.out]; simp [hjb]
                    refine wp_region_quiet_lit (by kernel_rfl) (by kernel_rfl) ?_
                    iterate 4 (quiet_step (fail))
                    refine BigFrame.wpQuiet_want (by rfl) (fun K hK => ?_)
                    refine quiet_inv (f := 45) (v := .bool false) rfl rfl (fun W => meth_readyC W xb) (fun W => by go_simp) (fun w hw => ?_) (hK _ ?_)
                    · obtain ⟨n, rfl⟩ := hw
                      exact Calls.quiet_of (HRC.out n)
                    · clear hK K
                      repeat (quiet_step (fail))
                      refine wpQuiet_nil ?_
                      intro _ hw'
                      obtain ⟨nq, hw''⟩ := hw'
                      subst hw''
                      go_wp2_with fail
                      go_meet
                      exact ⟨rfl, nq, rfl⟩
                case rest =>
                  obtain ⟨rfl, nq, rfl⟩ := hcut
                  have HTn : Hid (LdI w5 T S2 lb cb ⟨ps, bd, -1, []⟩ ms (k + 1) (ws ++ [(⟨xb, 0, jb, 0⟩ : Wk)]) (.slice aa k ca) bs (w7.drewN nq)) := HT.out.more (below_drawsT _ _)
                  obtain ⟨w8, Hw8⟩ : ∃ w8, Hid (w8 = w7.drewN nq) := ⟨_, rfl⟩
                  rw [← Hw8.out] at HTn ⊢
                  have hbl : (bs.map acB).length = k := by
                    have h1 := HTn.out.ac.shape
                    obtain ⟨a1, c1, e1, -⟩ := h1
                    simp only [Value.slice.injEq] at e1
                    exact e1.2.1.symm
                  have HAc : Hid (Ow w8 w5.heap.size 40 (.slice aa k ca) (bs.map acB) ∧ w5.heap.size ≤ w8.heap.size) := ⟨HTn.out.ac, HTn.out.below.size⟩
                  clear HT HRC hcj Hrb Hw8
                  go_wp2_with (at_builtin; go_must (refine append_u w8 rfl (.tmp 87) (.tmp 89) 38 40 .nilIface 16 Try.underlying38 info_actor rfl rfl w5.heap.size _ (bs.map acB) rfl (acB xb) rfl _ rfl rfl HAc.out.1 (by rw [hbl]; omega) (by rw [hbl]; omega) HAc.out.2 ?_))
                  intro v9 w9 ho9 hg9
                  have hI9 := HTn.out.app ho9 hg9
                  obtain ⟨a9, c9, rfl, -⟩ := ho9.shape
                  rw [List.length_append, List.length_singleton, hbl] at hI9 ⊢
                  rw [← HBx.out xb] at hI9
                  have HI9 : Hid (LdI w5 T S2 lb cb ⟨ps, bd, -1, []⟩ ms (k + 1) (ws ++ [(⟨xb, 0, jb, 0⟩ : Wk)]) (.slice a9 (k + 1) c9) ((ws ++ [(⟨xb, 0, jb, 0⟩ : Wk)]).map (·.b)) w9) := hI9
                  clear hI9 ho9 hg9 HAc HTn hbl HBx
                  go_wp2
                  go_roundw
                  case rel => exact ⟨k + 1, T, _, a9, c9, by omega, by go_num, rfl, HI9⟩
                  case measure => simp [intOf]; omega
              · have hkl : k = l := by omega
                subst hkl
                have HER : Hid (ws.map er = ms.map jW ∧ ws.length = k) := by
                  have h1 := HI.out.er
                  rw [List.take_of_length_le (by rw [HJ.out.2]; exact Nat.le_refl _)] at h1
                  exact ⟨h1, HI.out.len (by rw [HJ.out.2]; exact Nat.le_refl _)⟩
                have HB1 : Hid (1 ≤ bd ∧ bd ≤ 9223372036854775807) := ⟨by rw [Hbd.out]; omega, by have := HB2.out; rw [Hbd.out]; omega⟩
                obtain ⟨s0, Hs0⟩ : ∃ s0 : St, Hid (s0 = ⟨⟨ps, bd, -1, []⟩, ws, []⟩) := ⟨_, rfl⟩
                obtain ⟨G, HG0⟩ : ∃ G, Hid (G = playP ps bd ms 800) := ⟨_, rfl⟩
                have HEnd : Hid ((runR 800 s0).D = G ∧ (rdyP (runR 800 s0).ws (runR 800 s0).D).count true = 0 ∧ G.length ≤ 300) := by
                  have hs : erS s0 = st0 ps bd (ks.map clJ) := by
                    rw [Hs0.out]
                    unfold erS st0
                    dsimp only
                    rw [HER.out.1, Hms.out]; rfl
                  have := end800 (mx := 800) (by decide) (by rw [Hl.out]; exact hl20) hs
                  rw [HG0.out, Hms.out]
                  exact this
                have HSt : Hid (StI wr S S2 lb cb s0) := by
                  rw [Hs0.out]
                  exact ⟨HI.out.lg, HI.out.ch, HI.out.dj, ⟨HB1.out.1, HB1.out.2, by show (-1 : Int) ≤ -1; omega, by show (-1 : Int) ≤ _; omega, HPR.out, by show ps.length ≤ _; have := HP.out.2; omega, by simp⟩, by simp, fun x hx => by
                    have h2 : er x ∈ ms.map jW := by rw [← HER.out.1]; exact List.mem_map_of_mem hx
                    obtain ⟨j, _, e⟩ := List.mem_map.1 h2
                    have : (jW j).done = (er x).done := by rw [e]
                    have h3 : (er x).done = x.done := rfl
                    have h4 : (jW j).done = 0 := rfl
                    show x.done ≤ 0
                    omega⟩
                have HWs : Hid (s0.ws.length = k ∧ s0.D = [] ∧ s0.ws.map (·.b) = ws.map (·.b)) := by rw [Hid, Hs0.out]; exact ⟨HER.out.2, rfl, rfl⟩
                obtain ⟨bs, Hbs⟩ : ∃ bs, Hid (bs = ws.map (·.b)) := ⟨_, rfl⟩
                rw [← Hbs.out] at HI HWs
                clear hlt
                have hlt : ¬ ((k : Int) < (k : Int)) := by omega
                obtain ⟨gn, Hgn⟩ : ∃ gn, Hid (G.length = gn) := ⟨_, rfl⟩
                have hgn : gn ≤ 300 := by rw [← Hgn.out]; exact HEnd.out.2.2
                have HBw : Hid (Below w.heap.size w wr ∧ Below w5.heap.size w5 wr) := ⟨HG.out.2.trans (HI.out.below.mono HG.out.2.size), HI.out.below⟩
                go_upto_region 27 with fail
                refine wp_region_V 9 (fun _ _ W => Below wr.heap.size wr W) (R27 wr.heap.size g (.slice ko k kc) ao pn pc bound ps gn G) (by kernel_rfl) rfl (by kernel_rfl) (by kernel_rfl) [some 92, some 93, some 94, some 95, some 96, some 97, some 98, some 99, some 13] (by kernel_rfl) ?J1 ?hop1 ?tail1
                case J1 => exact fun W vs hW => hW
                case hop1 =>
                  intro i o hi ho a W ls vs hB hlf hs hd hall
                  have hgW : W.heap[g]? = some (.cells (gmC jo jn jc ao pn pc bound steps) 25) := (hB.block _ (by have := lt_of_heapT HG.out.1; have := HBw.out.2.size; omega)).trans ((HBw.out.2.block _ (lt_of_heapT HG.out.1)).trans HG.out.1)
                  match i, hi, ho, hd with
                  | 0, _, ho, hd =>
                    obtain rfl := Option.some.inj ho
                    refine ⟨.inl rfl, ?_⟩
                    exact f_mv (x := .tmp 5) rfl ((hs 5 (notDst (by kernel_rfl))).trans rfl) ⟨_, rfl, rfl, hB, fun _ _ _ _ h => h⟩
                  | 1, _, ho, hd =>
                    obtain rfl := Option.some.inj ho
                    refine ⟨.inl rfl, ?_⟩
                    exact f_buildI rfl ⟨_, rfl, ⟨W.heap.size, rfl, hB.size, heap_alloc_new W _⟩, hB.trans ((below_alloc1 W _).mono hB.size), fun j u _ _ h => h.mono (below_alloc1 W _)⟩
                  | 2, _, ho, hd =>
                    obtain rfl := Option.some.inj ho
                    refine ⟨.inl rfl, ?_⟩
                    exact f_fldGame (x := .tmp 2) 1 (by decide) rfl ((hs 2 (notDst (by kernel_rfl))).trans rfl) ⟨_, rfl, rfl, hB, fun _ _ _ _ h => h⟩
                  | 3, _, ho, hd =>
                    obtain rfl := Option.some.inj ho
                    refine ⟨.inl rfl, ?_⟩
                    exact f_loadIs (x := .tmp 94) rfl (hd 2 94 (by kernel_rfl) (by kernel_rfl)).1 (by rw [cell_blkT hgW]; rfl) ⟨_, rfl, rfl, hB, fun _ _ _ _ h => h⟩
                  | 4, _, ho, hd =>
                    obtain rfl := Option.some.inj ho
                    refine ⟨.inl rfl, ?_⟩
                    obtain ⟨q, h1, h2, h3⟩ := (hd 1 93 (by kernel_rfl) (by kernel_rfl)).1
                    refine f_appI rfl h1 (hd 3 95 (by kernel_rfl) (by kernel_rfl)).1 HP.out.2.1 (HP.out.1.below (HBw.out.1.trans (hB.mono HBw.out.1.size))) HP.out.2.2.1 h3 wr.heap.size h2 ?_
                    intro ao2 c2 w' hv hn hb
                    exact ⟨_, rfl, ⟨ao2, c2, rfl, hv, hn⟩, hB.trans (hb.mono hB.size), fun j u _ _ h => h.mono hb⟩
                  | 5, _, ho, hd =>
                    obtain rfl := Option.some.inj ho
                    refine ⟨.inl rfl, ?_⟩
                    exact f_fldGame (x := .tmp 2) 2 (by decide) rfl ((hs 2 (notDst (by kernel_rfl))).trans rfl) ⟨_, rfl, rfl, hB, fun _ _ _ _ h => h⟩
                  | 6, _, ho, hd =>
                    obtain rfl := Option.some.inj ho
                    refine ⟨.inl rfl, ?_⟩
                    exact f_loadIn (x := .tmp 97) rfl (hd 5 97 (by kernel_rfl) (by kernel_rfl)).1 (by rw [cell_blkT hgW]; rfl) ⟨_, rfl, rfl, hB, fun _ _ _ _ h => h⟩
                  | 7, _, ho, hd =>
                    obtain rfl := Option.some.inj ho
                    refine ⟨.inl rfl, ?_⟩
                    obtain ⟨ao2, c2, h1, h2, h3⟩ := (hd 4 96 (by kernel_rfl) (by kernel_rfl)).1
                    refine wp_callF (f := 8) (vals := #[.slice ko k kc, .slice ao2 pn c2, .int .i64 bound, .int .i64 800]) rfl (map4 (hd 0 92 (by kernel_rfl) (by kernel_rfl)).1 h1 (hd 6 98 (by kernel_rfl) (by kernel_rfl)).1 rfl) (by go_simp) ?_
                    refine (play_calls W ko k kc ms ao2 pn c2 ps bound 800 800 ((HJ.out.1.below HBw.out.2).below hB) HJ.out.2 (by omega) h2 HP.out.2.1 (by have := HP.out.2.2.1; omega) h3 HPR.out HB2.out rfl (by omega)).mono ?_
                    rintro e w' ⟨⟨v, rfl, hov⟩, hbb⟩
                    rw [← Hbd.out, ← HG0.out] at hov
                    obtain ⟨qo, qc, rfl, -⟩ := hov.shape
                    rw [List.length_map, Hgn.out] at hov ⊢
                    exact ⟨_, rfl, _, rfl, ⟨qo, qc, rfl, hov.mono hB.size⟩, hB.trans (hbb.mono hB.size), fun j u _ _ h => h.mono hbb⟩
                  | 8, _, ho, hd =>
                    obtain rfl := Option.some.inj ho
                    refine ⟨.inl rfl, ?_⟩
                    obtain ⟨qo, qc, h1, h2⟩ := (hd 7 99 (by kernel_rfl) (by kernel_rfl)).1
                    exact f_asg (x := .tmp 99) rfl h1 ⟨_, rfl, ⟨qo, qc, rfl, h2⟩, hB, fun _ _ _ _ h => h⟩
                  | n + 9, hi, _, _ => exact absurd hi (by omega)
                case tail1 =>
                  intro vs W ls _ hB hR
                  have r0 : vs 0 = .slice ko k kc := hR 0 (by decide)
                  obtain ⟨q1, r1, -, -⟩ := hR 1 (by decide)
                  have r2 : vs 2 = .pointer (some ⟨g, 1, none⟩) := hR 2 (by decide)
                  have r3 : vs 3 = .slice ao pn pc := hR 3 (by decide)
                  obtain ⟨q4, c4, r4, -, -⟩ := hR 4 (by decide)
                  have r5 : vs 5 = .pointer (some ⟨g, 2, none⟩) := hR 5 (by decide)
                  have r6 : vs 6 = .int .i64 bound := hR 6 (by decide)
                  obtain ⟨q7, c7, r7, -⟩ := hR 7 (by decide)
                  obtain ⟨qo, qc, r8, hq⟩ := hR 8 (by decide)
                  have HL1 : Hid (LrI w5 S S2 lb cb s0 (.slice aa k ca) bs (.slice qo gn qc) G W ∧ Below w.heap.size w W) := by
                    have h5 := HBw.out.2
                    refine ⟨⟨HSt.out.below hB, HI.out.ac.below hB, hq.mono h5.size, HI.out.na, fun b e => ?_, fun j hj => hj.elim (HI.out.own j) (HI.out.own2 j), h5.trans (hB.mono h5.size), HWs.out.2.2⟩, HBw.out.1.trans (hB.mono HBw.out.1.size)⟩
                    have := (hq.lt b e).1
                    exact ⟨fun hk => by have := HI.out.lg.sb b hk; omega, fun hk => by have := HI.out.ch.sb b hk; omega⟩
                  have HBw5 : Hid (Below w.heap.size w w5) := HG.out.2
                  simp only [putL, put_lit, List.setIfInBounds_toArray, List.set_cons_succ, List.set_cons_zero]
                  rw [r0, r1, r2, r3, r4, r5, r6, r7, r8]
                  clear r0 r1 r2 r3 r4 r5 r6 r7 r8 hR hB hq HI HSt HER HJ HG HBw HB1 HMS
                  have HT2 := two_runs (mx := 800) (by decide) HWs.out.2.1 HEnd.out.1 HEnd.out.2.1 Hf.out
                  have HR1 := HL1.out.1.runs HWs.out.1 hl20 f (f : Int) (Int.toNat_natCast f) (by have := Hf.out; omega) (by rw [HWs.out.2.1]; simp)
                  rw [HWs.out.2.1] at HR1
                  obtain ⟨s1, Hs1⟩ : ∃ s1, Hid (s1 = runR f s0) := ⟨_, rfl⟩
                  rw [← Hs1.out] at HR1 HT2
                  obtain ⟨n1, Hn1⟩ : ∃ n1, Hid (s1.D.length = n1) := ⟨_, rfl⟩
                  rw [Hn1.out, Hgn.out] at HT2
                  simp only [List.length_nil, Nat.sub_zero] at HR1
                  rw [Hn1.out] at HR1
                  obtain ⟨hDG, hn1f, hn1g, hn1e⟩ := HT2
                  have HDG : Hid ((runR 800 s1).D = G) := hDG
                  have Hn1e : Hid (n1 < f → n1 = gn) := hn1e
                  have Hbl : Hid (bs.length = k) := by rw [Hid, ← HWs.out.2.2, List.length_map]; exact HWs.out.1
                  clear hDG hn1e HEnd HWs Hs1
                  go_wp2_with fail
                  refine HR1.mono ?_
                  clear HR1
                  rintro e w7 ⟨rfl, T1, T2, hL7⟩
                  have Hws1 : Hid (s1.ws.length = k) := by
                    have h1 := congrArg List.length hL7.bs
                    rw [List.length_map, Hbl.out] at h1
                    exact h1
                  have HL7 : Hid (LrI w5 T1 T2 lb cb s1 (.slice aa k ca) bs (.slice qo gn qc) G w7 ∧ Below w.heap.size w w7) := ⟨hL7, HBw5.out.trans (hL7.below.mono HBw5.out.size)⟩
                  clear hL7 HL1
                  go_upto_region 29 with fail
                  go_cut [124] from 104 to 123 (fun c wx => c = .bool false ∧ Below w7.heap.size w7 wx)
                  case first =>
                    have HDC := done_calls w7 lb s1.ws s1.D HL7.out.1.st.lg (by rw [Hn1.out]; omega)
                    have e1 : ¬ ((f : Int) < (n1 : Int)) := by omega
                    have e2 : ((n1 : Int) != (n1 : Int)) = false := by simp
                    go_wp2_with fail
                    refine HDC.mono ?_
                    clear HDC
                    rintro e w8 ⟨⟨v, rfl, ho8⟩, hb8⟩
                    obtain ⟨do8, dc8, rfl, -⟩ := ho8.shape
                    rw [List.length_map, Hn1.out] at ho8 ⊢
                    by_cases hlt9 : (n1 : Int) < (f : Int)
                    · have e4 : ((n1 : Int) != (gn : Int)) = false := by rw [Hn1e.out (by omega)]; simp
                      go_wp2_with fail
                      go_meet
                      exact ⟨rfl, hb8⟩
                    · obtain rfl : n1 = f := by omega
                      clear hlt9 hn1f
                      go_wp2_with fail
                      go_meet
                      exact ⟨rfl, hb8⟩
                  case rest =>
                    obtain ⟨rfl, hbc⟩ := hcut
                    have HLc : Hid (LrI w5 T1 T2 lb cb s1 (.slice aa k ca) bs (.slice qo gn qc) G wc) := HL7.out.1.more hbc
                    have HR2 := HLc.out.runs Hws1.out hl20 800 800 rfl (by omega) (by rw [Hn1.out]; omega)
                    rw [Hn1.out] at HR2
                    obtain ⟨s2, Hs2⟩ : ∃ s2, Hid (s2 = runR 800 s1) := ⟨_, rfl⟩
                    rw [← Hs2.out] at HR2
                    have HDG2 : Hid (s2.D = G) := by rw [Hid, Hs2.out]; exact HDG.out
                    rw [HDG2.out, Hgn.out] at HR2
                    obtain ⟨m1, Hm1⟩ : ∃ m1, Hid (m1 = gn - n1) := ⟨_, rfl⟩
                    rw [← Hm1.out] at HR2
                    clear hbc HL7 HLc HDG Hs2 Hn1e Hws1
                    go_wp2_with fail
                    refine HR2.mono ?_
                    clear HR2
                    rintro e w8 ⟨rfl, T3, T4, hL8⟩
                    have HL8 : Hid (LrI w5 T3 T4 lb cb s2 (.slice aa k ca) bs (.slice qo gn qc) G w8 ∧ Below w.heap.size w w8) := ⟨hL8, HBw5.out.trans (hL8.below.mono HBw5.out.size)⟩
                    have HDC := done_calls w8 lb s2.ws s2.D hL8.st.lg (by rw [HDG2.out, Hgn.out]; omega)
                    rw [HDG2.out] at HDC
                    clear hL8
                    go_wp2_with fail
                    refine HDC.mono ?_
                    clear HDC
                    rintro e w9 ⟨⟨v, rfl, ho9⟩, hb9⟩
                    obtain ⟨xo, xc, rfl, -⟩ := ho9.shape
                    rw [List.length_map, Hgn.out] at ho9 ⊢
                    have HSM := sameN_calls xo qo gn xc qc G w9 Hgn.out (by omega) ho9.v (HL8.out.1.wt.v.below hb9)
                    have HI9 : Hid (Ow w9 w8.heap.size 3 (.slice xo gn xc) (G.map nV) ∧ Below w8.heap.size w8 w9) := ⟨ho9, hb9⟩
                    have hm1 : m1 ≤ 300 := by rw [Hm1.out]; omega
                    have hn14 : n1 ≤ 300 := by omega
                    have hadd : ((n1 : Int) + (m1 : Int) != (gn : Int)) = false := by
                      have h1 := Hm1.out
                      have h2 : (n1 : Int) + (m1 : Int) = (gn : Int) := by omega
                      rw [h2]; simp
                    clear ho9 hb9 hn1f hn1g
                    go_wp2_with fail
                    refine HSM.mono ?_
                    clear HSM
                    rintro e w10 ⟨rfl, hb10⟩
                    have HI10 : Hid ((∃ vs, Ow w10 w8.heap.size 3 (.slice xo gn xc) vs ∧ vs.length = gn) ∧ Below w8.heap.size w8 w10) := ⟨⟨_, HI9.out.1.below hb10, by rw [List.length_map]; exact Hgn.out⟩, HI9.out.2.trans (hb10.mono HI9.out.2.size)⟩
                    clear hb10 HI9
                    go_wp2
                    clear hadd
                    go_loopw [17, 144] (fun x i wr => ∃ k : Nat, k ≤ gn ∧ i = .int .i64 (k : Int) ∧ Hid ((∃ vs, Ow wr w8.heap.size 3 (.slice xo gn xc) vs ∧ vs.length = gn) ∧ Below w8.heap.size w8 wr)) (fun _ i _ => gn - (intOf i).toNat)
                    case atStart => exact ⟨0, Nat.zero_le _, rfl, HI10⟩
                    case round =>
                      clear HI10
                      obtain ⟨k2, hk2, rfl, HI2⟩ := hrel
                      by_cases hlt2 : k2 < gn
                      · obtain ⟨⟨vs2, hov, hvl⟩, hbv⟩ := HI2.out
                        obtain ⟨q, rfl, hc, hf⟩ := hov.at k2 (by omega)
                        have HIn : Hid ((∃ vs, Ow (wr.setCell ⟨q, k2, none⟩ (.int .i64 (-1))) w8.heap.size 3 (.slice (some ⟨q, 0, none⟩) gn xc) vs ∧ vs.length = gn) ∧ Below w8.heap.size w8 (wr.setCell ⟨q, k2, none⟩ (.int .i64 (-1)))) := ⟨⟨_, hov.stored k2 _, by rw [List.length_set]; exact hvl⟩, hbv.setCell (by have := (hov.block _ rfl).2.1; exact this) _⟩
                        obtain ⟨old, Hold⟩ : ∃ old, Hid (old = vs2[k2]'(by omega)) := ⟨vs2[k2]'(by omega), rfl⟩
                        rw [← Hold.out] at hc
                        clear HI2 hov hbv Hold hvl
                        go_wp2
                        go_roundw
                        case rel => exact ⟨k2 + 1, by omega, by go_num, HIn⟩
                        case measure => simp [intOf]; omega
                      · have HL11 : Hid (LrI w5 T3 T4 lb cb s2 (.slice aa k ca) bs (.slice qo gn qc) G wr ∧ Below w.heap.size w wr) := ⟨HL8.out.1.more HI2.out.2, HL8.out.2.trans (HI2.out.2.mono HL8.out.2.size)⟩
                        have HDC := done_calls wr lb s2.ws s2.D HL11.out.1.st.lg (by rw [HDG2.out, Hgn.out]; omega)
                        rw [HDG2.out] at HDC
                        clear HI2 HL8
                        go_wp2_with fail
                        refine HDC.mono ?_
                        clear HDC
                        rintro e w12 ⟨⟨v, rfl, ho12⟩, hb12⟩
                        obtain ⟨yo, yc, rfl, -⟩ := ho12.shape
                        rw [List.length_map, Hgn.out] at ho12 ⊢
                        have HSM := sameN_calls yo qo gn yc qc G w12 Hgn.out (by omega) ho12.v (HL11.out.1.wt.v.below hb12)
                        have HB12 : Hid (Below w.heap.size w w12) := HL11.out.2.trans (hb12.mono HL11.out.2.size)
                        clear ho12 hb12 HL11
                        go_wp2_with fail
                        refine HSM.mono ?_
                        clear HSM
                        rintro e w13 ⟨rfl, hb13⟩
                        have HB13 : Hid (Below w.heap.size w w13) := HB12.out.trans (hb13.mono HB12.out.size)
                        clear hb13 HB12
                        go_wp2
                        go_ret
                        exact ⟨rfl, HB13.out⟩
end Go.Proofs.Ytagdgecmoeacgaa
