import Derived.Test.YtelhgjepjieocaaDoorJxApV4
/- Layer 18 (json): appendValue of lists and objects. -/
namespace Go.Proofs.YtelhgjepjieocaaDoor
open Go.RowKit Go.MapKept Go.Sort
set_option linter.unusedVariables false

set_option maxRecDepth 100000 in
set_option maxHeartbeats 4000000 in
theorem appendV5_calls (n : Int) (t : List UInt8) (ns : List (List UInt8)) (its : List Js) (IH : ∀ x ∈ its, SpecP x) (d nl nc il ic : Nat) (na ia : Option Addr) (w : World) (S : Nat → Prop) (B : Nat) (vt : Value) (l : List Nat)
    (hd : d ≤ 16) (hnl : ns.length = nl) (hil : its.length = il) (hso : soundJ (.mk 5 n t ns its) d = true) (hr : Rng (.mk 5 n t ns its)) (hv : VAt w na (ns.map strV)) (hnS : ∀ a, na = some a → ns ≠ [] → S a.block) (hi : ItAt w S ia 0 its) (hs : ∀ a, ia = some a → its ≠ [] → S a.block) (hSB : ∀ k, S k → k < B) (ho : Ow w B 5 vt (nbs l)) (hl : l.length ≤ 70000) (hB : B ≤ w.heap.size) (htab : TabB B w) :
    Calls Tryd.prog 31 #[vt, .agg (jC 5 n (nmB t) (.slice na nl nc) (.slice ia il ic))] w (TxC w B vt (nbs (valP (.mk 5 n t ns its) l))) := by
  obtain ⟨Q, HQ⟩ : ∃ Q : List Nat, Hid (Q = valP (.mk 5 n t ns its) l) := ⟨valP (.mk 5 n t ns its) l, (Eq.refl _ : valP (.mk 5 n t ns its) l = _)⟩
  rw [← HQ.out]
  obtain ⟨tb, Htb⟩ : ∃ tb : ByteArray, Hid (tb = nmB t) := ⟨nmB t, (Eq.refl _ : nmB t = _)⟩
  have HV : Hid (Q = itsP (5 == 6) true ns its (l ++ [91]) ++ [93]) := by rw [Hid, HQ.out]; unfold valP; rfl
  obtain ⟨w1, Hw1⟩ : ∃ w1, Hid (w1 = w.alloc (.cells #[.int .i64 5, .int .i64 n, .string tb, .slice na nl nc, .slice ia il ic] 26)) := ⟨_, rfl⟩
  obtain ⟨g, Hg⟩ : ∃ g, Hid (g = w.heap.size) := ⟨_, rfl⟩
  have HB1 : Hid (Blk w1 g #[.int .i64 5, .int .i64 n, .string tb, .slice na nl nc, .slice ia il ic] 26) := by rw [Hid, Hw1.out, Hg.out]; exact Blk.new _ _ _
  have HF1 : Hid (Below w.heap.size w w1) := by rw [Hid, Hw1.out]; exact below_new _ _
  have HG1 : Hid (Grew w w1 vt vt) := (Grew.refl _ _).below HF1.out
  have HO : Hid (Ow w1 B 5 vt (nbs l) ∧ l.length ≤ 70000 ∧ B ≤ w1.heap.size) := ⟨ho.below HF1.out, hl, Nat.le_trans hB HF1.out.size⟩
  obtain ⟨x0, x1, x2, x3, x4, -⟩ := Blk.five HB1.out
  unfold soundJ at hso
  simp at hso
  unfold Rng at hr
  have hall : d < 16 ∧ allS its (d + 1) = true := by exact hso.2
  have HZ : Hid ((itsP (5 == 6) true ns its (l ++ [91])).length ≤ 72000) := by
    have := itsP_len its (5 == 6) true ns d (l ++ [91]) hall.2 hr.2.2.2.2.2 hall.1 (by rw [List.length_append, List.length_singleton]; omega)
    rw [Hid]; omega
  have HC : ∀ W v2, Grew w1 W vt v2 → Ow W B 5 v2 (nbs (l ++ [91])) → Calls Tryd.prog 51 #[v2, .agg #[.int .i64 5, .int .i64 n, .string tb, .slice na nl nc, .slice ia il ic]] W (TxC W B v2 (nbs (itsP (5 == 6) true ns its (l ++ [91])))) := fun W v2 hg hw => by
    have hg0 := HG1.out.trans hg
    have hap := ho.apart hSB
    have := appendItems_calls 5 n t ns its IH d nl nc il ic na ia W S B v2 (l ++ [91]) hall.1 hnl hil (by rw [← hnl]; exact hr.2.2.1) (by rw [← hil]; exact hr.2.2.2.1) hall.2 hr.2.2.2.2.2 (by intro h; cases h) hr.2.2.2.2.1
      (fun i hi => by obtain ⟨b, off, e, hc⟩ := hv i hi; exact ⟨b, off, e, cell_frm hg0.frm hc (hap b (hnS _ e (by rintro rfl; exact absurd hi (Nat.not_lt_zero _))))⟩) hnS (ItAt.frm hg0.frm hap its ia 0 hs hi) hs hSB hw (by rw [List.length_append, List.length_singleton]; omega) (Nat.le_trans hB hg0.size) (htab.on (hg0.toBelow hB (fun q hq => (World.ownsRow.lt ho q hq).1)))
    rw [← Htb.out] at this
    unfold jC at this
    exact this
  rw [← Htb.out]
  clear IH hr hv hnS hi hs hSB ho hB htab hl HQ Htb hso
  unfold jC
  go_enter Tryd.func31, Tryd.ntmps31
  go_upto_region 1 with fail
  rw [← Hw1.out, ← Hg.out]
  clear Hw1 Hg
  go_wp2_with fail
  refine wp_region_V 8 (JV w1 B vt l (l ++ [91]) (itsP (5 == 6) true ns its (l ++ [91])) (itsP (5 == 6) true ns its (l ++ [91]) ++ [93]) [91] [93]) (RV vt (.agg #[.int .i64 5, .int .i64 n, .string tb, .slice na nl nc, .slice ia il ic])) (by kernel_rfl) rfl (by kernel_rfl) (by kernel_rfl) [some 30, some 31, some 32, some 33, some 34, some 35, some 36, some 4] (by kernel_rfl) ?J0 ?hop ?tail
  case J0 => exact fun W vs hW => ⟨HO.out.1.below hW, (Grew.refl _ _).below hW, fun h => (by cases h), fun h => (by cases h), fun h => (by cases h), fun h => (by cases h), fun h => (by cases h)⟩
  case hop =>
    intro i o hi ho a W ls vs hJ hlf hs hd hall
    match i, hi, ho, hd, hlf, hall with
    | 0, _, ho, hd, hlf, hall =>
      obtain rfl := Option.some.inj ho
      exact ⟨.inl rfl, f_mv (x := .tmp 0) rfl ((hs 0 (notDst (by kernel_rfl))).trans rfl) ⟨_, rfl, rfl, hJ.q0, fun _ _ _ _ h => h⟩⟩
    | 1, _, ho, hd, hlf, hall =>
      obtain rfl := Option.some.inj ho
      exact ⟨.inl rfl, f_build1 (c := 91) rfl ⟨_, rfl, trivial, hJ.a1, fun _ _ _ _ h => h⟩⟩
    | 2, _, ho, hd, hlf, hall =>
      obtain rfl := Option.some.inj ho
      refine ⟨.inl rfl, ?_⟩
      have h4 : ls 4 = false := by cases e : ls 4 with | false => rfl | true => have := hJ.o42 e; rw [hlf] at this; cases this
      have h6 : ls 6 = false := by cases e : ls 6 with | false => rfl | true => have := hJ.o64 e; rw [h4] at this; cases this
      have hc : curV vt ls vs = vt := by simp [curV, hlf, h4, h6]
      have hcl : curL l (l ++ [91]) (itsP (5 == 6) true ns its (l ++ [91])) (itsP (5 == 6) true ns its (l ++ [91]) ++ [93]) ls = l := by simp [curL, hlf, h4, h6]
      obtain ⟨q, e1, e2, e3⟩ := hJ.b1 (hall 1 (by kernel_rfl)) hlf
      have ho1 := hJ.own
      rw [hc, hcl] at ho1
      refine f_appG (s := .tmp 30) (x := .tmp 31) rfl B _ l (hd 0 30 (by kernel_rfl) (by kernel_rfl)).1 [91] 1 q rfl ((hd 1 31 (by kernel_rfl) (by kernel_rfl)).2.trans e1) e2 ho1 (by have := HO.out.2.1; omega) (Nat.le_trans HO.out.2.2 hJ.grew.size) ?_
      intro v' w' hv hg
      exact ⟨_, rfl, trivial, hJ.g2 hlf hv hg, fun _ _ _ _ h => h⟩
    | 3, _, ho, hd, hlf, hall =>
      obtain rfl := Option.some.inj ho
      exact ⟨.inl rfl, f_load5 (x := .tmp 3) rfl ((hs 3 (notDst (by kernel_rfl))).trans rfl) (HB1.out.grewJ HO.out.1 hJ.grew) ⟨_, rfl, rfl, hJ.q3, fun _ _ _ _ h => h⟩⟩
    | 4, _, ho, hd, hlf, hall =>
      obtain rfl := Option.some.inj ho
      refine ⟨.inl rfl, ?_⟩
      have h2 := hall 2 (by kernel_rfl)
      have h6 : ls 6 = false := by cases e : ls 6 with | false => rfl | true => have := hJ.o64 e; rw [hlf] at this; cases this
      have hc : curV vt ls vs = vs 2 := by simp [curV, h2, hlf, h6]
      have hcl : curL l (l ++ [91]) (itsP (5 == 6) true ns its (l ++ [91])) (itsP (5 == 6) true ns its (l ++ [91]) ++ [93]) ls = l ++ [91] := by simp [curL, h2, hlf, h6]
      have ho1 := hJ.own
      have hg1 := hJ.grew
      rw [hc] at ho1 hg1
      rw [hcl] at ho1
      refine wp_callF (f := 51) (vals := #[vs 2, .agg #[.int .i64 5, .int .i64 n, .string tb, .slice na nl nc, .slice ia il ic]]) rfl (map2 (hd 2 32 (by kernel_rfl) (by kernel_rfl)).2 (hd 3 33 (by kernel_rfl) (by kernel_rfl)).1) (by go_simp) ?_
      refine (HC W (vs 2) hg1 ho1).mono ?_
      rintro e w' ⟨v', rfl, hv, hg⟩
      exact ⟨_, rfl, _, rfl, trivial, hJ.g4 h2 hlf hv hg, fun _ _ _ _ h => h⟩
    | 5, _, ho, hd, hlf, hall =>
      obtain rfl := Option.some.inj ho
      exact ⟨.inl rfl, f_build1 (c := 93) rfl ⟨_, rfl, trivial, hJ.a5, fun _ _ _ _ h => h⟩⟩
    | 6, _, ho, hd, hlf, hall =>
      obtain rfl := Option.some.inj ho
      refine ⟨.inl rfl, ?_⟩
      have h4 := hall 4 (by kernel_rfl)
      have hc : curV vt ls vs = vs 4 := by simp [curV, hlf, h4]
      have hcl : curL l (l ++ [91]) (itsP (5 == 6) true ns its (l ++ [91])) (itsP (5 == 6) true ns its (l ++ [91]) ++ [93]) ls = itsP (5 == 6) true ns its (l ++ [91]) := by simp [curL, hlf, h4]
      obtain ⟨q, e1, e2, e3⟩ := hJ.b5 (hall 5 (by kernel_rfl)) hlf
      have ho1 := hJ.own
      rw [hc, hcl] at ho1
      refine f_appG (s := .tmp 34) (x := .tmp 35) rfl B _ _ (hd 4 34 (by kernel_rfl) (by kernel_rfl)).2 [93] 1 q rfl ((hd 5 35 (by kernel_rfl) (by kernel_rfl)).2.trans e1) e2 ho1 (by have := HZ.out; omega) (Nat.le_trans HO.out.2.2 hJ.grew.size) ?_
      intro v' w' hv hg
      exact ⟨_, rfl, trivial, hJ.g6 h4 hlf hv hg, fun _ _ _ _ h => h⟩
    | 7, _, ho, hd, hlf, hall =>
      obtain rfl := Option.some.inj ho
      exact ⟨.inl rfl, f_asg (x := .tmp 36) rfl rfl ⟨_, rfl, trivial, hJ.l7 (hd 6 36 (by kernel_rfl) (by kernel_rfl)).2 (hall 6 (by kernel_rfl)), fun _ _ _ _ h => h⟩⟩
    | n + 8, hi, _, _, _, _ => exact absurd hi (by omega)
  case tail =>
    intro vs W ls hls hJ hR
    have h6 := hls 6 (by decide)
    have e7 := (hJ.last (hls 7 (by decide))).1
    have hc : curV vt ls vs = vs 6 := by simp [curV, h6]
    have hcl : curL l (l ++ [91]) (itsP (5 == 6) true ns its (l ++ [91])) (itsP (5 == 6) true ns its (l ++ [91]) ++ [93]) ls = itsP (5 == 6) true ns its (l ++ [91]) ++ [93] := by simp [curL, h6]
    have ho1 := hJ.own
    have hg1 := hJ.grew
    rw [hc] at ho1 hg1
    rw [hcl] at ho1
    clear hR hls hJ hc hcl h6
    simp only [putL, put_lit, List.setIfInBounds_toArray, List.set_cons_succ, List.set_cons_zero]
    rw [e7]
    clear e7
    generalize vs 6 = v8 at ho1 hg1 ⊢
    have HX : Hid (Ow W B 5 v8 (nbs (itsP (5 == 6) true ns its (l ++ [91]) ++ [93])) ∧ Grew w1 W vt v8) := ⟨ho1, hg1⟩
    clear ho1 hg1
    go_wp2
    go_ret
    refine ⟨_, rfl, ?_, HG1.out.trans HX.out.2⟩
    rw [HV.out]
    exact HX.out.1
end Go.Proofs.YtelhgjepjieocaaDoor

/- Layer 18 (json): appendValue of lists and objects. -/
namespace Go.Proofs.YtelhgjepjieocaaDoor
open Go.RowKit Go.MapKept Go.Sort
set_option linter.unusedVariables false

set_option maxRecDepth 100000 in
set_option maxHeartbeats 4000000 in
theorem appendV6_calls (n : Int) (t : List UInt8) (ns : List (List UInt8)) (its : List Js) (IH : ∀ x ∈ its, SpecP x) (d nl nc il ic : Nat) (na ia : Option Addr) (w : World) (S : Nat → Prop) (B : Nat) (vt : Value) (l : List Nat)
    (hd : d ≤ 16) (hnl : ns.length = nl) (hil : its.length = il) (hso : soundJ (.mk 6 n t ns its) d = true) (hr : Rng (.mk 6 n t ns its)) (hv : VAt w na (ns.map strV)) (hnS : ∀ a, na = some a → ns ≠ [] → S a.block) (hi : ItAt w S ia 0 its) (hs : ∀ a, ia = some a → its ≠ [] → S a.block) (hSB : ∀ k, S k → k < B) (ho : Ow w B 5 vt (nbs l)) (hl : l.length ≤ 70000) (hB : B ≤ w.heap.size) (htab : TabB B w) :
    Calls Tryd.prog 31 #[vt, .agg (jC 6 n (nmB t) (.slice na nl nc) (.slice ia il ic))] w (TxC w B vt (nbs (valP (.mk 6 n t ns its) l))) := by
  obtain ⟨Q, HQ⟩ : ∃ Q : List Nat, Hid (Q = valP (.mk 6 n t ns its) l) := ⟨valP (.mk 6 n t ns its) l, (Eq.refl _ : valP (.mk 6 n t ns its) l = _)⟩
  rw [← HQ.out]
  obtain ⟨tb, Htb⟩ : ∃ tb : ByteArray, Hid (tb = nmB t) := ⟨nmB t, (Eq.refl _ : nmB t = _)⟩
  have HV : Hid (Q = itsP (6 == 6) true ns its (l ++ [123]) ++ [125]) := by rw [Hid, HQ.out]; unfold valP; rfl
  obtain ⟨w1, Hw1⟩ : ∃ w1, Hid (w1 = w.alloc (.cells #[.int .i64 6, .int .i64 n, .string tb, .slice na nl nc, .slice ia il ic] 26)) := ⟨_, rfl⟩
  obtain ⟨g, Hg⟩ : ∃ g, Hid (g = w.heap.size) := ⟨_, rfl⟩
  have HB1 : Hid (Blk w1 g #[.int .i64 6, .int .i64 n, .string tb, .slice na nl nc, .slice ia il ic] 26) := by rw [Hid, Hw1.out, Hg.out]; exact Blk.new _ _ _
  have HF1 : Hid (Below w.heap.size w w1) := by rw [Hid, Hw1.out]; exact below_new _ _
  have HG1 : Hid (Grew w w1 vt vt) := (Grew.refl _ _).below HF1.out
  have HO : Hid (Ow w1 B 5 vt (nbs l) ∧ l.length ≤ 70000 ∧ B ≤ w1.heap.size) := ⟨ho.below HF1.out, hl, Nat.le_trans hB HF1.out.size⟩
  obtain ⟨x0, x1, x2, x3, x4, -⟩ := Blk.five HB1.out
  unfold soundJ at hso
  simp at hso
  unfold Rng at hr
  have hall : d < 16 ∧ allS its (d + 1) = true ∧ ns.length = its.length := by exact ⟨hso.1.2.1, hso.1.2.2, hso.1.1.2⟩
  have HZ : Hid ((itsP (6 == 6) true ns its (l ++ [123])).length ≤ 72000) := by
    have := itsP_len its (6 == 6) true ns d (l ++ [123]) hall.2.1 hr.2.2.2.2.2 hall.1 (by rw [List.length_append, List.length_singleton]; omega)
    rw [Hid]; omega
  have HC : ∀ W v2, Grew w1 W vt v2 → Ow W B 5 v2 (nbs (l ++ [123])) → Calls Tryd.prog 51 #[v2, .agg #[.int .i64 6, .int .i64 n, .string tb, .slice na nl nc, .slice ia il ic]] W (TxC W B v2 (nbs (itsP (6 == 6) true ns its (l ++ [123])))) := fun W v2 hg hw => by
    have hg0 := HG1.out.trans hg
    have hap := ho.apart hSB
    have := appendItems_calls 6 n t ns its IH d nl nc il ic na ia W S B v2 (l ++ [123]) hall.1 hnl hil (by rw [← hnl]; exact hr.2.2.1) (by rw [← hil]; exact hr.2.2.2.1) hall.2.1 hr.2.2.2.2.2 (by intro _; rw [← hnl, ← hil]; exact hall.2.2) hr.2.2.2.2.1
      (fun i hi => by obtain ⟨b, off, e, hc⟩ := hv i hi; exact ⟨b, off, e, cell_frm hg0.frm hc (hap b (hnS _ e (by rintro rfl; exact absurd hi (Nat.not_lt_zero _))))⟩) hnS (ItAt.frm hg0.frm hap its ia 0 hs hi) hs hSB hw (by rw [List.length_append, List.length_singleton]; omega) (Nat.le_trans hB hg0.size) (htab.on (hg0.toBelow hB (fun q hq => (World.ownsRow.lt ho q hq).1)))
    rw [← Htb.out] at this
    unfold jC at this
    exact this
  rw [← Htb.out]
  clear IH hr hv hnS hi hs hSB ho hB htab hl HQ Htb hso
  unfold jC
  go_enter Tryd.func31, Tryd.ntmps31
  go_upto_region 1 with fail
  rw [← Hw1.out, ← Hg.out]
  clear Hw1 Hg
  go_wp2_with fail
  refine wp_region_V 8 (JV w1 B vt l (l ++ [123]) (itsP (6 == 6) true ns its (l ++ [123])) (itsP (6 == 6) true ns its (l ++ [123]) ++ [125]) [123] [125]) (RV vt (.agg #[.int .i64 6, .int .i64 n, .string tb, .slice na nl nc, .slice ia il ic])) (by kernel_rfl) rfl (by kernel_rfl) (by kernel_rfl) [some 39, some 40, some 41, some 42, some 43, some 44, some 45, some 4] (by kernel_rfl) ?J0 ?hop ?tail
  case J0 => exact fun W vs hW => ⟨HO.out.1.below hW, (Grew.refl _ _).below hW, fun h => (by cases h), fun h => (by cases h), fun h => (by cases h), fun h => (by cases h), fun h => (by cases h)⟩
  case hop =>
    intro i o hi ho a W ls vs hJ hlf hs hd hall
    match i, hi, ho, hd, hlf, hall with
    | 0, _, ho, hd, hlf, hall =>
      obtain rfl := Option.some.inj ho
      exact ⟨.inl rfl, f_mv (x := .tmp 0) rfl ((hs 0 (notDst (by kernel_rfl))).trans rfl) ⟨_, rfl, rfl, hJ.q0, fun _ _ _ _ h => h⟩⟩
    | 1, _, ho, hd, hlf, hall =>
      obtain rfl := Option.some.inj ho
      exact ⟨.inl rfl, f_build1 (c := 123) rfl ⟨_, rfl, trivial, hJ.a1, fun _ _ _ _ h => h⟩⟩
    | 2, _, ho, hd, hlf, hall =>
      obtain rfl := Option.some.inj ho
      refine ⟨.inl rfl, ?_⟩
      have h4 : ls 4 = false := by cases e : ls 4 with | false => rfl | true => have := hJ.o42 e; rw [hlf] at this; cases this
      have h6 : ls 6 = false := by cases e : ls 6 with | false => rfl | true => have := hJ.o64 e; rw [h4] at this; cases this
      have hc : curV vt ls vs = vt := by simp [curV, hlf, h4, h6]
      have hcl : curL l (l ++ [123]) (itsP (6 == 6) true ns its (l ++ [123])) (itsP (6 == 6) true ns its (l ++ [123]) ++ [125]) ls = l := by simp [curL, hlf, h4, h6]
      obtain ⟨q, e1, e2, e3⟩ := hJ.b1 (hall 1 (by kernel_rfl)) hlf
      have ho1 := hJ.own
      rw [hc, hcl] at ho1
      refine f_appG (s := .tmp 39) (x := .tmp 40) rfl B _ l (hd 0 39 (by kernel_rfl) (by kernel_rfl)).1 [123] 1 q rfl ((hd 1 40 (by kernel_rfl) (by kernel_rfl)).2.trans e1) e2 ho1 (by have := HO.out.2.1; omega) (Nat.le_trans HO.out.2.2 hJ.grew.size) ?_
      intro v' w' hv hg
      exact ⟨_, rfl, trivial, hJ.g2 hlf hv hg, fun _ _ _ _ h => h⟩
    | 3, _, ho, hd, hlf, hall =>
      obtain rfl := Option.some.inj ho
      exact ⟨.inl rfl, f_load5 (x := .tmp 3) rfl ((hs 3 (notDst (by kernel_rfl))).trans rfl) (HB1.out.grewJ HO.out.1 hJ.grew) ⟨_, rfl, rfl, hJ.q3, fun _ _ _ _ h => h⟩⟩
    | 4, _, ho, hd, hlf, hall =>
      obtain rfl := Option.some.inj ho
      refine ⟨.inl rfl, ?_⟩
      have h2 := hall 2 (by kernel_rfl)
      have h6 : ls 6 = false := by cases e : ls 6 with | false => rfl | true => have := hJ.o64 e; rw [hlf] at this; cases this
      have hc : curV vt ls vs = vs 2 := by simp [curV, h2, hlf, h6]
      have hcl : curL l (l ++ [123]) (itsP (6 == 6) true ns its (l ++ [123])) (itsP (6 == 6) true ns its (l ++ [123]) ++ [125]) ls = l ++ [123] := by simp [curL, h2, hlf, h6]
      have ho1 := hJ.own
      have hg1 := hJ.grew
      rw [hc] at ho1 hg1
      rw [hcl] at ho1
      refine wp_callF (f := 51) (vals := #[vs 2, .agg #[.int .i64 6, .int .i64 n, .string tb, .slice na nl nc, .slice ia il ic]]) rfl (map2 (hd 2 41 (by kernel_rfl) (by kernel_rfl)).2 (hd 3 42 (by kernel_rfl) (by kernel_rfl)).1) (by go_simp) ?_
      refine (HC W (vs 2) hg1 ho1).mono ?_
      rintro e w' ⟨v', rfl, hv, hg⟩
      exact ⟨_, rfl, _, rfl, trivial, hJ.g4 h2 hlf hv hg, fun _ _ _ _ h => h⟩
    | 5, _, ho, hd, hlf, hall =>
      obtain rfl := Option.some.inj ho
      exact ⟨.inl rfl, f_build1 (c := 125) rfl ⟨_, rfl, trivial, hJ.a5, fun _ _ _ _ h => h⟩⟩
    | 6, _, ho, hd, hlf, hall =>
      obtain rfl := Option.some.inj ho
      refine ⟨.inl rfl, ?_⟩
      have h4 := hall 4 (by kernel_rfl)
      have hc : curV vt ls vs = vs 4 := by simp [curV, hlf, h4]
      have hcl : curL l (l ++ [123]) (itsP (6 == 6) true ns its (l ++ [123])) (itsP (6 == 6) true ns its (l ++ [123]) ++ [125]) ls = itsP (6 == 6) true ns its (l ++ [123]) := by simp [curL, hlf, h4]
      obtain ⟨q, e1, e2, e3⟩ := hJ.b5 (hall 5 (by kernel_rfl)) hlf
      have ho1 := hJ.own
      rw [hc, hcl] at ho1
      refine f_appG (s := .tmp 43) (x := .tmp 44) rfl B _ _ (hd 4 43 (by kernel_rfl) (by kernel_rfl)).2 [125] 1 q rfl ((hd 5 44 (by kernel_rfl) (by kernel_rfl)).2.trans e1) e2 ho1 (by have := HZ.out; omega) (Nat.le_trans HO.out.2.2 hJ.grew.size) ?_
      intro v' w' hv hg
      exact ⟨_, rfl, trivial, hJ.g6 h4 hlf hv hg, fun _ _ _ _ h => h⟩
    | 7, _, ho, hd, hlf, hall =>
      obtain rfl := Option.some.inj ho
      exact ⟨.inl rfl, f_asg (x := .tmp 45) rfl rfl ⟨_, rfl, trivial, hJ.l7 (hd 6 45 (by kernel_rfl) (by kernel_rfl)).2 (hall 6 (by kernel_rfl)), fun _ _ _ _ h => h⟩⟩
    | n + 8, hi, _, _, _, _ => exact absurd hi (by omega)
  case tail =>
    intro vs W ls hls hJ hR
    have h6 := hls 6 (by decide)
    have e7 := (hJ.last (hls 7 (by decide))).1
    have hc : curV vt ls vs = vs 6 := by simp [curV, h6]
    have hcl : curL l (l ++ [123]) (itsP (6 == 6) true ns its (l ++ [123])) (itsP (6 == 6) true ns its (l ++ [123]) ++ [125]) ls = itsP (6 == 6) true ns its (l ++ [123]) ++ [125] := by simp [curL, h6]
    have ho1 := hJ.own
    have hg1 := hJ.grew
    rw [hc] at ho1 hg1
    rw [hcl] at ho1
    clear hR hls hJ hc hcl h6
    simp only [putL, put_lit, List.setIfInBounds_toArray, List.set_cons_succ, List.set_cons_zero]
    rw [e7]
    clear e7
    generalize vs 6 = v8 at ho1 hg1 ⊢
    have HX : Hid (Ow W B 5 v8 (nbs (itsP (6 == 6) true ns its (l ++ [123]) ++ [125])) ∧ Grew w1 W vt v8) := ⟨ho1, hg1⟩
    clear ho1 hg1
    go_wp2
    go_ret
    refine ⟨_, rfl, ?_, HG1.out.trans HX.out.2⟩
    rw [HV.out]
    exact HX.out.1
end Go.Proofs.YtelhgjepjieocaaDoor
