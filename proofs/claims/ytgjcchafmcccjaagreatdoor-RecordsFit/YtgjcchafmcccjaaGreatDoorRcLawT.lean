/- Layer 9 (records): RecordsFit, the walk. -/
import Derived.Test.YtgjcchafmcccjaaGreatDoorRcFixed
import Derived.Test.YtgjcchafmcccjaaGreatDoorRcCopyS
import Derived.Test.YtgjcchafmcccjaaGreatDoorSCatch
import Derived.BigQuiet
namespace Go.Proofs.YtgjcchafmcccjaaGreatDoor
open Go.RowKit
set_option linter.unusedVariables false

theorem KindsAt.nxtT {w w' : World} (h : KindsAt w) (hb : Below w.heap.size w w') : KindsAt w' := (h.fr (Fr.ofBelow hb (Nat.le_refl _)) (World.block_lt_of_cell? w _ h.c0))
theorem cell_nxtT {w w' : World} {a : Addr} {v : Value} (h : w.cell? a = some v) (hb : Below w.heap.size w w') : w'.cell? a = some v := by rw [hb.cell (by exact World.block_lt_of_cell? w _ h)]; exact h
set_option maxRecDepth 100000 in
theorem schemaTextT_calls (w : World) : Calls Tryz.prog 6 #[] w fun e w' => e = .returned (.string schemaT) ∧ w' = w := by
  go_enter Tryz.func6, Tryz.ntmps6
  go_wp2
  go_ret
  exact ⟨rfl, rfl⟩
theorem four_tabs {ts : List TV} (h : tbs ts = schemaS) : ∃ t0 t1 t2 t3, ts = [t0, t1, t2, t3] ∧ t0.tb = nodesTb ∧ t1.tb = servicesTb := by
  have hl : ts.length = 4 := by
    have := congrArg List.length h
    simpa [tbs, schemaS] using this
  match ts, hl, h with
  | [t0, t1, t2, t3], _, h =>
    simp only [tbs, List.map_cons, List.map_nil, schemaS, List.cons.injEq] at h
    exact ⟨t0, t1, t2, t3, rfl, h.1, h.2.1⟩
theorem three_boxT (w : World) (o1 o2 o3 : Obj) : (((w.alloc o1).alloc o2).alloc o3).heap[w.heap.size]? = some o1 ∧ (((w.alloc o1).alloc o2).alloc o3).heap[w.heap.size + 1]? = some o2 ∧ (((w.alloc o1).alloc o2).alloc o3).heap[w.heap.size + 1 + 1]? = some o3 ∧
    Below w.heap.size w (((w.alloc o1).alloc o2).alloc o3) := ⟨(three_alloc w o1 o2 o3).1, (three_alloc w o1 o2 o3).2.1, (three_alloc w o1 o2 o3).2.2.1, (three_alloc w o1 o2 o3).2.2.2.1⟩
theorem svcF_sizes {s : Sp} (h : s.small) (h0 : svcE s = 0) : (svcF s).small ∧ (svcF s).made = 0 ∧ (svcF s).changed = 0 ∧ ∀ x ∈ (svcF s).tags, x.size ≤ 63 := by
  have ho := svc_ok h0
  have hk := tags_zero (svc_parts h0).2.2.2
  have ht : ∀ x ∈ (svcF s).tags, x.size ≤ 63 := by
    rw [svc_yes h0]
    intro x hx
    obtain ⟨y, hy, rfl⟩ := tagsB_mem hk hx
    rw [lowS_size]
    exact (labB_all (hk.2 y hy)).2.1
  refine ⟨⟨?_, ?_, ?_, ?_, fun x hx => ?_⟩, ?_, ?_, ht⟩
  · have := ho.n1; omega
  · have := ho.i1; omega
  · have := ho.m1; omega
  · have := ho.t; omega
  · have := ht x hx; omega
  · rw [svc_yes h0]
  · rw [svc_yes h0]
theorem fixN_sizes {n : Nd} (h2 : n.addr.size ≤ 140737488351232) (h0 : nodeE n = 0) : (fixN n).addr.size ≤ 140737488351232 ∧ (fixN n).made = 0 ∧ (fixN n).changed = 0 := by
  have e : fixN n = ⟨labT n.name, n.addr, 0, 0⟩ := if_pos h0
  rw [e]
  exact ⟨h2, rfl, rfl⟩
/-- What the two keys say. -/
theorem keys_say {s u : Sp} (h : SvcOk s) (k : SvcOk u) : decide (enc false [txP s.node, txP s.id] = enc false [txP u.node, txP u.id]) = (decide (s.node = u.node) && decide (s.id = u.id)) := by
  have := svc_alike h k
  by_cases e : enc false [txP s.node, txP s.id] = enc false [txP u.node, txP u.id]
  · obtain ⟨h1, h2⟩ := this.1 e
    simp [h1, h2]
  · have hn : ¬ (s.node = u.node ∧ s.id = u.id) := fun x => e (this.2 x)
    rw [decide_eq_false e]
    by_cases h1 : s.node = u.node
    · have h2 : ¬ s.id = u.id := fun x => hn ⟨h1, x⟩
      simp [h2]
    · simp [h1]

set_option maxRecDepth 100000 in
set_option maxHeartbeats 8000000 in
theorem recordsFit_calls (a b : Sp) (n : Nd) (ta tb : Option Addr) (tc td : Nat) (w : World) (mx : Int) (hmx : w.cell? ⟨1, 0, none⟩ = some (.int .i64 mx)) (hki : KindsAt w) (hv : Vs w) (hn1 : n.name.size ≤ 140737488351232) (hn2 : n.addr.size ≤ 140737488351232) (ha : a.small) (hal : a.tags.length ≤ 8796093021952) (hb : b.small) (hbl : b.tags.length ≤ 8796093021952)
    (hta : CellsAt w ta (a.tags.map Value.string)) (htb : CellsAt w tb (b.tags.map Value.string)) :
    Calls Tryz.prog 3 #[.agg (a.v (.slice ta a.tags.length tc)), .agg (b.v (.slice tb b.tags.length td)), .agg n.v] w fun e w' => e = .returned (.bool true) ∧ Below w.heap.size w w' := by
  have HV : Hid (Vs w) := hv
  have HMX : Hid (w.cell? ⟨1, 0, none⟩ = some (.int .i64 mx)) := hmx
  have HKI : Hid (KindsAt w) := hki
  have HTA : Hid (CellsAt w ta (a.tags.map Value.string)) := hta
  have HTB : Hid (CellsAt w tb (b.tags.map Value.string)) := htb
  obtain ⟨ne, Hne⟩ : ∃ x, Hid (x = nodeE n) := ⟨_, rfl⟩
  obtain ⟨ae, Hae⟩ : ∃ x, Hid (x = svcE a) := ⟨_, rfl⟩
  obtain ⟨be, Hbe⟩ : ∃ x, Hid (x = svcE b) := ⟨_, rfl⟩
  obtain ⟨m, Hm⟩ : ∃ x, Hid (x = fixN n) := ⟨_, rfl⟩
  obtain ⟨x, Hx⟩ : ∃ x, Hid (x = svcF a) := ⟨_, rfl⟩
  obtain ⟨y, Hy⟩ : ∃ x, Hid (x = svcF b) := ⟨_, rfl⟩
  have CP : Hid (∀ W, Below w.heap.size w W → Calls Tryz.prog 5 #[.string schemaT] W fun e w' => Parsed W (.ok schemaS) e w') := fun W hW => by
    have := parse_calls schemaT W mx (cell_nxtT HMX.out hW) (HKI.out.nxtT hW)
    rw [schema_parse] at this
    exact this
  have CN : Hid (∀ W, Vs W → Calls Tryz.prog 7 #[.agg n.v] W fun e w' => e = .returned (.tuple #[.agg m.v, .int .i64 ne]) ∧ Below W.heap.size W w') := fun W h => by rw [Hm.out, Hne.out]; exact fixNode_calls n W (by omega) (by omega) h
  have CA : Hid (∀ t c W, CellsAt W t (a.tags.map Value.string) → Calls Tryz.prog 10 #[.agg (a.v (.slice t a.tags.length c))] W fun e w' => SvcA W x ae e w') := fun t c W h => by rw [Hx.out, Hae.out]; exact fixService_calls a t c W ha h
  have CB : Hid (∀ t c W, CellsAt W t (b.tags.map Value.string) → Calls Tryz.prog 10 #[.agg (b.v (.slice t b.tags.length c))] W fun e w' => SvcA W y be e w') := fun t c W h => by rw [Hy.out, Hbe.out]; exact fixService_calls b t c W hb h
  have CCA : Hid (∀ t c W, CellsAt W t (a.tags.map Value.string) → Calls Tryz.prog 11 #[.agg (a.v (.slice t a.tags.length c))] W fun e w' => CopA W a e w') := fun t c W h => copyService_calls a t c W (by omega) h
  have CCB : Hid (∀ t c W, CellsAt W t (b.tags.map Value.string) → Calls Tryz.prog 11 #[.agg (b.v (.slice t b.tags.length c))] W fun e w' => CopA W b e w') := fun t c W h => copyService_calls b t c W (by omega) h
  have CNR : Hid (ne = 0 → ∀ W, Calls Tryz.prog 9 #[.agg m.v] W fun e w' => ∃ g, e = .returned (.agg #[.slice (some ⟨g, 0, none⟩) 4 4]) ∧ RowAt w' (some ⟨g, 0, none⟩) (nodeCs m) ∧ Below W.heap.size W w') := fun h W => by
    have h0 : nodeE n = 0 := Hne.out.symm.trans h
    obtain ⟨k1, k2, k3⟩ := fixN_sizes hn2 h0
    have k4 := (node_ok h0).2
    rw [← Hm.out] at k1 k2 k3 k4
    refine (nodeRow_calls m W (by omega) (by omega)).mono ?_
    rintro e w' ⟨g, he, hg, _, hb⟩
    exact ⟨g, he, rowAt_blk hg (nodeCs_lst m) (nodeCs_wf (by omega) k1 (by rw [k2]; decide) (by rw [k3]; decide)), hb⟩
  have CFT : Hid (ne = 0 → ∀ (t : TV) (g : Nat) (W : World), t.tb = nodesTb → TRd W t → RowAt W (some ⟨g, 0, none⟩) (nodeCs m) → Calls Tryz.prog 8 #[.agg #[.string t.n, t.fv, t.xv], .agg #[.slice (some ⟨g, 0, none⟩) 4 4]] W fun e w' => e = .returned (.int .i64 0) ∧ Below W.heap.size W w') := fun h t g W ht hr hrow => by
    have h0 : nodeE n = 0 := Hne.out.symm.trans h
    have k := node_ok h0
    rw [← Hm.out] at k
    have h3 := fit_calls t (some ⟨g, 0, none⟩) 4 (nodeCs m) W (by show 4 ≤ _; decide) hr hrow
    rw [ht, node_fits k.1 k.2] at h3
    exact h3
  have CXR : Hid (ae = 0 → ∀ t c W, CellsAt W t (x.tags.map Value.string) → Calls Tryz.prog 13 #[.agg (x.v (.slice t x.tags.length c))] W fun e w' => ∃ va vc g, e = .returned (.agg #[.slice (some ⟨g, 0, none⟩) 7 7]) ∧ RowAt w' (some ⟨g, 0, none⟩) (svcCs x va vc) ∧ Below W.heap.size W w') := fun h t c W hc => by
    have h0 : svcE a = 0 := Hae.out.symm.trans h
    obtain ⟨k1, k2, k3, k4⟩ := svcF_sizes ha h0
    have k5 := svc_ok h0
    rw [← Hx.out] at k1 k2 k3 k4 k5
    refine (serviceRow_calls x t c W k1 (by have := k5.t; omega) hc).mono ?_
    rintro e w' ⟨va, vc, g, he, hg, hl, _, hb⟩
    exact ⟨va, vc, g, he, rowAt_blk hg (svcCs_lst hl) (svcCs_wf k5 (by rw [k2]; decide) (by rw [k3]; decide) (fun z hz => Nat.le_trans (k4 z hz) (by decide)) va vc), hb⟩
  have CYR : Hid (be = 0 → ∀ t c W, CellsAt W t (y.tags.map Value.string) → Calls Tryz.prog 13 #[.agg (y.v (.slice t y.tags.length c))] W fun e w' => ∃ va vc g, e = .returned (.agg #[.slice (some ⟨g, 0, none⟩) 7 7]) ∧ RowAt w' (some ⟨g, 0, none⟩) (svcCs y va vc) ∧ Below W.heap.size W w') := fun h t c W hc => by
    have h0 : svcE b = 0 := Hbe.out.symm.trans h
    obtain ⟨k1, k2, k3, k4⟩ := svcF_sizes hb h0
    have k5 := svc_ok h0
    rw [← Hy.out] at k1 k2 k3 k4 k5
    refine (serviceRow_calls y t c W k1 (by have := k5.t; omega) hc).mono ?_
    rintro e w' ⟨va, vc, g, he, hg, hl, _, hb⟩
    exact ⟨va, vc, g, he, rowAt_blk hg (svcCs_lst hl) (svcCs_wf k5 (by rw [k2]; decide) (by rw [k3]; decide) (fun z hz => Nat.le_trans (k4 z hz) (by decide)) va vc), hb⟩
  obtain ⟨kx, Hkx⟩ : ∃ k : List UInt8, Hid (k = enc false [txP x.node, txP x.id]) := ⟨_, rfl⟩
  obtain ⟨ky, Hky⟩ : ∃ k : List UInt8, Hid (k = enc false [txP y.node, txP y.id]) := ⟨_, rfl⟩
  have CXK : Hid (ae = 0 → ∀ (t : TV) (va : Option Addr) (vc g : Nat) (W : World), t.tb = servicesTb → TRd W t → RowAt W (some ⟨g, 0, none⟩) (svcCs x va vc) → Calls Tryz.prog 12 #[.agg #[.string t.n, t.fv, t.xv], .int .i64 0, .agg #[.slice (some ⟨g, 0, none⟩) 7 7]] W fun e w' => ∃ v, e = .returned (.tuple #[v, .int .i64 0]) ∧ KeysAt w' W.heap.size v [kx] ∧ Below W.heap.size W w') := fun h t va vc g W ht hr hrow => by
    have h0 : svcE a = 0 := Hae.out.symm.trans h
    have k5 := svc_ok h0
    rw [← Hx.out] at k5
    have h3 := keys_calls t 0 (some ⟨g, 0, none⟩) 7 (svcCs x va vc) W ⟨by decide, by decide⟩ (by show 7 ≤ _; decide) hr hrow
    rw [ht, svc_keys k5, ← Hkx.out] at h3
    exact h3
  have CYK : Hid (be = 0 → ∀ (t : TV) (va : Option Addr) (vc g : Nat) (W : World), t.tb = servicesTb → TRd W t → RowAt W (some ⟨g, 0, none⟩) (svcCs y va vc) → Calls Tryz.prog 12 #[.agg #[.string t.n, t.fv, t.xv], .int .i64 0, .agg #[.slice (some ⟨g, 0, none⟩) 7 7]] W fun e w' => ∃ v, e = .returned (.tuple #[v, .int .i64 0]) ∧ KeysAt w' W.heap.size v [ky] ∧ Below W.heap.size W w') := fun h t va vc g W ht hr hrow => by
    have h0 : svcE b = 0 := Hbe.out.symm.trans h
    have k5 := svc_ok h0
    rw [← Hy.out] at k5
    have h3 := keys_calls t 0 (some ⟨g, 0, none⟩) 7 (svcCs y va vc) W ⟨by decide, by decide⟩ (by show 7 ≤ _; decide) hr hrow
    rw [ht, svc_keys k5, ← Hky.out] at h3
    exact h3
  have HSay : Hid (ae = 0 → be = 0 → decide (kx = ky) = (decide (x.node = y.node) && decide (x.id = y.id))) := fun h1 h2 => by
    have k5 := svc_ok (Hae.out.symm.trans h1)
    have k6 := svc_ok (Hbe.out.symm.trans h2)
    rw [← Hx.out] at k5
    rw [← Hy.out] at k6
    rw [Hkx.out, Hky.out]
    exact keys_say k5 k6
  have HFS : Hid (∀ {ts : List TV}, tbs ts = schemaS → ∃ t0 t1 t2 t3, ts = [t0, t1, t2, t3] ∧ t0.tb = nodesTb ∧ t1.tb = servicesTb) := fun h => four_tabs h
  have HSc : Hid (∀ W, Calls Tryz.prog 6 #[] W fun e w' => e = .returned (.string schemaT) ∧ w' = W) := schemaTextT_calls
  clear Hne Hae Hbe Hm Hx Hy Hkx Hky ha hb hv hki hmx hta htb hn1 hn2 hal hbl
  generalize schemaT = text at *
  generalize schemaS = us at *
  generalize nodesTb = NT at *
  generalize servicesTb = ST at *
  obtain ⟨n1, n2, n3, n4⟩ := n
  obtain ⟨a1, a2, a3, a4, ag, a6, a7⟩ := a
  obtain ⟨b1, b2, b3, b4, bg, b6, b7⟩ := b
  obtain ⟨m1, m2, m3, m4⟩ := m
  obtain ⟨x1, x2, x3, x4, xg, x6, x7⟩ := x
  obtain ⟨y1, y2, y3, y4, yg, y6, y7⟩ := y
  simp only [Nd.v, Sp.v, SvcA, CopA] at *
  obtain ⟨al, Hal⟩ : ∃ z, Hid (z = ag.length) := ⟨_, rfl⟩
  obtain ⟨bl, Hbl⟩ : ∃ z, Hid (z = bg.length) := ⟨_, rfl⟩
  obtain ⟨xl, Hxl⟩ : ∃ z, Hid (z = xg.length) := ⟨_, rfl⟩
  obtain ⟨yl, Hyl⟩ : ∃ z, Hid (z = yg.length) := ⟨_, rfl⟩
  obtain ⟨AL, HAL⟩ : ∃ z, Hid (z = ag.map Value.string) := ⟨_, rfl⟩
  obtain ⟨BL, HBL⟩ : ∃ z, Hid (z = bg.map Value.string) := ⟨_, rfl⟩
  obtain ⟨XL, HXL⟩ : ∃ z, Hid (z = xg.map Value.string) := ⟨_, rfl⟩
  obtain ⟨YL, HYL⟩ : ∃ z, Hid (z = yg.map Value.string) := ⟨_, rfl⟩
  rw [← Hal.out] at CA CCA ⊢
  rw [← Hbl.out] at CB CCB ⊢
  rw [← Hxl.out] at CA CXR
  rw [← Hyl.out] at CB CYR
  rw [← HAL.out] at CA CCA HTA
  rw [← HBL.out] at CB CCB HTB
  rw [← HXL.out] at CA CXR
  rw [← HYL.out] at CB CYR
  clear Hal Hbl Hxl Hyl HAL HBL HXL HYL
  obtain ⟨z1, z2, z3, z4⟩ := three_boxT w (.cells #[.string a1, .string a2, .string a3, .int .i64 a4, .slice ta al tc, .int .u64 a6, .int .u64 a7] 25) (.cells #[.string b1, .string b2, .string b3, .int .i64 b4, .slice tb bl td, .int .u64 b6, .int .u64 b7] 25) (.cells #[.string n1, .string n2, .int .u64 n3, .int .u64 n4] 27)
  obtain ⟨wx, Hwx⟩ : ∃ x, Hid (x = ((w.alloc (.cells #[.string a1, .string a2, .string a3, .int .i64 a4, .slice ta al tc, .int .u64 a6, .int .u64 a7] 25)).alloc (.cells #[.string b1, .string b2, .string b3, .int .i64 b4, .slice tb bl td, .int .u64 b6, .int .u64 b7] 25)).alloc (.cells #[.string n1, .string n2, .int .u64 n3, .int .u64 n4] 27)) := ⟨_, rfl⟩
  have KA_wx : Hid (Blk wx w.heap.size #[.string a1, .string a2, .string a3, .int .i64 a4, .slice ta al tc, .int .u64 a6, .int .u64 a7] 25) := by rw [Hwx.out]; exact z1
  have KB_wx : Hid (Blk wx (w.heap.size + 1) #[.string b1, .string b2, .string b3, .int .i64 b4, .slice tb bl td, .int .u64 b6, .int .u64 b7] 25) := by rw [Hwx.out]; exact z2
  have KN_wx : Hid (Blk wx (w.heap.size + 1 + 1) #[.string n1, .string n2, .int .u64 n3, .int .u64 n4] 27) := by rw [Hwx.out]; exact z3
  have B_wx : Hid (Below w.heap.size w wx) := by rw [Hwx.out]; exact z4
  clear z1 z2 z3 z4
  go_enter Tryz.func3, Tryz.ntmps3
  go_wp2_with fail
  rw [← Hwx.out]
  clear Hwx
  refine (recordsFixed_calls wx (HV.out.stay B_wx.out)).mono ?_
  rintro e w1 ⟨rfl, hb⟩
  have D_w1 : Hid (Below wx.heap.size wx w1) := hb
  clear hb
  go_wp2_with fail
  refine (HSc.out w1).mono ?_
  rintro e w2 ⟨rfl, hw⟩
  subst w2
  go_wp2_with fail
  refine (CP.out w1 (B_wx.out.trans (D_w1.out.mono B_wx.out.size))).mono ?_
  rintro e w2 ⟨hb, ao, cap, ts, rfl, hts, htab⟩
  obtain ⟨t0, t1, t2, t3, rfl, hq0, hq1⟩ := HFS.out hts
  have H0 : Hid (t0.tb = NT) := hq0
  have H1 : Hid (t1.tb = ST) := hq1
  obtain ⟨ao', cap', hvs, hgg⟩ := row_forms htab.row
  simp only [Value.slice.injEq] at hvs
  obtain ⟨rfl, -, rfl⟩ := hvs
  obtain ⟨g, rfl⟩ := hgg (by show 0 < 4; decide)
  have D_w2 : Hid (Below wx.heap.size wx w2) := D_w1.out.trans (hb.mono D_w1.out.size)
  have R0_w2 : Hid (TRd w2 t0) := htab.rd (by simp)
  have R1_w2 : Hid (TRd w2 t1) := htab.rd (by simp)
  obtain ⟨gb, go, hga, hgc⟩ := row_cells htab.row (by simp [tcs])
  simp only [Option.some.injEq, Addr.mk.injEq] at hga
  obtain ⟨rfl, rfl, -⟩ := hga
  have c0 : w2.cell? ⟨g, 0, none⟩ = some (.string t0.n) := hgc 0 _ rfl
  have c1 : w2.cell? ⟨g, 1, none⟩ = some (.slice t0.fa t0.fs.length t0.fc) := hgc 1 _ rfl
  have c2 : w2.cell? ⟨g, 2, none⟩ = some (.slice t0.xa t0.xs.length t0.xc) := hgc 2 _ rfl
  have c3 : w2.cell? ⟨g, 3, none⟩ = some (.string t1.n) := by simpa using hgc 3 _ rfl
  have c4 : w2.cell? ⟨g, 4, none⟩ = some (.slice t1.fa t1.fs.length t1.fc) := by simpa using hgc 4 _ rfl
  have c5 : w2.cell? ⟨g, 5, none⟩ = some (.slice t1.xa t1.xs.length t1.xc) := by simpa using hgc 5 _ rfl
  have HTC : Hid (∀ W, Below w2.heap.size w2 W → W.cell? ⟨g, 0, none⟩ = some (.string t0.n) ∧ W.cell? ⟨g, 1, none⟩ = some (.slice t0.fa t0.fs.length t0.fc) ∧ W.cell? ⟨g, 2, none⟩ = some (.slice t0.xa t0.xs.length t0.xc) ∧ W.cell? ⟨g, 3, none⟩ = some (.string t1.n) ∧ W.cell? ⟨g, 4, none⟩ = some (.slice t1.fa t1.fs.length t1.fc) ∧ W.cell? ⟨g, 5, none⟩ = some (.slice t1.xa t1.xs.length t1.xc)) := fun W hW =>
    ⟨cell_nxtT c0 hW, cell_nxtT c1 hW, cell_nxtT c2 hW, cell_nxtT c3 hW, cell_nxtT c4 hW, cell_nxtT c5 hW⟩
  clear c0 c1 c2 c3 c4 c5 hgc hts htab hb D_w1 hq0 hq1 HFS CP HSc
  simp only [List.length_cons, List.length_nil, Nat.reduceAdd]
  obtain ⟨t0n, t0f, t0fa, t0fc, t0x, t0xa, t0xc⟩ := t0
  obtain ⟨t1n, t1f, t1fa, t1fc, t1x, t1xa, t1xc⟩ := t1
  dsimp only [TV.fv, TV.xv] at *
  obtain ⟨l0f, Hl0f⟩ : ∃ z, Hid (z = t0f.length) := ⟨_, rfl⟩
  obtain ⟨l0x, Hl0x⟩ : ∃ z, Hid (z = t0x.length) := ⟨_, rfl⟩
  obtain ⟨l1f, Hl1f⟩ : ∃ z, Hid (z = t1f.length) := ⟨_, rfl⟩
  obtain ⟨l1x, Hl1x⟩ : ∃ z, Hid (z = t1x.length) := ⟨_, rfl⟩
  have CFT2 : Hid (ne = 0 → ∀ (g : Nat) (W : World), Below w2.heap.size w2 W → RowAt W (some ⟨g, 0, none⟩) (nodeCs ⟨m1, m2, m3, m4⟩) → Calls Tryz.prog 8 #[.agg #[.string t0n, .slice t0fa l0f t0fc, .slice t0xa l0x t0xc], .agg #[.slice (some ⟨g, 0, none⟩) 4 4]] W fun e w' => e = .returned (.int .i64 0) ∧ Below W.heap.size W w') := fun h g W hW hr => by
    rw [Hl0f.out, Hl0x.out]
    exact CFT.out h ⟨t0n, t0f, t0fa, t0fc, t0x, t0xa, t0xc⟩ g W H0.out (R0_w2.out.below hW) hr
  have CXK2 : Hid (ae = 0 → ∀ (va : Option Addr) (vc g : Nat) (W : World), Below w2.heap.size w2 W → RowAt W (some ⟨g, 0, none⟩) (svcCs ⟨x1, x2, x3, x4, xg, x6, x7⟩ va vc) → Calls Tryz.prog 12 #[.agg #[.string t1n, .slice t1fa l1f t1fc, .slice t1xa l1x t1xc], .int .i64 0, .agg #[.slice (some ⟨g, 0, none⟩) 7 7]] W fun e w' => ∃ v, e = .returned (.tuple #[v, .int .i64 0]) ∧ KeysAt w' W.heap.size v [kx] ∧ Below W.heap.size W w') := fun h va vc g W hW hr => by
    rw [Hl1f.out, Hl1x.out]
    exact CXK.out h ⟨t1n, t1f, t1fa, t1fc, t1x, t1xa, t1xc⟩ va vc g W H1.out (R1_w2.out.below hW) hr
  have CYK2 : Hid (be = 0 → ∀ (va : Option Addr) (vc g : Nat) (W : World), Below w2.heap.size w2 W → RowAt W (some ⟨g, 0, none⟩) (svcCs ⟨y1, y2, y3, y4, yg, y6, y7⟩ va vc) → Calls Tryz.prog 12 #[.agg #[.string t1n, .slice t1fa l1f t1fc, .slice t1xa l1x t1xc], .int .i64 0, .agg #[.slice (some ⟨g, 0, none⟩) 7 7]] W fun e w' => ∃ v, e = .returned (.tuple #[v, .int .i64 0]) ∧ KeysAt w' W.heap.size v [ky] ∧ Below W.heap.size W w') := fun h va vc g W hW hr => by
    rw [Hl1f.out, Hl1x.out]
    exact CYK.out h ⟨t1n, t1f, t1fa, t1fc, t1x, t1xa, t1xc⟩ va vc g W H1.out (R1_w2.out.below hW) hr
  rw [← Hl0f.out, ← Hl0x.out, ← Hl1f.out, ← Hl1x.out] at HTC
  clear CFT CXK CYK H0 H1 R0_w2 R1_w2 Hl0f Hl0x Hl1f Hl1x
  obtain ⟨w3, Hw3⟩ : ∃ x, Hid (x = w2.alloc (.cells #[.slice (some ⟨g, 0, none⟩) 4 cap] 31)) := ⟨_, rfl⟩
  obtain ⟨ps, Hps⟩ : ∃ x, Hid (x = w2.heap.size) := ⟨_, rfl⟩
  have KS_w3 : Hid (Blk w3 ps #[.slice (some ⟨g, 0, none⟩) 4 cap] 31) := by rw [Hw3.out, Hps.out]; exact Blk.new _ _ _
  have E_w3 : Hid (Below w2.heap.size w2 w3) := by rw [Hw3.out]; exact below_new _ _
  have D_w3 : Hid (Below wx.heap.size wx w3) := D_w2.out.trans (E_w3.out.mono D_w2.out.size)
  have s0 := KS_w3.out.cell 0 rfl
  have d0 := (KN_wx.out.below D_w3.out).cell 0 rfl
  have d1 := (KN_wx.out.below D_w3.out).cell 1 rfl
  have d2 := (KN_wx.out.below D_w3.out).cell 2 rfl
  have d3 := (KN_wx.out.below D_w3.out).cell 3 rfl
  go_upto_region 4 with fail
  rw [← Hw3.out, ← Hps.out]
  clear Hw3 Hps
  go_wp2_with fail
  refine (CN.out w3 (HV.out.stay (B_wx.out.trans (D_w3.out.mono B_wx.out.size)))).mono ?_
  rintro e w4 ⟨rfl, hb⟩
  clear s0 d0 d1 d2 d3
  obtain ⟨w5, Hw5⟩ : ∃ x, Hid (x = w4.alloc (.cells #[.string m1, .string m2, .int .u64 m3, .int .u64 m4] 27)) := ⟨_, rfl⟩
  obtain ⟨pm, Hpm⟩ : ∃ x, Hid (x = w4.heap.size) := ⟨_, rfl⟩
  have F_w5 : Hid (Below w3.heap.size w3 w5) := by rw [Hid, Hw5.out]; exact hb.alloc hb.size _
  have KM_w5 : Hid (Blk w5 pm #[.string m1, .string m2, .int .u64 m3, .int .u64 m4] 27) := by rw [Hw5.out, Hpm.out]; exact Blk.new _ _ _
  clear hb
  go_upto_region 7 with fail
  rw [← Hw5.out, ← Hpm.out]
  clear Hw5 Hpm
  have HS5 : Hid (∀ W, Below w5.heap.size w5 W → W.cell? ⟨ps, 0, none⟩ = some (.slice (some ⟨g, 0, none⟩) 4 cap) ∧ W.cell? ⟨g, 0, none⟩ = some (.string t0n) ∧ W.cell? ⟨g, 1, none⟩ = some (.slice t0fa l0f t0fc) ∧ W.cell? ⟨g, 2, none⟩ = some (.slice t0xa l0x t0xc) ∧ W.cell? ⟨pm, 0, none⟩ = some (.string m1) ∧ W.cell? ⟨pm, 1, none⟩ = some (.string m2) ∧ W.cell? ⟨pm, 2, none⟩ = some (.int .u64 m3) ∧ W.cell? ⟨pm, 3, none⟩ = some (.int .u64 m4)) := fun W hW => by
    have h1 := HTC.out W (E_w3.out.trans ((F_w5.out.trans (hW.mono F_w5.out.size)).mono E_w3.out.size))
    exact ⟨((KS_w3.out.below F_w5.out).below hW).cell 0 rfl, h1.1, h1.2.1, h1.2.2.1, (KM_w5.out.below hW).cell 0 rfl, (KM_w5.out.below hW).cell 1 rfl, (KM_w5.out.below hW).cell 2 rfl, (KM_w5.out.below hW).cell 3 rfl⟩
  have DW5 : Hid (Below w2.heap.size w2 w5) := E_w3.out.trans (F_w5.out.mono E_w3.out.size)
  go_cut [50] from 39 to 49 (fun s50 wx' => s50 = .bool false ∧ Hid (Below w5.heap.size w5 wx'))
  case first =>
    by_cases hn0 : ne = 0
    · have HN0 : Hid (ne = 0) := hn0
      have q1 : (ne == 0) = true := by simpa using hn0
      clear hn0
      have q0 := HS5.out w5.drew ⟨rfl, rfl, rfl, Nat.le_refl _, fun _ _ => rfl⟩
      have Q0 : Hid (Below w5.heap.size w5 w5.drew) := ⟨rfl, rfl, rfl, Nat.le_refl _, fun _ _ => rfl⟩
      go_region_held3 (fun W => W.cell? ⟨ps, 0, none⟩ = some (.slice (some ⟨g, 0, none⟩) 4 cap) ∧ W.cell? ⟨g, 0, none⟩ = some (.string t0n) ∧ W.cell? ⟨g, 1, none⟩ = some (.slice t0fa l0f t0fc) ∧ W.cell? ⟨g, 2, none⟩ = some (.slice t0xa l0x t0xc) ∧ W.cell? ⟨pm, 0, none⟩ = some (.string m1) ∧ W.cell? ⟨pm, 1, none⟩ = some (.string m2) ∧ W.cell? ⟨pm, 2, none⟩ = some (.int .u64 m3) ∧ W.cell? ⟨pm, 3, none⟩ = some (.int .u64 m4)) (first | (exact q7) | (exact q6) | (exact q0) | go_keep)
        (first
          | (go_at_call 9
             refine (CNR.out HN0.out w5.drew).mono ?_
             rintro e w6 ⟨gr, rfl, hrow, hb⟩
             have Q6 : Hid (Below w5.heap.size w5 w6) := Q0.out.trans (hb.mono Q0.out.size)
             have HRW : Hid (RowAt w6 (some ⟨gr, 0, none⟩) (nodeCs ⟨m1, m2, m3, m4⟩)) := hrow
             have q6 := HS5.out w6 Q6.out
             clear hb hrow)
          | (go_at_call 8
             refine (CFT2.out HN0.out gr w6 (DW5.out.trans (Q6.out.mono DW5.out.size)) HRW.out).mono ?_
             rintro e w7 ⟨rfl, hb⟩
             have Q7 : Hid (Below w5.heap.size w5 w7) := Q6.out.trans (hb.mono Q6.out.size)
             have q7 := HS5.out w7 Q7.out
             clear hb))
      all_goals
        (go_wp2
         go_meet
         case rel => exact ⟨rfl, Q7⟩)
    · have q1 : (ne == 0) = false := by simpa using hn0
      have q2 : ¬ ne = 0 := hn0
      have q3 : decide (ne = 0) = false := by simpa using hn0
      go_quiet (fail)
      go_wp2
      go_meet
      case rel => exact ⟨rfl, by first | exact Below.refl _ _ | exact below_drewN (Below.refl _ _) _⟩
  case rest =>
    obtain ⟨rfl, HC⟩ := hcut
    clear HS5 CFT2 CNR KM_w5
    have E_c : Hid (Below w2.heap.size w2 wc) := DW5.out.trans (HC.out.mono DW5.out.size)
    have D_c : Hid (Below wx.heap.size wx wc) := D_w2.out.trans (E_c.out.mono D_w2.out.size)
    have KS_c : Hid (Blk wc ps #[.slice (some ⟨g, 0, none⟩) 4 cap] 31) := (KS_w3.out.below F_w5.out).below HC.out
    clear HC F_w5 DW5 KS_w3 E_w3 D_w3 D_w2
    have s_0 := (KA_wx.out.below D_c.out).cell 0 rfl
    have s_1 := (KA_wx.out.below D_c.out).cell 1 rfl
    have s_2 := (KA_wx.out.below D_c.out).cell 2 rfl
    have s_3 := (KA_wx.out.below D_c.out).cell 3 rfl
    have s_4 := (KA_wx.out.below D_c.out).cell 4 rfl
    have s_5 := (KA_wx.out.below D_c.out).cell 5 rfl
    have s_6 := (KA_wx.out.below D_c.out).cell 6 rfl
    go_wp2_with fail
    refine (CCA.out ta tc wc (HTA.out.below (B_wx.out.trans (D_c.out.mono B_wx.out.size)))).mono ?_
    rintro e w8 ⟨v, rfl, ho, hb⟩
    obtain ⟨oa, oc, rfl, -⟩ := row_forms ho
    have RO_w8 : Hid (CellsAt w8 oa AL) := row_cells ho
    have E_w8 : Hid (Below w2.heap.size w2 w8) := E_c.out.trans (hb.mono E_c.out.size)
    have hbb_w8 := hb
    clear ho hb s_0 s_1 s_2 s_3 s_4 s_5 s_6
    go_wp2_with fail
    refine (CA.out oa oc w8 RO_w8.out).mono ?_
    rintro e w9 ⟨v, rfl, ho, hb⟩
    obtain ⟨xa, xc, rfl, -⟩ := row_forms ho
    obtain ⟨w10, Hw10⟩ : ∃ z, Hid (z = w9.alloc (.cells #[.string x1, .string x2, .string x3, .int .i64 x4, .slice xa xl xc, .int .u64 x6, .int .u64 x7] 25)) := ⟨_, rfl⟩
    obtain ⟨p10, Hp10⟩ : ∃ z, Hid (z = w9.heap.size) := ⟨_, rfl⟩
    have hb3 : Below w8.heap.size w8 w10 := by rw [Hw10.out]; exact hb.alloc hb.size _
    have CWc : Hid (Below wc.heap.size wc w10) := Below.trans hbb_w8 (hb3.mono hbb_w8.size)
    have E_w10 : Hid (Below w2.heap.size w2 w10) := E_w8.out.trans (hb3.mono E_w8.out.size)
    have D_w10 : Hid (Below wx.heap.size wx w10) := D_c.out.trans ((Below.trans (hbb_w8) (hb3.mono hbb_w8.size)).mono D_c.out.size)
    have Kx_w10 : Hid (Blk w10 p10 #[.string x1, .string x2, .string x3, .int .i64 x4, .slice xa xl xc, .int .u64 x6, .int .u64 x7] 25) := by rw [Hw10.out, Hp10.out]; exact Blk.new _ _ _
    have Rx_w10 : Hid (CellsAt w10 xa XL) := by rw [Hw10.out]; exact CellsAt.below (row_cells ho) (below_new _ _)
    go_upto_region 10 with fail
    rw [← Hw10.out, ← Hp10.out]
    clear Hw10 Hp10 ho hb hb3
    have CW10 : Hid (Below wc.heap.size wc w10) := CWc
    clear CWc
    have s_0 := (KB_wx.out.below D_w10.out).cell 0 rfl
    have s_1 := (KB_wx.out.below D_w10.out).cell 1 rfl
    have s_2 := (KB_wx.out.below D_w10.out).cell 2 rfl
    have s_3 := (KB_wx.out.below D_w10.out).cell 3 rfl
    have s_4 := (KB_wx.out.below D_w10.out).cell 4 rfl
    have s_5 := (KB_wx.out.below D_w10.out).cell 5 rfl
    have s_6 := (KB_wx.out.below D_w10.out).cell 6 rfl
    go_wp2_with fail
    refine (CCB.out tb td w10 (HTB.out.below (B_wx.out.trans (D_w10.out.mono B_wx.out.size)))).mono ?_
    rintro e w11 ⟨v, rfl, ho, hb⟩
    obtain ⟨oa, oc, rfl, -⟩ := row_forms ho
    have RO_w11 : Hid (CellsAt w11 oa BL) := row_cells ho
    have E_w11 : Hid (Below w2.heap.size w2 w11) := E_w10.out.trans (hb.mono E_w10.out.size)
    have hbb_w11 := hb
    clear ho hb s_0 s_1 s_2 s_3 s_4 s_5 s_6
    go_wp2_with fail
    refine (CB.out oa oc w11 RO_w11.out).mono ?_
    rintro e w12 ⟨v, rfl, ho, hb⟩
    obtain ⟨ya, yc, rfl, -⟩ := row_forms ho
    obtain ⟨w13, Hw13⟩ : ∃ z, Hid (z = w12.alloc (.cells #[.string y1, .string y2, .string y3, .int .i64 y4, .slice ya yl yc, .int .u64 y6, .int .u64 y7] 25)) := ⟨_, rfl⟩
    obtain ⟨p13, Hp13⟩ : ∃ z, Hid (z = w12.heap.size) := ⟨_, rfl⟩
    have hb3 : Below w11.heap.size w11 w13 := by rw [Hw13.out]; exact hb.alloc hb.size _
    have CX13 : Hid (Below w10.heap.size w10 w13) := Below.trans hbb_w11 (hb3.mono hbb_w11.size)
    have CW13 : Hid (Below wc.heap.size wc w13) := CW10.out.trans (CX13.out.mono CW10.out.size)
    have E_w13 : Hid (Below w2.heap.size w2 w13) := E_w11.out.trans (hb3.mono E_w11.out.size)
    have D_w13 : Hid (Below wx.heap.size wx w13) := D_w10.out.trans ((Below.trans (hbb_w11) (hb3.mono hbb_w11.size)).mono D_w10.out.size)
    have Ky_w13 : Hid (Blk w13 p13 #[.string y1, .string y2, .string y3, .int .i64 y4, .slice ya yl yc, .int .u64 y6, .int .u64 y7] 25) := by rw [Hw13.out, Hp13.out]; exact Blk.new _ _ _
    have Ry_w13 : Hid (CellsAt w13 ya YL) := by rw [Hw13.out]; exact CellsAt.below (row_cells ho) (below_new _ _)
    go_upto_region 11 with fail
    rw [← Hw13.out, ← Hp13.out]
    clear Hw13 Hp13 ho hb hb3
    have KS_w13 : Hid (Blk w13 ps #[.slice (some ⟨g, 0, none⟩) 4 cap] 31) := KS_c.out.below CW13.out
    have Kx_w13 : Hid (Blk w13 p10 #[.string x1, .string x2, .string x3, .int .i64 x4, .slice xa xl xc, .int .u64 x6, .int .u64 x7] 25) := Kx_w10.out.below CX13.out
    have Rx_w13 : Hid (CellsAt w13 xa XL) := Rx_w10.out.below CX13.out
    by_cases ha0 : ae = 0
    · have HA0 : Hid (ae = 0) := ha0
      have qa : (ae != 0) = false := by simpa using ha0
      have qa2 : (ae == 0) = true := by simpa using ha0
      clear ha0
      by_cases hb0 : be = 0
      · have HB0 : Hid (be = 0) := hb0
        have qb : (be != 0) = false := by simpa using hb0
        have qb2 : (be == 0) = true := by simpa using hb0
        clear hb0
        go_upto_region 13 with fail
        have HSx : Hid (∀ W, Below w13.heap.size w13 W → W.cell? ⟨ps, 0, none⟩ = some (.slice (some ⟨g, 0, none⟩) 4 cap) ∧ W.cell? ⟨g, 3, none⟩ = some (.string t1n) ∧ W.cell? ⟨g, 4, none⟩ = some (.slice t1fa l1f t1fc) ∧ W.cell? ⟨g, 5, none⟩ = some (.slice t1xa l1x t1xc) ∧ W.cell? ⟨p10, 0, none⟩ = some (.string x1) ∧ W.cell? ⟨p10, 1, none⟩ = some (.string x2) ∧ W.cell? ⟨p10, 2, none⟩ = some (.string x3) ∧ W.cell? ⟨p10, 3, none⟩ = some (.int .i64 x4) ∧ W.cell? ⟨p10, 4, none⟩ = some (.slice xa xl xc) ∧ W.cell? ⟨p10, 5, none⟩ = some (.int .u64 x6) ∧ W.cell? ⟨p10, 6, none⟩ = some (.int .u64 x7)) := fun W hW => by
          have h1 := HTC.out W (E_w13.out.trans (hW.mono E_w13.out.size))
          exact ⟨(KS_w13.out.below hW).cell 0 rfl, h1.2.2.2.1, h1.2.2.2.2.1, h1.2.2.2.2.2, (Kx_w13.out.below hW).cell 0 rfl, (Kx_w13.out.below hW).cell 1 rfl, (Kx_w13.out.below hW).cell 2 rfl, (Kx_w13.out.below hW).cell 3 rfl, (Kx_w13.out.below hW).cell 4 rfl, (Kx_w13.out.below hW).cell 5 rfl, (Kx_w13.out.below hW).cell 6 rfl⟩
        go_cut [14, 15] from 69 to 78 (fun s14 s15 wx' => ∃ ka kc : Nat, s14 = .slice (some ⟨ka, 0, none⟩) 1 kc ∧ s15 = .int .i64 0 ∧ Hid (wx'.cell? ⟨ka, 0, none⟩ = some (.string ⟨kx.toArray⟩)) ∧ Hid (Below w13.heap.size w13 wx'))
        case first =>
          have q0 := HSx.out w13.drew ⟨rfl, rfl, rfl, Nat.le_refl _, fun _ _ => rfl⟩
          have Q0 : Hid (Below w13.heap.size w13 w13.drew) := ⟨rfl, rfl, rfl, Nat.le_refl _, fun _ _ => rfl⟩
          go_region_held3 (fun W => W.cell? ⟨ps, 0, none⟩ = some (.slice (some ⟨g, 0, none⟩) 4 cap) ∧ W.cell? ⟨g, 3, none⟩ = some (.string t1n) ∧ W.cell? ⟨g, 4, none⟩ = some (.slice t1fa l1f t1fc) ∧ W.cell? ⟨g, 5, none⟩ = some (.slice t1xa l1x t1xc) ∧ W.cell? ⟨p10, 0, none⟩ = some (.string x1) ∧ W.cell? ⟨p10, 1, none⟩ = some (.string x2) ∧ W.cell? ⟨p10, 2, none⟩ = some (.string x3) ∧ W.cell? ⟨p10, 3, none⟩ = some (.int .i64 x4) ∧ W.cell? ⟨p10, 4, none⟩ = some (.slice xa xl xc) ∧ W.cell? ⟨p10, 5, none⟩ = some (.int .u64 x6) ∧ W.cell? ⟨p10, 6, none⟩ = some (.int .u64 x7)) (first | (exact q7) | (exact q6) | (exact q0) | go_keep)
            (first
              | (go_at_call 13
                 refine (CXR.out HA0.out xa xc w13.drew (Rx_w13.out.below Q0.out)).mono ?_
                 rintro e w26 ⟨va, vc, gr, rfl, hrow, hb⟩
                 have Q6 : Hid (Below w13.heap.size w13 w26) := Q0.out.trans (hb.mono Q0.out.size)
                 have HRW : Hid (RowAt w26 (some ⟨gr, 0, none⟩) (svcCs ⟨x1, x2, x3, x4, xg, x6, x7⟩ va vc)) := hrow
                 have q6 := HSx.out w26 Q6.out
                 clear hb hrow)
              | (go_at_call 12
                 refine (CXK2.out HA0.out va vc gr w26 (E_w13.out.trans (Q6.out.mono E_w13.out.size)) HRW.out).mono ?_
                 rintro e w27 ⟨v, rfl, hkeys, hb⟩
                 obtain ⟨kao, kc, rfl, hkg⟩ := row_forms hkeys
                 obtain ⟨ka, rfl⟩ := hkg (by show 0 < 1; decide)
                 have HKC : Hid (w27.cell? ⟨ka, 0, none⟩ = some (.string ⟨kx.toArray⟩)) := by
                   obtain ⟨kb, ko, hka, hkc⟩ := row_cells hkeys (by simp)
                   simp only [Option.some.injEq, Addr.mk.injEq] at hka
                   obtain ⟨rfl, rfl, -⟩ := hka
                   exact hkc 0 _ rfl
                 have Q7 : Hid (Below w13.heap.size w13 w27) := Q6.out.trans (hb.mono Q6.out.size)
                 have q7 := HSx.out w27 Q7.out
                 clear hb hkeys hkg))
          all_goals
            (go_wp2
             go_meet
             case rel => exact ⟨ka, kc, rfl, rfl, HKC, Q7⟩)
        case rest =>
          obtain ⟨ka, kc, rfl, rfl, HKX, DX⟩ := hcut
          obtain ⟨w20, Hw20⟩ : ∃ z, Hid (z = wc) := ⟨_, rfl⟩
          rw [← Hw20.out] at HKX DX ⊢
          clear Hw20 HSx
          have E_w20 : Hid (Below w2.heap.size w2 w20) := E_w13.out.trans (DX.out.mono E_w13.out.size)
          have KS_w20 : Hid (Blk w20 ps #[.slice (some ⟨g, 0, none⟩) 4 cap] 31) := KS_w13.out.below DX.out
          have Kx_w20 : Hid (Blk w20 p10 #[.string x1, .string x2, .string x3, .int .i64 x4, .slice xa xl xc, .int .u64 x6, .int .u64 x7] 25) := Kx_w13.out.below DX.out
          have Ky_w20 : Hid (Blk w20 p13 #[.string y1, .string y2, .string y3, .int .i64 y4, .slice ya yl yc, .int .u64 y6, .int .u64 y7] 25) := Ky_w13.out.below DX.out
          have Ry_w20 : Hid (CellsAt w20 ya YL) := Ry_w13.out.below DX.out
          have DXX : Hid (Below w13.heap.size w13 w20) := DX
          clear DX KS_w13 Kx_w13 Rx_w13 Ky_w13 Ry_w13 E_w13
          go_upto_region 14 with fail
          have HSy : Hid (∀ W, Below w20.heap.size w20 W → W.cell? ⟨ps, 0, none⟩ = some (.slice (some ⟨g, 0, none⟩) 4 cap) ∧ W.cell? ⟨g, 3, none⟩ = some (.string t1n) ∧ W.cell? ⟨g, 4, none⟩ = some (.slice t1fa l1f t1fc) ∧ W.cell? ⟨g, 5, none⟩ = some (.slice t1xa l1x t1xc) ∧ W.cell? ⟨p13, 0, none⟩ = some (.string y1) ∧ W.cell? ⟨p13, 1, none⟩ = some (.string y2) ∧ W.cell? ⟨p13, 2, none⟩ = some (.string y3) ∧ W.cell? ⟨p13, 3, none⟩ = some (.int .i64 y4) ∧ W.cell? ⟨p13, 4, none⟩ = some (.slice ya yl yc) ∧ W.cell? ⟨p13, 5, none⟩ = some (.int .u64 y6) ∧ W.cell? ⟨p13, 6, none⟩ = some (.int .u64 y7)) := fun W hW => by
            have h1 := HTC.out W (E_w20.out.trans (hW.mono E_w20.out.size))
            exact ⟨(KS_w20.out.below hW).cell 0 rfl, h1.2.2.2.1, h1.2.2.2.2.1, h1.2.2.2.2.2, (Ky_w20.out.below hW).cell 0 rfl, (Ky_w20.out.below hW).cell 1 rfl, (Ky_w20.out.below hW).cell 2 rfl, (Ky_w20.out.below hW).cell 3 rfl, (Ky_w20.out.below hW).cell 4 rfl, (Ky_w20.out.below hW).cell 5 rfl, (Ky_w20.out.below hW).cell 6 rfl⟩
          go_cut [16, 17] from 79 to 88 (fun s14 s15 wx' => ∃ la lc : Nat, s14 = .slice (some ⟨la, 0, none⟩) 1 lc ∧ s15 = .int .i64 0 ∧ Hid (wx'.cell? ⟨la, 0, none⟩ = some (.string ⟨ky.toArray⟩)) ∧ Hid (Below w20.heap.size w20 wx'))
          case first =>
            have q0 := HSy.out w20.drew ⟨rfl, rfl, rfl, Nat.le_refl _, fun _ _ => rfl⟩
            have Q0 : Hid (Below w20.heap.size w20 w20.drew) := ⟨rfl, rfl, rfl, Nat.le_refl _, fun _ _ => rfl⟩
            go_region_held3 (fun W => W.cell? ⟨ps, 0, none⟩ = some (.slice (some ⟨g, 0, none⟩) 4 cap) ∧ W.cell? ⟨g, 3, none⟩ = some (.string t1n) ∧ W.cell? ⟨g, 4, none⟩ = some (.slice t1fa l1f t1fc) ∧ W.cell? ⟨g, 5, none⟩ = some (.slice t1xa l1x t1xc) ∧ W.cell? ⟨p13, 0, none⟩ = some (.string y1) ∧ W.cell? ⟨p13, 1, none⟩ = some (.string y2) ∧ W.cell? ⟨p13, 2, none⟩ = some (.string y3) ∧ W.cell? ⟨p13, 3, none⟩ = some (.int .i64 y4) ∧ W.cell? ⟨p13, 4, none⟩ = some (.slice ya yl yc) ∧ W.cell? ⟨p13, 5, none⟩ = some (.int .u64 y6) ∧ W.cell? ⟨p13, 6, none⟩ = some (.int .u64 y7)) (first | (exact q7) | (exact q6) | (exact q0) | go_keep)
              (first
                | (go_at_call 13
                   refine (CYR.out HB0.out ya yc w20.drew (Ry_w20.out.below Q0.out)).mono ?_
                   rintro e w26 ⟨va, vc, gr, rfl, hrow, hb⟩
                   have Q6 : Hid (Below w20.heap.size w20 w26) := Q0.out.trans (hb.mono Q0.out.size)
                   have HRW : Hid (RowAt w26 (some ⟨gr, 0, none⟩) (svcCs ⟨y1, y2, y3, y4, yg, y6, y7⟩ va vc)) := hrow
                   have q6 := HSy.out w26 Q6.out
                   clear hb hrow)
                | (go_at_call 12
                   refine (CYK2.out HB0.out va vc gr w26 (E_w20.out.trans (Q6.out.mono E_w20.out.size)) HRW.out).mono ?_
                   rintro e w27 ⟨v, rfl, hkeys, hb⟩
                   obtain ⟨kao, kc, rfl, hkg⟩ := row_forms hkeys
                   obtain ⟨ka, rfl⟩ := hkg (by show 0 < 1; decide)
                   have HKC : Hid (w27.cell? ⟨ka, 0, none⟩ = some (.string ⟨ky.toArray⟩)) := by
                     obtain ⟨kb, ko, hka, hkc⟩ := row_cells hkeys (by simp)
                     simp only [Option.some.injEq, Addr.mk.injEq] at hka
                     obtain ⟨rfl, rfl, -⟩ := hka
                     exact hkc 0 _ rfl
                   have Q7 : Hid (Below w20.heap.size w20 w27) := Q6.out.trans (hb.mono Q6.out.size)
                   have q7 := HSy.out w27 Q7.out
                   clear hb hkeys hkg))
            all_goals
              (go_wp2
               go_meet
               case rel => exact ⟨ka, kc, rfl, rfl, HKC, Q7⟩)
          case rest =>
            obtain ⟨la, lc, rfl, rfl, HKY, DY⟩ := hcut
            have c1 := cell_nxtT HKX.out DY.out
            have c2 := HKY.out
            have d0 := (Kx_w20.out.below DY.out).cell 0 rfl
            have d1 := (Kx_w20.out.below DY.out).cell 1 rfl
            have e0 := (Ky_w20.out.below DY.out).cell 0 rfl
            have e1 := (Ky_w20.out.below DY.out).cell 1 rfl
            have hsay := HSay.out HA0.out HB0.out
            have BF : Hid (Below w.heap.size w wc) := B_wx.out.trans ((D_w13.out.trans ((DXX.out.trans (DY.out.mono DXX.out.size)).mono D_w13.out.size)).mono B_wx.out.size)
            by_cases h1 : x1 = y1
            · have q1 : (x1.toList == y1.toList) = true := by rw [beq_toList]; exact decide_eq_true h1
              by_cases h2 : x2 = y2
              · have q2 : (x2.toList == y2.toList) = true := by rw [beq_toList]; exact decide_eq_true h2
                have q3 : kx = ky := by
                  rw [decide_eq_true h1, decide_eq_true h2] at hsay
                  exact of_decide_eq_true (by simpa using hsay)
                have q4 : (kx == ky) = true := by simpa using q3
                have q5 : ((⟨kx.toArray⟩ : ByteArray).toList == (⟨ky.toArray⟩ : ByteArray).toList) = true := by rw [q3]; exact beq_self_eq_true _
                clear hsay h1 h2 q3
                go_wp2
                go_quiet (fail)
                go_wp2
                go_ret
                exact ⟨rfl, by first | exact BF.out | exact below_drewN BF.out _⟩
              · have q2 : (x2.toList == y2.toList) = false := by rw [beq_toList]; exact decide_eq_false h2
                have q3 : ¬ kx = ky := by
                  rw [decide_eq_true h1, decide_eq_false h2] at hsay
                  exact of_decide_eq_false (by simpa using hsay)
                have q4 : (kx == ky) = false := by simpa using q3
                have q5 : ((⟨kx.toArray⟩ : ByteArray).toList == (⟨ky.toArray⟩ : ByteArray).toList) = false := by rw [ByteArray.toList_eq, ByteArray.toList_eq]; simpa using q3
                clear hsay h1 h2
                go_wp2
                go_quiet (fail)
                go_wp2
                go_ret
                exact ⟨rfl, by first | exact BF.out | exact below_drewN BF.out _⟩
            · have q1 : (x1.toList == y1.toList) = false := by rw [beq_toList]; exact decide_eq_false h1
              have q3 : ¬ kx = ky := by
                rw [decide_eq_false h1] at hsay
                exact of_decide_eq_false (by simpa using hsay)
              have q4 : (kx == ky) = false := by simpa using q3
              have q5 : ((⟨kx.toArray⟩ : ByteArray).toList == (⟨ky.toArray⟩ : ByteArray).toList) = false := by rw [ByteArray.toList_eq, ByteArray.toList_eq]; simpa using q3
              clear hsay h1
              go_wp2
              go_quiet (fail)
              go_wp2
              go_ret
              exact ⟨rfl, by first | exact BF.out | exact below_drewN BF.out _⟩
      · have qb : (be != 0) = true := by simpa using hb0
        have qb2 : (be == 0) = false := by simpa using hb0
        go_wp2
        go_ret
        exact ⟨rfl, B_wx.out.trans (D_w13.out.mono B_wx.out.size)⟩
    · have qa : (ae != 0) = true := by simpa using ha0
      have qa2 : (ae == 0) = false := by simpa using ha0
      go_wp2
      go_ret
      exact ⟨rfl, B_wx.out.trans (D_w13.out.mono B_wx.out.size)⟩
end Go.Proofs.YtgjcchafmcccjaaGreatDoor
