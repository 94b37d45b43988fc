/- Layer 9 (records): a row's cells: cellAt, textAt, numAt, listAt. -/
import Derived.Test.YtgjcchafmcccjaaDoorRcRowS
import Derived.Test.YtgjcchafmcccjaaDoorRgInv
namespace Go.Proofs.YtgjcchafmcccjaaDoor
open Go.RowKit
set_option linter.unusedVariables false

theorem wp_conv {o : Oper} {a : Act} {W : World} {K : Act → World → Prop} {Q : Exit → Act → World → Prop} {x : Operand} {k : Int} (ho : o.op = .convert 42 3 x) (hx : a.eval x = .int .u64 k) (h : K (a.put o.dst (.int .i64 (IntKind.i64.wrap k))) W) : o.wp Tryd.prog a W K Q := by
  have hr : (execOp a.eval o).run Tryd.prog W = .ok (.value (.int .i64 (IntKind.i64.wrap k))) W := by
    unfold execOp
    simp only [ho, hx]
    simp [convert, run_underlying Tryd.underlying42, run_underlying Tryd.underlying3, go_sem]
  unfold Oper.wp
  rw [hr]
  exact h
/-- A cell's value, as it is handed on. -/
def CV.vA (c : CV) : Array Value := #[.string c.t, .int .u64 c.n, .slice c.la c.l.length c.lc]
def celAt (cs : List CV) (k : Nat) : CV := cs.getD k noC
theorem celAt_in {cs : List CV} {k : Nat} (h : k < cs.length) : celAt cs k = cs[k] := by simp [celAt, h]
theorem celAt_out {cs : List CV} {k : Nat} (h : ¬ k < cs.length) : celAt cs k = noC := by
  unfold celAt
  rw [List.getD_eq_getElem?_getD, List.getElem?_eq_none (by omega)]
  rfl
theorem inf_s : (Tryd.prog.info? 9).map (·.size) = some 1 := by kernel_rfl
theorem inf_u : (Tryd.prog.info? 42).map (·.size) = some 1 := by kernel_rfl
theorem inf_l : (Tryd.prog.info? 45).map (·.size) = some 1 := by kernel_rfl
theorem run_fld0 (s : ByteArray) (n : Int) (a : Option Addr) (m c : Nat) (w : World) : (Instr.field 66 (.agg #[.string s, .int .u64 n, .slice a m c]) 0).run Tryd.prog w = .ok (.string s) w := by
  obtain ⟨i0, hi0, hb⟩ := Option.map_eq_some_iff.1 inf_s
  simp [Instr.field, run_underlying Tryd.underlying66, part, sizeOf, typeInfo, hi0, hb, asAgg, isAgg, run_underlying Tryd.underlying9, go_sem]
theorem run_fld1 (s : ByteArray) (n : Int) (a : Option Addr) (m c : Nat) (w : World) : (Instr.field 66 (.agg #[.string s, .int .u64 n, .slice a m c]) 1).run Tryd.prog w = .ok (.int .u64 n) w := by
  obtain ⟨i0, hi0, hb⟩ := Option.map_eq_some_iff.1 inf_u
  simp [Instr.field, run_underlying Tryd.underlying66, part, sizeOf, typeInfo, hi0, hb, asAgg, isAgg, run_underlying Tryd.underlying42, go_sem]
theorem run_fld2 (s : ByteArray) (n : Int) (a : Option Addr) (m c : Nat) (w : World) : (Instr.field 66 (.agg #[.string s, .int .u64 n, .slice a m c]) 2).run Tryd.prog w = .ok (.slice a m c) w := by
  obtain ⟨i0, hi0, hb⟩ := Option.map_eq_some_iff.1 inf_l
  simp [Instr.field, run_underlying Tryd.underlying66, part, sizeOf, typeInfo, hi0, hb, asAgg, isAgg, run_underlying Tryd.underlying45, go_sem]
attribute [local go_sem] run_fld0 run_fld1 run_fld2
theorem ret_box4 {fn : Func} {R : Ending → World → Prop} {a : Act} {w : World} {g : Nat} {cs : Array Value} {T : TypeId} (hres : fn.results = #[.cell 4 T]) (ht : a.tmps.getD 4 undef = .pointer (some ⟨g, 0, none⟩)) (hd : a.defers = [])
    (hl : (loadVar T ⟨g, 0, none⟩).run Tryd.prog w = .ok (.agg cs) w) (hR : R (.returned (.agg cs)) w) : bodyPost Tryd.prog fn R .ret a w := by
  refine bodyPost_ret ?_ hd hR
  have ht' : a.tmps[4]?.getD undef = .pointer (some ⟨g, 0, none⟩) := by simpa using ht
  simp [results, hres, ht', asAddr, hl]

set_option maxRecDepth 100000 in
set_option maxHeartbeats 2000000 in
theorem cellAt_calls (ca : Option Addr) (cc : Nat) (cs : List CV) (k : Nat) (w : World) (hk : k < 1000) (hl : cs.length ≤ 1000) (hr : CellsAt w ca (ccs cs)) :
    Calls Tryd.prog 68 #[.agg #[.slice ca cs.length cc], .int .i64 k] w fun e w' => e = .returned (.agg (celAt cs k).vA) ∧ Below w.heap.size w w' := by
  obtain ⟨w2, Hw2⟩ : ∃ x, Hid (x = (w.alloc (.cells #[.slice ca cs.length cc] 60)).alloc (.cells #[.string ⟨#[]⟩, .int .u64 0, .slice none 0 0] 66)) := ⟨_, rfl⟩
  have hz : (w.alloc (.cells #[.slice ca cs.length cc] 60)).heap.size = w.heap.size + 1 := size_new _ _
  have KX : Hid (Blk w2 w.heap.size #[.slice ca cs.length cc] 60) := by rw [Hw2.out]; exact (Blk.new _ _ _).alloc _
  have KR : Hid (Blk w2 (w.heap.size + 1) #[.string ⟨#[]⟩, .int .u64 0, .slice none 0 0] 66) := by rw [Hw2.out, ← hz]; exact Blk.new _ _ _
  have HB2 : Hid (Below w.heap.size w w2) := by rw [Hw2.out]; exact (below_new w _).alloc (by rw [hz]; omega) _
  have HR : Hid (CellsAt w2 ca (ccs cs)) := hr.below HB2.out
  clear hz hr
  have x0 := KX.out.cell 0 rfl
  have r0 := KR.out.cell 0 rfl
  have r1 := KR.out.cell 1 rfl
  have r2 := KR.out.cell 2 rfl
  have zr := KR.out.open
  by_cases hlt : k < cs.length
  · have HE := celAt_in hlt
    obtain ⟨b, off, hca, c0, c1, c2⟩ := HR.out.cel k hlt
    have q1 : ¬ ((cs.length : Int) ≤ (k : Int)) := by omega
    have q2 : (k : Int) < (cs.length : Int) := by omega
    have q3 : (0 : Int) ≤ (k : Int) := by omega
    obtain ⟨c, Hc⟩ : ∃ c, Hid (c = cs[k]) := ⟨cs[k], rfl⟩
    have HE : Hid (celAt cs k = c) := by rw [Hid, Hc.out]; exact celAt_in hlt
    rw [← Hc.out] at c0 c1 c2
    clear Hc
    obtain ⟨ct, cn, cl, cla, clc⟩ := c
    rw [HE.out]
    dsimp only [CV.vA] at *
    obtain ⟨n, Hn⟩ : ∃ n, Hid (n = cs.length) := ⟨_, rfl⟩
    rw [← Hn.out] at q1 q2 hl hlt x0 Hw2 ⊢
    obtain ⟨m, Hm⟩ : ∃ m, Hid (m = cl.length) := ⟨_, rfl⟩
    rw [← Hm.out] at c2 ⊢
    subst hca
    go_enter Tryd.func68, Tryd.ntmps68
    go_upto_region 1 with fail
    rw [← Hw2.out]
    clear Hw2
    go_wp2
    exact ret_box4 (g := w.heap.size + 1) (w := putC w2 (w.heap.size + 1) 0 [.string ct, .int .u64 cn, .slice cla m clc]) rfl rfl rfl (load_cel (putC_all (l := [.string ct, .int .u64 cn, .slice cla m clc]) KR.out rfl) rfl) ⟨rfl, putC_below [.string ct, .int .u64 cn, .slice cla m clc] w2 0 HB2.out (by omega)⟩
  · have q1 : (cs.length : Int) ≤ (k : Int) := by omega
    rw [celAt_out hlt]
    obtain ⟨n, Hn⟩ : ∃ n, Hid (n = cs.length) := ⟨_, rfl⟩
    rw [← Hn.out] at q1 hl hlt x0 Hw2 ⊢
    go_enter Tryd.func68, Tryd.ntmps68
    go_upto_region 1 with fail
    rw [← Hw2.out]
    clear Hw2
    go_wp2
    exact ret_box4 (g := w.heap.size + 1) (w := putC w2 (w.heap.size + 1) 0 [.string ⟨#[]⟩, .int .u64 0, .slice none 0 0]) rfl rfl rfl (load_cel (putC_all (l := [.string ⟨#[]⟩, .int .u64 0, .slice none 0 0]) KR.out rfl) rfl) ⟨rfl, putC_below [.string ⟨#[]⟩, .int .u64 0, .slice none 0 0] w2 0 HB2.out (by omega)⟩

set_option maxRecDepth 100000 in
theorem textAt_calls (ca : Option Addr) (cc : Nat) (cs : List CV) (k : Nat) (w : World) (hk : k < 1000) (hl : cs.length ≤ 1000) (hs : (celAt cs k).t.size ≤ 140737488351296) (hr : CellsAt w ca (ccs cs)) :
    Calls Tryd.prog 41 #[.agg #[.slice ca cs.length cc], .int .i64 k] w fun e w' => e = .returned (.string (celAt cs k).t) ∧ Below w.heap.size w w' := by
  obtain ⟨w2, Hw2⟩ : ∃ x, Hid (x = w.alloc (.cells #[.slice ca cs.length cc] 60)) := ⟨_, rfl⟩
  have KX : Hid (Blk w2 w.heap.size #[.slice ca cs.length cc] 60) := by rw [Hw2.out]; exact Blk.new _ _ _
  have HB2 : Hid (Below w.heap.size w w2) := by rw [Hw2.out]; exact below_new w _
  have CC := cellAt_calls ca cc cs k w2 hk hl (hr.below HB2.out)
  clear hr
  generalize celAt cs k = c at *
  obtain ⟨n, Hn⟩ : ∃ n, Hid (n = cs.length) := ⟨_, rfl⟩
  rw [← Hn.out] at CC KX Hw2 ⊢
  obtain ⟨ct, cn, cl, cla, clc⟩ := c
  dsimp only [CV.vA] at *
  have CC : Hid (Calls Tryd.prog 68 #[.agg #[.slice ca n cc], .int .i64 k] w2 fun e w' => e = .returned (.agg #[.string ct, .int .u64 cn, .slice cla cl.length clc]) ∧ Below w2.heap.size w2 w') := CC
  have x0 := KX.out.cell 0 rfl
  go_enter Tryd.func41, Tryd.ntmps41
  go_wp2_with fail
  rw [← Hw2.out]
  clear Hw2
  refine CC.out.mono ?_
  rintro e w3 ⟨rfl, hb⟩
  have B3 : Hid (Below w.heap.size w w3) := HB2.out.trans (hb.mono HB2.out.size)
  clear hb x0
  go_wp2_with fail
  refine (rclone_calls ct w3 hs).mono ?_
  rintro e w4 ⟨rfl, hb⟩
  have B4 : Hid (Below w.heap.size w w4) := B3.out.trans (hb.mono B3.out.size)
  clear hb
  go_wp2
  go_ret
  exact ⟨rfl, B4.out⟩

set_option maxRecDepth 100000 in
theorem numAt_calls (ca : Option Addr) (cc : Nat) (cs : List CV) (k : Nat) (w : World) (hk : k < 1000) (hl : cs.length ≤ 1000) (hr : CellsAt w ca (ccs cs)) :
    Calls Tryd.prog 42 #[.agg #[.slice ca cs.length cc], .int .i64 k] w fun e w' => e = .returned (.int .u64 (celAt cs k).n) ∧ Below w.heap.size w w' := by
  obtain ⟨w2, Hw2⟩ : ∃ x, Hid (x = w.alloc (.cells #[.slice ca cs.length cc] 60)) := ⟨_, rfl⟩
  have KX : Hid (Blk w2 w.heap.size #[.slice ca cs.length cc] 60) := by rw [Hw2.out]; exact Blk.new _ _ _
  have HB2 : Hid (Below w.heap.size w w2) := by rw [Hw2.out]; exact below_new w _
  have CC := cellAt_calls ca cc cs k w2 hk hl (hr.below HB2.out)
  clear hr
  generalize celAt cs k = c at *
  obtain ⟨n, Hn⟩ : ∃ n, Hid (n = cs.length) := ⟨_, rfl⟩
  rw [← Hn.out] at CC KX Hw2 ⊢
  obtain ⟨ct, cn, cl, cla, clc⟩ := c
  dsimp only [CV.vA] at *
  have CC : Hid (Calls Tryd.prog 68 #[.agg #[.slice ca n cc], .int .i64 k] w2 fun e w' => e = .returned (.agg #[.string ct, .int .u64 cn, .slice cla cl.length clc]) ∧ Below w2.heap.size w2 w') := CC
  have x0 := KX.out.cell 0 rfl
  go_enter Tryd.func42, Tryd.ntmps42
  go_wp2_with fail
  rw [← Hw2.out]
  clear Hw2
  refine CC.out.mono ?_
  rintro e w3 ⟨rfl, hb⟩
  have B3 : Hid (Below w.heap.size w w3) := HB2.out.trans (hb.mono HB2.out.size)
  clear hb x0
  go_wp2
  go_ret
  exact ⟨rfl, B3.out⟩

set_option maxRecDepth 100000 in
theorem listAt_calls (ca : Option Addr) (cc : Nat) (cs : List CV) (k : Nat) (w : World) (hk : k < 1000) (hl : cs.length ≤ 1000) (hm : (celAt cs k).l.length ≤ 8796093022207) (hs : ∀ x ∈ (celAt cs k).l, x.size ≤ 140737488351296) (hll : CellsAt w (celAt cs k).la ((celAt cs k).l.map Value.string)) (hr : CellsAt w ca (ccs cs)) :
    Calls Tryd.prog 43 #[.agg #[.slice ca cs.length cc], .int .i64 k] w fun e w' => CopL w (celAt cs k).l e w' := by
  obtain ⟨w2, Hw2⟩ : ∃ x, Hid (x = w.alloc (.cells #[.slice ca cs.length cc] 60)) := ⟨_, rfl⟩
  have KX : Hid (Blk w2 w.heap.size #[.slice ca cs.length cc] 60) := by rw [Hw2.out]; exact Blk.new _ _ _
  have HB2 : Hid (Below w.heap.size w w2) := by rw [Hw2.out]; exact below_new w _
  have CC := cellAt_calls ca cc cs k w2 hk hl (hr.below HB2.out)
  have CT : Hid (∀ W, Below w.heap.size w W → Calls Tryd.prog 39 #[.slice (celAt cs k).la (celAt cs k).l.length (celAt cs k).lc] W fun e w' => CopL W (celAt cs k).l e w') := fun W hW => copyTexts_calls _ _ _ W hm hs (hll.below hW)
  clear hm hs hll
  have HFin : Hid (∀ W e w', Below w.heap.size w W → CopL W (celAt cs k).l e w' → CopL w (celAt cs k).l e w') := fun W e w' hW h => by
    obtain ⟨v, he, ho, hb⟩ := h
    exact ⟨v, he, row_weak hW.size ho, hW.trans (hb.mono hW.size)⟩
  clear hr
  generalize celAt cs k = c at *
  obtain ⟨n, Hn⟩ : ∃ n, Hid (n = cs.length) := ⟨_, rfl⟩
  rw [← Hn.out] at CC KX Hw2 ⊢
  obtain ⟨ct, cn, cl, cla, clc⟩ := c
  dsimp only [CV.vA] at *
  have CC : Hid (Calls Tryd.prog 68 #[.agg #[.slice ca n cc], .int .i64 k] w2 fun e w' => e = .returned (.agg #[.string ct, .int .u64 cn, .slice cla cl.length clc]) ∧ Below w2.heap.size w2 w') := CC
  have x0 := KX.out.cell 0 rfl
  go_enter Tryd.func43, Tryd.ntmps43
  go_wp2_with fail
  rw [← Hw2.out]
  clear Hw2
  refine CC.out.mono ?_
  rintro e w3 ⟨rfl, hb⟩
  have B3 : Hid (Below w.heap.size w w3) := HB2.out.trans (hb.mono HB2.out.size)
  clear hb x0
  go_wp2_with fail
  refine (CT.out w3 B3.out).mono ?_
  intro e w4 h4
  obtain ⟨v, rfl, ho, hb⟩ := HFin.out w3 e w4 B3.out h4
  obtain ⟨va, vc, rfl, -⟩ := row_forms ho
  have HO : Hid (CopL w cl (.returned (.slice va cl.length vc)) w4) := ⟨_, rfl, ho, hb⟩
  clear ho hb h4
  go_wp2
  go_ret
  exact HO.out
end Go.Proofs.YtgjcchafmcccjaaDoor
