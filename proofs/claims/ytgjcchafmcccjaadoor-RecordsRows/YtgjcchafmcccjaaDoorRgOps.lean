import Derived.Test.YtgjcchafmcccjaaDoorRwCopyM
import Derived.Test.YtgjcchafmcccjaaDoorRcCopyS
import Derived.Deep.QuietTactic
import Derived.BigQuiet
import Derived.Lib.QuietBelow
import Derived.Test.YtgjcchafmcccjaaDoorRgInv
import Derived.Test.YtgjcchafmcccjaaDoorRcRowX
/- Layer 7 (rows): the document's SameTexts, SameRow, of what is alike. -/
namespace Go.Proofs.YtgjcchafmcccjaaDoor
open Go.RowKit Go.Sort
set_option linter.unusedVariables false
attribute [local go_sem] Oper.semAt_some

set_option maxRecDepth 100000 in
set_option maxHeartbeats 4000000 in
theorem sameRow_calls (ca cb : Option Addr) (cc cd : Nat) (xs ys : List CV) (w : World) (hl : xs.length ≤ 4398046511104) (hal : Alike xs ys) (ha : RowAt w ca xs) (hb : RowAt w cb ys) :
    Calls Tryd.prog 19 #[.agg #[.slice ca xs.length cc], .agg #[.slice cb ys.length cd]] w fun e w' => e = .returned (.bool true) ∧ Below w.heap.size w w' := by
  have HA : Hid (RowAt w ca xs) := ha
  have HC : Hid (RowAt w cb ys) := hb
  have HAL : Hid (Alike xs ys) := hal
  obtain ⟨n, hn⟩ : ∃ n, n = xs.length := ⟨_, rfl⟩
  have HN : Hid (n = xs.length) := hn
  have HM : Hid (n = ys.length) := hn.trans hal.len
  rw [← hal.len, ← hn]
  rw [← hn] at hl
  clear ha hb hal hn
  have q1 : ((n : Int) == (n : Int)) = true := beq_self_eq_true _
  obtain ⟨w2, hw2⟩ : ∃ w2, w2 = (w.alloc (.cells #[.slice ca n cc] 60)).alloc (.cells #[.slice cb n cd] 60) := ⟨_, rfl⟩
  have HB2 : Hid (Below w.heap.size w w2) := by rw [hw2]; exact ((Below.refl _ _).alloc (Nat.le_refl _) _).alloc (by simp only [World.size_alloc]; omega) _
  have HX2 : Hid (w2.heap[w.heap.size]? = some (.cells #[.slice ca n cc] 60)) := by rw [Hid, hw2]; exact old_blk (new_blk _ _) _
  have HY2 : Hid (w2.heap[w.heap.size + 1]? = some (.cells #[.slice cb n cd] 60)) := by
    rw [Hid, hw2]
    have := new_blk (w.alloc (.cells #[.slice ca n cc] 60)) (.cells #[.slice cb n cd] 60)
    rw [World.size_alloc] at this
    exact this
  have a0 : w2.cell? ⟨w.heap.size, 0, none⟩ = some (.slice ca n cc) := by rw [cell_blk HX2.out]; rfl
  have b0 : w2.cell? ⟨w.heap.size + 1, 0, none⟩ = some (.slice cb n cd) := by rw [cell_blk HY2.out]; rfl
  go_enter Tryd.func19, Tryd.ntmps19
  go_upto_region 1 with fail
  rw [← hw2]
  clear hw2
  go_wp2
  go_loopw [5] (fun i wr => ∃ k : Nat, k ≤ n ∧ i = .int .i64 k ∧ Hid (Below w2.heap.size w2 wr)) (fun i _ => n - (intOf i).toNat)
  case atStart => exact ⟨0, Nat.zero_le _, rfl, Below.refl _ _⟩
  case round =>
    obtain ⟨k, hk, rfl, HB⟩ := hrel
    clear a0 b0
    have HBw : Hid (Below w.heap.size w wr) := HB2.out.trans (HB.out.mono HB2.out.size)
    have HXr : Hid (wr.heap[w.heap.size]? = some (.cells #[.slice ca n cc] 60)) := (HB.out.block _ (lt_blk HX2.out)).trans HX2.out
    have HYr : Hid (wr.heap[w.heap.size + 1]? = some (.cells #[.slice cb n cd] 60)) := (HB.out.block _ (lt_blk HY2.out)).trans HY2.out
    have a0 : wr.cell? ⟨w.heap.size, 0, none⟩ = some (.slice ca n cc) := by rw [cell_blk HXr.out]; rfl
    have b0 : wr.cell? ⟨w.heap.size + 1, 0, none⟩ = some (.slice cb n cd) := by rw [cell_blk HYr.out]; rfl
    by_cases hlt : k < n
    · have hlt' : k < xs.length := by rw [← HN.out]; exact hlt
      have hlt2 : k < ys.length := by rw [← HM.out]; exact hlt
      obtain ⟨ab, af, rfl, c0, c1, c2⟩ := ((HA.out.below HBw.out).row).cel k hlt'
      obtain ⟨bb, bf, rfl, d0, d1, d2⟩ := ((HC.out.below HBw.out).row).cel k hlt2
      have hll := (HA.out.wf _ (List.getElem_mem hlt')).2.2.2
      have hcore : xs[k].core = ys[k].core := by
        have := HAL.out.getD k
        rw [List.getD_eq_getElem?_getD, List.getD_eq_getElem?_getD, List.getElem?_eq_getElem hlt', List.getElem?_eq_getElem hlt2] at this
        exact this
      have ht : xs[k].t = ys[k].t := congrArg Prod.fst hcore
      have hnn : xs[k].n = ys[k].n := congrArg (fun x => x.2.1) hcore
      have hlq : xs[k].l = ys[k].l := congrArg (fun x => x.2.2) hcore
      have HLX : Hid (CellsAt wr xs[k].la (xs[k].l.map Value.string)) := (HA.out.below HBw.out).lst _ (List.getElem_mem hlt')
      have HLY : Hid (CellsAt wr ys[k].la (ys[k].l.map Value.string)) := (HC.out.below HBw.out).lst _ (List.getElem_mem hlt2)
      rw [← ht] at d0
      rw [← hnn] at d1
      rw [← hlq] at d2 HLY
      have cS := fun d os => Calls.regrown_of (sameTexts_calls xs[k].la ys[k].la xs[k].lc ys[k].lc xs[k].l (grow (redrawn wr d) os) hll (HLX.out.below (below_regrown wr d os)) (HLY.out.below (below_regrown wr d os)))
      have q2 : (xs[k].t.toList == xs[k].t.toList) = true := beq_self_eq_true _
      have q3 : (xs[k].n == xs[k].n) = true := beq_self_eq_true _
      have hi1 : (k : Int) < (n : Int) := by omega
      have hi0 : (0 : Int) ≤ (k : Int) := by omega
      have hi2 : (0 : Int) ≤ (k : Int) ∧ (k : Int) < (n : Int) := ⟨hi0, hi1⟩
      clear hcore ht hnn hlq HLX HLY
      generalize xs[k].t = xt at *
      generalize xs[k].n = xn at *
      generalize xs[k].l.length = ll at *
      generalize xs[k].la = xa at *
      generalize xs[k].lc = xc at *
      generalize ys[k].la = ya at *
      generalize ys[k].lc = yc at *
      go_upto_region 6 with fail
      have j0 := cell_regrown a0
      have j1 := cell_regrown b0
      have j2 := cell_regrown c0
      have j3 := cell_regrown c1
      have j4 := cell_regrown c2
      have j5 := cell_regrown d0
      have j6 := cell_regrown d1
      have j7 := cell_regrown d2
      clear a0 b0 c0 c1 c2 d0 d1 d2
      refine wp_region_quiet_below (by kernel_rfl) (by kernel_rfl) ?_
      repeat (quiet_step (exact cS _ _))
      refine wpQuiet_nil ?_
      intro w7 hw'
      obtain ⟨⟨dq, osq⟩, hw7⟩ := hw'
      have HB7 : Hid (Below w2.heap.size w2 w7) := HB.out.trans ((by rw [hw7]; exact below_regrown wr dq osq : Below wr.heap.size wr w7).mono HB.out.size)
      clear hw7 cS j0 j1 j2 j3 j4 j5 j6 j7
      go_wp2
      go_roundw
      case rel => exact ⟨k + 1, by omega, by go_num, HB7⟩
      case measure => simp [intOf]; omega
    · go_wp2
      go_ret
      exact ⟨rfl, HBw.out⟩
end Go.Proofs.YtgjcchafmcccjaaDoor

/- Single operations in whatever frame, for regions that draw their order (RgInv): moves, picks, fields, loads of one cell, slices, equality of records. -/
namespace Go.Proofs.YtgjcchafmcccjaaDoor
open Go.RowKit
set_option linter.unusedVariables false

theorem add_off (g j : Nat) : (⟨g, 0, none⟩ : Addr).add j = ⟨g, j, none⟩ := by
  by_cases hj : j = 0
  · subst hj
    simp [Addr.add]
  · simp [Addr.add, hj]
section
variable {o : Oper} {a : Act} {W : World} {K : Act → World → Prop} {Q : Exit → Act → World → Prop}
theorem f_move {x : Operand} {v : Value} (ho : o.op = .move x) (hx : a.eval x = v) (h : K (a.put o.dst v) W) : o.wp Tryd.prog a W K Q :=
  wp_valF (v := v) (by unfold execOp; simp only [ho, hx]; rfl) h
theorem f_pick {c x y : Operand} {v : Value} (ho : o.op = .pick c x y) (hc : a.eval c = .bool true) (hx : a.eval x = v) (h : K (a.put o.dst v) W) : o.wp Tryd.prog a W K Q :=
  wp_valF (v := v) (by unfold execOp; simp only [ho, hc, hx]; simp [asBool, go_sem]) h
theorem f_fieldRow {x : Operand} {p : Nat} (ho : o.op = .fieldAddr 60 x 0) (hx : a.eval x = .pointer (some ⟨p, 0, none⟩)) (h : K (a.put o.dst (.pointer (some ⟨p, 0, none⟩))) W) : o.wp Tryd.prog a W K Q :=
  wp_valF (v := .pointer (some ⟨p, 0, none⟩)) (by unfold execOp; simp only [ho, hx]; simp [run_underlying Tryd.underlying60, go_sem]) h
theorem f_fieldNode {x : Operand} {p : Nat} (ho : o.op = .fieldAddr 44 x 0) (hx : a.eval x = .pointer (some ⟨p, 0, none⟩)) (h : K (a.put o.dst (.pointer (some ⟨p, 0, none⟩))) W) : o.wp Tryd.prog a W K Q :=
  wp_valF (v := .pointer (some ⟨p, 0, none⟩)) (by unfold execOp; simp only [ho, hx]; simp [run_underlying Tryd.underlying44, go_sem]) h
theorem f_loadCells {x : Operand} {p : Nat} {s : Option Addr} {n c : Nat} (ho : o.op = .load 58 x) (hx : a.eval x = .pointer (some ⟨p, 0, none⟩)) (hc : W.cell? ⟨p, 0, none⟩ = some (.slice s n c)) (h : K (a.put o.dst (.slice s n c)) W) : o.wp Tryd.prog a W K Q :=
  wp_valF (v := .slice s n c) (by unfold execOp; simp only [ho, hx]; simp [hc, go_sem]) h
theorem f_loadStr {x : Operand} {p : Nat} {s : ByteArray} (ho : o.op = .load 9 x) (hx : a.eval x = .pointer (some ⟨p, 0, none⟩)) (hc : W.cell? ⟨p, 0, none⟩ = some (.string s)) (h : K (a.put o.dst (.string s)) W) : o.wp Tryd.prog a W K Q :=
  wp_valF (v := .string s) (by unfold execOp; simp only [ho, hx]; simp [hc, go_sem]) h
theorem f_slice1 {x : Operand} {g : Nat} (ho : o.op = .slice 58 x none (some (.const (.int .i64 1))) none) (hx : a.eval x = .slice (some ⟨g, 0, none⟩) 4 4) (h : K (a.put o.dst (.slice (some ⟨g, 0, none⟩) 1 4)) W) : o.wp Tryd.prog a W K Q :=
  wp_valF (v := .slice (some ⟨g, 0, none⟩) 1 4) (by unfold execOp; simp only [ho, hx, Option.map_some, Option.map_none]; simp [Act.eval, go_sem]) h
theorem f_eqlNode {x y : Operand} {s t : ByteArray} {m n : Int} (ho : o.op = .binOp .eql 44 x y 44) (hx : a.eval x = .agg #[.string s, .string t, .int .u64 m, .int .u64 n]) (hy : a.eval y = .agg #[.string s, .string t, .int .u64 m, .int .u64 n]) (h : K (a.put o.dst (.bool true)) W) : o.wp Tryd.prog a W K Q :=
  wp_valF (v := .bool true) (by
    unfold execOp
    simp only [ho, hx, hy]
    simp [go_sem]) h
theorem f_eqlCheck {x y : Operand} {s t r q : ByteArray} {k m n : Int} (ho : o.op = .binOp .eql 49 x y 49) (hx : a.eval x = .agg #[.string s, .string t, .string r, .int .i64 k, .string q, .int .u64 m, .int .u64 n]) (hy : a.eval y = .agg #[.string s, .string t, .string r, .int .i64 k, .string q, .int .u64 m, .int .u64 n]) (h : K (a.put o.dst (.bool true)) W) : o.wp Tryd.prog a W K Q :=
  wp_valF (v := .bool true) (by
    unfold execOp
    simp only [ho, hx, hy]
    simp [go_sem]) h
theorem f_buildRow {x : Operand} {s : Option Addr} {n c : Nat} (ho : o.op = .build 60 #[(0, x)]) (hx : a.eval x = .slice s n c) (h : K (a.put o.dst (.agg #[.slice s n c])) W) : o.wp Tryd.prog a W K Q :=
  wp_valF (v := .agg #[.slice s n c]) (by unfold execOp; simp only [ho, List.map_toArray, List.map_cons, List.map_nil, hx]; go_simp) h
theorem f_buildRow0 (ho : o.op = .build 60 #[]) (h : K (a.put o.dst (.agg #[.slice none 0 0])) W) : o.wp Tryd.prog a W K Q :=
  wp_valF (v := .agg #[.slice none 0 0]) (by unfold execOp; simp only [ho, List.map_toArray, List.map_nil]; go_simp) h
theorem f_buildNode1 {x : Operand} {s : ByteArray} (ho : o.op = .build 44 #[(0, x)]) (hx : a.eval x = .string s) (h : K (a.put o.dst (.agg #[.string s, .string ⟨#[]⟩, .int .u64 0, .int .u64 0])) W) : o.wp Tryd.prog a W K Q :=
  wp_valF (v := .agg #[.string s, .string ⟨#[]⟩, .int .u64 0, .int .u64 0]) (by unfold execOp; simp only [ho, List.map_toArray, List.map_cons, List.map_nil, hx]; go_simp) h
theorem f_buildSvc0 (ho : o.op = .build 47 #[]) (h : K (a.put o.dst (.agg #[.string ⟨#[]⟩, .string ⟨#[]⟩, .string ⟨#[]⟩, .int .i64 0, .slice none 0 0, .int .u64 0, .int .u64 0])) W) : o.wp Tryd.prog a W K Q :=
  wp_valF (v := .agg #[.string ⟨#[]⟩, .string ⟨#[]⟩, .string ⟨#[]⟩, .int .i64 0, .slice none 0 0, .int .u64 0, .int .u64 0]) (by unfold execOp; simp only [ho, List.map_toArray, List.map_nil]; go_simp) h
theorem f_buildCell9 (ho : o.op = .build 66 #[(1, .const (.int .u64 9))]) (h : K (a.put o.dst (.agg #[.string ⟨#[]⟩, .int .u64 9, .slice none 0 0])) W) : o.wp Tryd.prog a W K Q :=
  wp_valF (v := .agg #[.string ⟨#[]⟩, .int .u64 9, .slice none 0 0]) (by unfold execOp; simp only [ho, List.map_toArray, List.map_cons, List.map_nil, Act.eval]; go_simp) h
theorem f_slice9 {x : Operand} {s : ByteArray} {n : Int} (ho : o.op = .buildSlice 58 1 #[(0, x)]) (hx : a.eval x = .agg #[.string s, .int .u64 n, .slice none 0 0]) (h : K (a.put o.dst (.slice (some ⟨W.heap.size, 0, none⟩) 1 1)) (W.alloc (.cells #[.string s, .int .u64 n, .slice none 0 0] 66))) : o.wp Tryd.prog a W K Q := by
  have hr : (execOp a.eval o).run Tryd.prog W = .ok (.value (.slice (some ⟨W.heap.size, 0, none⟩) 1 1)) (W.alloc (.cells #[.string s, .int .u64 n, .slice none 0 0] 66)) := by
    unfold execOp
    simp only [ho, List.map_toArray, List.map_cons, List.map_nil, hx]
    go_simp
  unfold Oper.wp
  rw [hr]
  exact h
theorem inf_cell : (Tryd.prog.info? 66).map (fun i => (i.zero, i.size, i.bytes)) = some (some (.agg #[.string ⟨#[]⟩, .int .u64 0, .slice none 0 0]), 3, 48) := by kernel_rfl
theorem f_app9 {x y : Operand} {g q : Nat} {olds news : List Value} (ho : o.op = .call { callee := .builtin .append, args := #[x, y], argTypes := #[58, 58] }) (hx : a.eval x = .slice (some ⟨g, 0, none⟩) 7 7) (hy : a.eval y = .slice (some ⟨q, 0, none⟩) 1 1)
    (hlo : olds.length = 21) (hol : ∀ j v, olds[j]? = some v → W.cell? ⟨g, j, none⟩ = some v) (hln : news.length = 3) (hnw : ∀ j v, news[j]? = some v → W.cell? ⟨q, j, none⟩ = some v)
    (h : ∀ cap w', Below W.heap.size W w' → CellsAt w' (some ⟨W.heap.size, 0, none⟩) (olds ++ news) → K (a.put o.dst (.slice (some ⟨W.heap.size, 0, none⟩) 8 cap)) w') : o.wp Tryd.prog a W K Q := by
  obtain ⟨i, hi, hb⟩ := Option.map_eq_some_iff.1 inf_cell
  simp only [Prod.mk.injEq] at hb
  obtain ⟨hz, hs, hby⟩ := hb
  have hr := run_append_grow (P := Tryd.prog) (w := W) 58 o.type 66 i _ Tryd.underlying58 hi hz ⟨g, 0, none⟩ 7 7 olds (by rw [hs, hlo]) (fun j v hv => by rw [add_off]; exact hol j v hv) ⟨q, 0, none⟩ 1 1 news (by rw [hs, hln]) (fun j v hv => by rw [add_off]; exact hnw j v hv) (by decide) (by decide) (by rw [hby]; decide)
  unfold Oper.wp execOp
  simp only [ho, resolve, invoke, builtin, Sem.run_bind, Sem.run_pure, Result.andThen_ok, List.map_toArray, List.map_cons, List.map_nil, hx, hy, hr]
  refine h _ _ ?_ ?_
  · have hb := below_new W.drew (.cells (olds.toArray ++ news.toArray ++ Builtin.zeroCells (Value.agg #[.string ⟨#[]⟩, .int .u64 0, .slice none 0 0]).cells (grownCap W (7 + 1) 7 66 - (7 + 1))) 66)
    exact ⟨hb.os, hb.tape, hb.output, hb.size, hb.block⟩
  · intro _
    refine ⟨W.heap.size, 0, rfl, fun j u hu => ?_⟩
    have hj := (List.getElem?_eq_some_iff.1 hu).1
    rw [Nat.zero_add]
    have := World.cell?_alloc_new W.drew (olds.toArray ++ news.toArray ++ Builtin.zeroCells (Value.agg #[.string ⟨#[]⟩, .int .u64 0, .slice none 0 0]).cells (grownCap W (7 + 1) 7 66 - (7 + 1))) 66 j
    refine Eq.trans this ?_
    rw [Array.getElem?_append_left (by simpa using hj)]
    simpa using hu
end
end Go.Proofs.YtgjcchafmcccjaaDoor
