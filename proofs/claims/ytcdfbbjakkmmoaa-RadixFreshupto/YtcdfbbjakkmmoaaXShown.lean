import Derived.Test.YtcdfbbjakkmmoaaRgInv
import Derived.Test.YtcdfbbjakkmmoaaXBuilt4
import Derived.Laws.Tables
import Derived.Test.YtcdfbbjakkmmoaaChecked
import Derived.WalkKit
import Derived.Laws.Rows
import Derived.Test.YtcdfbbjakkmmoaaXGetD
import Derived.Test.YtcdfbbjakkmmoaaXDelN
import Derived.Test.YtcdfbbjakkmmoaaXFrom
import Derived.Lib.QuietBelow
import Derived.Deep.QuietTactic
/- Single operations in whatever frame, for regions that draw their order (RgInv), of every seat: moves, picks. -/
namespace Go.Proofs.Ytcdfbbjakkmmoaa
open Go.RowKit
set_option linter.unusedVariables false

theorem add_off (g j : Nat) : (⟨g, 0, none⟩ : Addr).add j = ⟨g, j, none⟩ := by
  by_cases hj : j = 0
  · subst hj
    simp [Addr.add]
  · simp [Addr.add, hj]
section
variable {P : Program} {o : Oper} {a : Act} {W : World} {K : Act → World → Prop} {Q : Exit → Act → World → Prop}
theorem f_move {x : Operand} {v : Value} (ho : o.op = .move x) (hx : a.eval x = v) (h : K (a.put o.dst v) W) : o.wp P a W K Q :=
  wp_valF (v := v) (by unfold execOp; simp only [ho, hx]; rfl) h
theorem f_pick {c x y : Operand} {v : Value} (ho : o.op = .pick c x y) (hc : a.eval c = .bool true) (hx : a.eval x = v) (h : K (a.put o.dst v) W) : o.wp P a W K Q :=
  wp_valF (v := v) (by unfold execOp; simp only [ho, hc, hx]; simp [asBool, go_sem]) h
theorem f_pickF {c x y : Operand} {v : Value} (ho : o.op = .pick c x y) (hc : a.eval c = .bool false) (hx : a.eval y = v) (h : K (a.put o.dst v) W) : o.wp P a W K Q :=
  wp_valF (v := v) (by unfold execOp; simp only [ho, hc, hx]; simp [asBool, go_sem]) h
end
end Go.Proofs.Ytcdfbbjakkmmoaa

/- Single operations in whatever frame, as the document's Trim and the laws of layer 4 have them in regions that draw their order. -/
namespace Go.Proofs.Ytcdfbbjakkmmoaa
open Go.RowKit
set_option linter.unusedVariables false
section
variable {o : Oper} {a : Act} {W : World} {K : Act → World → Prop} {Q : Exit → Act → World → Prop}
theorem info_tree5 : (Try.prog.info? 28).map (·.size) = some 5 := by kernel_rfl
theorem f_loadTree {x : Operand} {g : Nat} {v0 v1 v2 v3 v4 : Value} (ho : o.op = .load 28 x) (hx : a.eval x = .pointer (some ⟨g, 0, none⟩)) (hg : W.heap[g]? = some (.cells #[v0, v1, v2, v3, v4] 28)) (h : K (a.put o.dst (.agg #[v0, v1, v2, v3, v4])) W) : o.wp Try.prog a W K Q :=
  wp_load_row 28 x ho g hx 28 #[v0, v1, v2, v3, v4] (0, 0) _ hg Try.underlying28 rfl (by rw [info_tree5]; rfl) h
theorem f_fldTree {x : Operand} {g : Nat} (ho : o.op = .fieldAddr 28 x 0) (hx : a.eval x = .pointer (some ⟨g, 0, none⟩)) (h : K (a.put o.dst (.pointer (some ⟨g, 0, none⟩))) W) : o.wp Try.prog a W K Q :=
  wp_valF (v := .pointer (some ⟨g, 0, none⟩)) (by unfold execOp; simp only [ho, hx]; go_simp) h
theorem f_loadLS {x : Operand} {p k : Nat} {s : Option Addr} {n c : Nat} (ho : o.op = .load 22 x) (hx : a.eval x = .pointer (some ⟨p, k, none⟩)) (hc : W.cell? ⟨p, k, none⟩ = some (.slice s n c)) (h : K (a.put o.dst (.slice s n c)) W) : o.wp Try.prog a W K Q :=
  wp_valF (v := .slice s n c) (by unfold execOp; simp only [ho, hx]; simp [hc, go_sem]) h
theorem f_idxStr {x y : Operand} {g off n c b : Nat} (ho : o.op = .indexAddr 22 x y) (hx : a.eval x = .slice (some ⟨g, off, none⟩) n c) (hy : a.eval y = .int .i64 (b : Int)) (hb : b < n) (h : K (a.put o.dst (.pointer (some ⟨g, off + b, none⟩))) W) : o.wp Try.prog a W K Q :=
  wp_valF (v := .pointer (some ⟨g, off + b, none⟩)) (by
    have h1 : (0 : Int) ≤ (b : Int) := by omega
    have h2 : (b : Int) < (n : Int) := by omega
    unfold execOp; simp only [ho, hx, hy]; go_simp) h
theorem f_loadS {x : Operand} {p k : Nat} {s : ByteArray} (ho : o.op = .load 9 x) (hx : a.eval x = .pointer (some ⟨p, k, none⟩)) (hc : W.cell? ⟨p, k, none⟩ = some (.string s)) (h : K (a.put o.dst (.string s)) W) : o.wp Try.prog a W K Q :=
  wp_valF (v := .string s) (by unfold execOp; simp only [ho, hx]; simp [hc, go_sem]) h
theorem f_ext {x : Operand} {k : Nat} {vs : Array Value} {v : Value} (ho : o.op = .extract x k) (hx : a.eval x = .tuple vs) (hv : vs[k]? = some v) (h : K (a.put o.dst v) W) : o.wp Try.prog a W K Q :=
  wp_valF (v := v) (by unfold execOp; simp only [ho, hx]; simp [hv, go_sem]) h
theorem setRow_put5 {W : World} {b : Nat} {c0 c1 c2 c3 c4 : Value} (hb : W.heap[b]? = some (.cells #[c0, c1, c2, c3, c4] 28)) (x0 x1 x2 x3 x4 : Value) : W.setRow b #[x0, x1, x2, x3, x4] = put5 W b x0 x1 x2 x3 x4 := by
  unfold put5
  rw [setCell_eq_setRow W b 0 _ _ _ x0 hb, setCell_eq_setRow _ b 1 _ _ _ x1 (setRow_heap _ _ _ _ _ _ hb), setRow_setRow, setCell_eq_setRow _ b 2 _ _ _ x2 (setRow_heap _ _ _ _ _ _ hb), setRow_setRow, setCell_eq_setRow _ b 3 _ _ _ x3 (setRow_heap _ _ _ _ _ _ hb), setRow_setRow, setCell_eq_setRow _ b 4 _ _ _ x4 (setRow_heap _ _ _ _ _ _ hb), setRow_setRow]
  rfl
theorem f_storeTree {x y : Operand} {g : Nat} {c0 c1 c2 c3 c4 : Value} {a0 a1 a2 a3 a4 : Option Addr} {n0 n1 n2 n3 n4 p0 p1 p2 p3 p4 : Nat} (ho : o.op = .store 28 x y) (hx : a.eval x = .pointer (some ⟨g, 0, none⟩)) (hy : a.eval y = .agg #[.slice a0 n0 p0, .slice a1 n1 p1, .slice a2 n2 p2, .slice a3 n3 p3, .slice a4 n4 p4]) (hg : W.heap[g]? = some (.cells #[c0, c1, c2, c3, c4] 28)) (h : K (a.put o.dst undef) (put5 W g (.slice a0 n0 p0) (.slice a1 n1 p1) (.slice a2 n2 p2) (.slice a3 n3 p3) (.slice a4 n4 p4))) : o.wp Try.prog a W K Q :=
  wp_store_row 28 x y ho g _ hx hy 28 #[c0, c1, c2, c3, c4] hg (by rw [info_tree5]; rfl) rfl (by simp [Value.oneCell']) (by rw [setRow_put5 hg]; exact h)
theorem map3 {f : Operand → Value} {x y z : Operand} {u v t : Value} (h : f x = u) (k : f y = v) (l : f z = t) : (#[x, y, z] : Array Operand).map f = #[u, v, t] := by simp [h, k, l]
end
end Go.Proofs.Ytcdfbbjakkmmoaa

/- Layer 3 (radix): shown. -/
namespace Go.Proofs.Ytcdfbbjakkmmoaa
open Go.RowKit Go.Shelf
open Go.Sort (grow)
set_option linter.unusedVariables false

/-- The two boxes. -/
structure BoxI (w : World) (t : Tr) (d : Dv) (n q : Nat) (W : World) : Prop where
  below : Below w.heap.size w W
  nb : W.heap[w.heap.size]? = some (.cells #[.pointer (some ⟨t.a, 0, none⟩)] 37)
  mb : W.heap[w.heap.size + 1]? = some (.cells (d.cells n q) 28)
theorem BoxI.keep {w : World} {t : Tr} {d : Dv} {n q : Nat} {W W' : World} (h : BoxI w t d n q W) (hb : Below W.heap.size W W') : BoxI w t d n q W' :=
  ⟨h.below.trans (hb.mono h.below.size), (hb.block _ (lt_of_heap h.nb)).trans h.nb, (hb.block _ (lt_of_heap h.mb)).trans h.mb⟩
/-- .. and the rows of kids and of places. -/
structure ShI (w : World) (t : Tr) (d : Dv) (n q : Nat) (kb : Nat) (v : Value) (l : List Nat) (W : World) : Prop where
  box : BoxI w t d n q W
  rt : ∀ i (h : i < t.ks.length), W.cell? ⟨kb, i, none⟩ = some (.pointer (some ⟨t.ks[i].a, 0, none⟩))
  own : OwnV W w.heap.size 3 v (ints (l.map (fun (x : Nat) => (x : Int))))
theorem ShI.keep {w : World} {t : Tr} {d : Dv} {n q kb : Nat} {v : Value} {l : List Nat} {W W' : World} (h : ShI w t d n q kb v l W) (hb : Below W.heap.size W W') : ShI w t d n q kb v l W' :=
  ⟨h.box.keep hb, fun i hi => by rw [hb.cell (World.block_lt_of_cell? W _ (h.rt i hi))]; exact h.rt i hi, h.own.below hb⟩

set_option maxRecDepth 100000 in
set_option maxHeartbeats 4000000 in
theorem shown_calls (es : List En) (P : List ByteArray) (d : Dv) (hl : P.length ≤ 11728124029400) (hle : es.length ≤ 5864062014650) (n : Nat) : ∀ (t : Tr) (pre post : List ByteArray) (w : World), Dep n t → TAt nR w t → WF t → HasU t es → Seg P pre post n t → DocAt w d es P →
    Calls Try.prog 11 #[nodeV t, .agg (d.cells es.length P.length), .int .i64 (pre.length : Int)] w fun e w' => e = .returned (.bool true) ∧ Below w.heap.size w w' := by
  induction n with
  | zero => intro t pre post w hd; cases hd
  | succ n ih =>
    intro t pre post w hd htA hwt hU hS hD
    have hnot : ∀ (x : Bool) (w : World), (Op.unary .not (.bool x)).run Try.prog w = .ok (.bool (!x)) w := fun _ _ => rfl
    obtain ⟨e1, e2⟩ := shown_val hU hwt hD.sorted
    have hlt := hS.lt hd
    have htop := hS.top hd
    have hfew := hwt.few
    have hpsz := htA.psz'
    obtain ⟨pb, poff, hpa, hci⟩ := hD.p.str hD.pp pre.length hlt
    rw [htop] at hci
    obtain ⟨w1, HW1⟩ : ∃ w1, Hid (w1 = (w.alloc (.cells #[.pointer (some ⟨t.a, 0, none⟩)] 37)).alloc (.cells (d.cells es.length P.length) 28)) := ⟨_, rfl⟩
    have hsz : (w.alloc (.cells #[.pointer (some ⟨t.a, 0, none⟩)] 37)).heap.size = w.heap.size + 1 := by simp [World.size_alloc]
    have HB1 : Hid (BoxI w t d es.length P.length w1) := by
      refine ⟨?_, ?_, ?_⟩
      · rw [HW1.out]; exact ((Below.refl _ w).alloc (Nat.le_refl _) _).alloc (by omega) _
      · have h2 : Below (w.heap.size + 1) (w.alloc (.cells #[.pointer (some ⟨t.a, 0, none⟩)] 37)) w1 := by rw [HW1.out]; exact (Below.refl _ _).alloc (by omega) _
        rw [h2.block _ (by omega)]; exact heap_alloc_new _ _
      · rw [HW1.out, ← hsz]; exact heap_alloc_new _ _
    have HMK : Hid (∀ W, BoxI w t d es.length P.length W → W.cell? ⟨w.heap.size, 0, none⟩ = some (.pointer (some ⟨t.a, 0, none⟩)) ∧ W.cell? ⟨w.heap.size + 1, 0, none⟩ = some (.slice d.k.ao es.length d.k.cap) ∧ W.cell? ⟨w.heap.size + 1, 1, none⟩ = some (.slice d.v.ao es.length d.v.cap) ∧ W.cell? ⟨w.heap.size + 1, 2, none⟩ = some (.slice d.l.ao es.length d.l.cap) ∧ W.cell? ⟨w.heap.size + 1, 3, none⟩ = some (.slice (some ⟨pb, poff, none⟩) P.length d.p.cap) ∧ W.cell? ⟨w.heap.size + 1, 4, none⟩ = some (.slice d.m.ao P.length d.m.cap) ∧ W.cell? ⟨pb, poff + pre.length, none⟩ = some (.string t.p)) := fun W h => by
      refine ⟨by rw [cell_of_blk h.nb]; rfl, by rw [cell_of_blk h.mb]; rfl, by rw [cell_of_blk h.mb]; rfl, by rw [cell_of_blk h.mb]; rfl, by rw [cell_of_blk h.mb, ← hpa]; rfl, by rw [cell_of_blk h.mb]; rfl, by rw [h.below.cell (World.block_lt_of_cell? w _ hci)]; exact hci⟩
    have HT : Hid (TAt nR w t ∧ WF t ∧ Dep (n + 1) t ∧ HasU t es ∧ Seg P pre post (n + 1) t ∧ DocAt w d es P) := ⟨htA, hwt, hd, hU, hS, hD⟩
    have IH : Hid _ := ih
    obtain ⟨o, ho⟩ : ∃ o, o = oldV es t.p := ⟨_, rfl⟩
    obtain ⟨b, hbb⟩ : ∃ b, b = decide (t.p ∈ keysOf es) := ⟨_, rfl⟩
    have HG : ∀ W, Below w.heap.size w W → Calls Try.prog 16 #[.agg #[.slice d.k.ao es.length d.k.cap, .slice d.v.ao es.length d.v.cap, .slice d.l.ao es.length d.l.cap, .slice (some ⟨pb, poff, none⟩) P.length d.p.cap, .slice d.m.ao P.length d.m.cap], .string t.p] W fun e w' => e = .returned (.tuple #[.int .i64 o, .bool b]) ∧ Below W.heap.size W w' := fun W hW => by
      have := getD_calls d es P t.p W (hD.keep hW) hpsz hle
      unfold Dv.cells at this
      rw [hpa, ← ho, ← hbb] at this
      exact this
    have HV : Hid (∀ W, Below w.heap.size w W → Calls Try.prog 36 #[.agg #[.pointer (some ⟨t.a, 0, none⟩)]] W fun e w' => e = .returned (.tuple #[.int .i64 o, .bool b]) ∧ Below W.heap.size W w') := fun W hW => by
      have := value_calls (R := nR) t W (htA.keep hW)
      rw [e1, e2, ← ho, ← hbb] at this
      exact this
    obtain ⟨q, hq⟩ : ∃ q, q = pre.length := ⟨_, rfl⟩
    have HQ : Hid (q = pre.length) := hq
    rw [← hq] at HMK hlt ⊢
    have i1 : (0 : Int) ≤ (q : Int) ∧ (q : Int) < (P.length : Int) := by omega
    clear htA hwt hd hU hS hD ih e1 e2 htop hci ho hbb hq hpsz hsz
    have HHG : Hid _ := HG
    unfold nodeV
    unfold Dv.cells
    unfold Dv.cells at HW1
    have HPA : Hid (d.p.ao = some ⟨pb, poff, none⟩) := hpa
    clear hpa HG
    go_enter Try.func11, Try.ntmps11
    go_wp2_with fail
    rw [← HW1.out]
    clear HW1
    obtain ⟨k0, k1, k2, k3, k4, k5, k6⟩ := HMK.out w1 HB1.out
    have j0 := cell_regrown k0
    have j1 := cell_regrown k1
    have j2 := cell_regrown k2
    have j3 := cell_regrown k3
    have j4 := cell_regrown k4
    have j5 := cell_regrown k5
    have j6 := cell_regrown k6
    have cG := fun dd os => Calls.regrown_of (HHG.out (grow (redrawn w1 dd) os) (HB1.out.below.trans ((below_regrown w1 dd os).mono HB1.out.below.size)))
    go_wp2_with fail
    refine wp_region_quiet_below (by kernel_rfl) (by kernel_rfl) ?_
    repeat (quiet_step (exact cG _ _))
    refine wpQuiet_nil ?_
    intro w2 hw'
    obtain ⟨⟨dq, osq⟩, hw2⟩ := hw'
    have HB2 : Hid (BoxI w t d es.length P.length w2) := HB1.out.keep (by rw [hw2]; exact below_regrown w1 dq osq)
    clear hw2 cG j0 j1 j2 j3 j4 j5 j6 k0 k1 k2 k3 k4 k5 k6 HB1 HHG
    obtain ⟨k0, k1, k2, k3, k4, k5, k6⟩ := HMK.out w2 HB2.out
    have HV2 := HV.out w2 HB2.out.below
    go_wp2_with fail
    refine HV2.mono ?_
    clear HV2
    rintro e w3 ⟨rfl, hb3⟩
    have HB3 : Hid (BoxI w t d es.length P.length w3) := HB2.out.keep hb3
    clear hb3 HB2 HV k0 k1 k2 k3 k4 k5 k6
    obtain ⟨k0, k1, k2, k3, k4, k5, k6⟩ := HMK.out w3 HB3.out
    have j0 := cell_regrown k0
    have j1 := cell_regrown k1
    have j2 := cell_regrown k2
    have j3 := cell_regrown k3
    have j4 := cell_regrown k4
    have j5 := cell_regrown k5
    have j6 := cell_regrown k6
    have cT := fun dd os => Calls.regrown_of (path_calls (R := nR) t (grow (redrawn w3 dd) os) ((HT.out.1.keep HB3.out.below).keep (below_regrown w3 dd os)))
    unfold nodeV at cT
    go_wp2_with fail
    refine wp_region_quiet_below (by kernel_rfl) (by kernel_rfl) ?_
    repeat (quiet_step (exact cT _ _))
    refine wpQuiet_nil ?_
    intro w4 hw'
    obtain ⟨⟨dq, osq⟩, hw4⟩ := hw'
    have HB4 : Hid (BoxI w t d es.length P.length w4) := HB3.out.keep (by rw [hw4]; exact below_regrown w3 dq osq)
    clear hw4 cT j0 j1 j2 j3 j4 j5 j6 k0 k1 k2 k3 k4 k5 k6 HB3
    obtain ⟨k0, k1, k2, k3, k4, k5, k6⟩ := HMK.out w4 HB4.out
    have HK4 := kids_calls (R := nR) t w4 (HT.out.1.keep HB4.out.below) (by omega)
    unfold nodeV at HK4
    go_wp2_with fail
    refine HK4.mono ?_
    clear HK4
    rintro e w5 ⟨kb, rfl, hb5, hk5, hc5⟩
    have HB5 : Hid (BoxI w t d es.length P.length w5) := HB4.out.keep hb5
    have HC5 : Hid (∀ i (h : i < t.ks.length), w5.cell? ⟨kb, i, none⟩ = some (.pointer (some ⟨t.ks[i].a, 0, none⟩))) := hc5
    clear hb5 hk5 hc5 HB4 k0 k1 k2 k3 k4 k5 k6
    obtain ⟨k0, k1, k2, k3, k4, k5, k6⟩ := HMK.out w5 HB5.out
    have HKD := kidsD_calls d es P q (sumL n t.ks) w5 (HT.out.2.2.2.2.2.keep HB5.out.below) hl (by have := (kids_end HT.out.2.2.2.2.1).1; rw [HQ.out]; exact this) (fun m hm => by have := kids_inside HT.out.2.2.2.2.1 HT.out.2.1 m hm; rw [HQ.out]; exact this) (by have := (kids_end HT.out.2.2.2.2.1).2; rw [HQ.out]; exact this)
    have hkp := kids_places HT.out.2.2.2.2.1 HT.out.2.1 HT.out.2.2.1 t.ks.length (Nat.le_refl _)
    rw [List.take_length, ← HQ.out] at hkp
    rw [hkp, kidPls_len] at HKD
    clear hkp
    unfold Dv.cells at HKD
    rw [HPA.out] at HKD
    go_wp2_with fail
    refine HKD.mono ?_
    clear HKD
    rintro e w6 ⟨ao, cap, rfl, ho6, hb6⟩
    have HI6 : Hid (ShI w t d es.length P.length kb (.slice ao t.ks.length cap) (kidPls n t.ks q t.ks.length) w6) := ⟨HB5.out.keep hb6, fun i hi => by rw [hb6.cell (World.block_lt_of_cell? w5 _ (HC5.out i hi))]; exact HC5.out i hi, ho6.mono HB5.out.below.size⟩
    clear ho6 hb6 HC5 HB5 k0 k1 k2 k3 k4 k5 k6
    go_wp2_with fail
    go_loopw [59] (fun i wr => ∃ j : Nat, j ≤ t.ks.length ∧ i = .int .i64 j ∧ Hid (ShI w t d es.length P.length kb (.slice ao t.ks.length cap) (kidPls n t.ks q t.ks.length) wr)) (fun i _ => t.ks.length - (intOf i).toNat)
    case atStart => exact ⟨0, Nat.zero_le _, rfl, HI6⟩
    case round =>
      obtain ⟨j, hj, rfl, HI⟩ := hrel
      clear HI6
      by_cases hlj : j < t.ks.length
      · have kx := HI.out.rt j hlj
        have hmt : t.ks[j] ∈ t.ks := List.getElem_mem hlj
        obtain ⟨g, hao, hco⟩ := HI.out.own.at j (by rw [ints_length, List.length_map, kidPls_len]; exact hlj)
        rw [show (ints ((kidPls n t.ks q t.ks.length).map (fun (x : Nat) => (x : Int))))[j]'(by rw [ints_length, List.length_map, kidPls_len]; exact hlj) = .int .i64 (kidPl n t.ks q j : Int) by simp [ints, kidPls_at]] at hco
        have h1 := HT.out
        have hSj := h1.2.2.2.2.1.kid h1.2.1 hlj
        have hkl := Seg.kidLen (P := P) (pre := pre) (post := post) (n := n) (t := t) j
        rw [← HQ.out] at hkl
        have cA := fun dd os => Calls.regrown_of (IH.out t.ks[j] _ _ (grow (redrawn wr dd) os) (h1.2.2.1 _ hmt) (((h1.1.keep HI.out.box.below).keep (below_regrown wr dd os)).sub' _ hmt) (h1.2.1.kids' _ hmt) (h1.2.2.2.1.kid h1.2.1 hmt) hSj ((h1.2.2.2.2.2.keep HI.out.box.below).keep (below_regrown wr dd os)))
        rw [hkl] at cA
        unfold nodeV Dv.cells at cA
        rw [HPA.out] at cA
        clear h1 hmt hSj hkl
        obtain ⟨k0, k1, k2, k3, k4, k5, k6⟩ := HMK.out wr HI.out.box
        subst hao
        go_wp2_with fail
        have j0 := cell_regrown kx
        have j1 := cell_regrown k1
        have j2 := cell_regrown k2
        have j3 := cell_regrown k3
        have j4 := cell_regrown k4
        have j5 := cell_regrown k5
        have j6 := cell_regrown hco
        refine wp_region_quiet_below (by kernel_rfl) (by kernel_rfl) ?_
        repeat (quiet_step (exact cA _ _))
        refine wpQuiet_nil ?_
        intro w7 hw'
        obtain ⟨⟨dq, osq⟩, hw7⟩ := hw'
        have HI2 : Hid (ShI w t d es.length P.length kb (.slice (some ⟨g, 0, none⟩) t.ks.length cap) (kidPls n t.ks q t.ks.length) w7) := HI.out.keep (by rw [hw7]; exact below_regrown wr dq osq)
        clear hw7 cA j0 j1 j2 j3 j4 j5 j6 k0 k1 k2 k3 k4 k5 k6 kx hco HI
        go_wp2_with fail
        go_roundw
        case rel => exact ⟨j + 1, by omega, by go_num, HI2⟩
        case measure => simp [intOf]; omega
      · have hjl : j = t.ks.length := by omega
        subst hjl
        go_wp2_with fail
        go_ret
        exact ⟨rfl, HI.out.box.below⟩
end Go.Proofs.Ytcdfbbjakkmmoaa
