import Derived.Test.YthgcnmilaifkoaaGreatDoorRcOa1
import Derived.Test.YthgcnmilaifkoaaGreatDoorRcCopyO
import Derived.Test.YthgcnmilaifkoaaGreatDoorRcCopyS
import Derived.Test.YthgcnmilaifkoaaGreatDoorJOdd
import Derived.Test.YthgcnmilaifkoaaGreatDoorJSum
import Derived.Test.YthgcnmilaifkoaaGreatDoorJEqN
import Derived.Deep.RegionHeldLaw
/- Layer 13 (journal): the document's CopyOps and Copy. -/
namespace Go.Proofs.YthgcnmilaifkoaaGreatDoor
open Go.RowKit
set_option linter.unusedVariables false

theorem info_opz : (Tryz.prog.info? 47).map (fun i => (i.zero, i.size, i.bytes)) = some (some (.agg (oppZ.v (.slice none 0 0))), 21, 256) := by kernel_rfl
/-- The tags of an operation lie in memory of their own. -/
def TagO (w : World) (B : Nat) (x : OV) : Prop := w.ownsRow B 9 1 (.slice x.ta x.o.svc.tags.length x.tc) x.o.svc.tags.length (x.o.svc.tags.map Value.string)
/-- A list of operations in memory of its own. -/
structure OwnO (w : World) (B : Nat) (v : Value) (l : List OV) : Prop where
 row : w.ownsRow B 47 21 v l.length (ocs l)
 tags : ∀ x ∈ l, TagO w B x
theorem OwnO.below {w w' : World} {B : Nat} {v : Value} {l : List OV} (h : OwnO w B v l) (hb : Below w.heap.size w w') : OwnO w' B v l := ⟨row_below h.row hb, fun x hx => row_below (h.tags x hx) hb⟩
theorem OwnO.shape {w : World} {B : Nat} {v : Value} {l : List OV} (h : OwnO w B v l) : ∃ ao cap, v = .slice ao l.length cap := by
 obtain ⟨ao, cap, e, _⟩ := row_forms h.row
 exact ⟨ao, cap, e⟩
theorem OwnO.at {w : World} {B : Nat} {ao : Option Addr} {cap : Nat} {l : List OV} (h : OwnO w B (.slice ao l.length cap) l) : OpsAt w ao l := ⟨row_cells h.row, fun x hx => row_cells (h.tags x hx)⟩
theorem ocs_snoc (l : List OV) (x : OV) : ocs (l ++ [x]) = ocs l ++ x.v.toList := by simp [ocs]
theorem ocs_one (x : OV) : ∀ u ∈ x.v.toList, u.oneCell' = true := by
 intro u hu
 have := Array.all_eq_true_iff_forall_mem.1 (ov_one x) u (by simpa using hu)
 exact this
theorem OwnO.push {w w' : World} {B : Nat} {v v' : Value} {l : List OV} {x : OV} (h : OwnO w B v l) (hx : TagO w B x) (hr : w'.ownsRow B 47 21 v' (l.length + 1) (ocs l ++ x.v.toList)) (hg : Grew w w' v v') : OwnO w' B v' (l ++ [x]) := by
 refine ⟨by rw [ocs_snoc, List.length_append]; exact hr, fun y hy => ?_⟩
 have key : ∀ y, TagO w B y → TagO w' B y := fun y hy => row_grew hy hg (rows_ne hy h.row (by decide))
 rcases List.mem_append.1 hy with hy | hy
 ·exact key y (h.tags y hy)
 ·simp at hy
  subst hy
  exact key y hx

set_option maxRecDepth 100000 in
set_option maxHeartbeats 1000000 in
theorem wp_slice_ov {o : Oper} {a : Act} {W : World} {K : Act → World → Prop} {Q : Exit → Act → World → Prop} {x : Operand} {z : OV} (ho : o.op = .buildSlice 29 1 #[(0, x)]) (hx : a.eval x = .agg z.v) (h : K (a.put o.dst (.slice (some ⟨W.heap.size, 0, none⟩) 1 1)) (W.alloc (.cells z.v 47))) : o.wp Tryz.prog a W K Q := by
 have hr : (execOp a.eval o).run Tryz.prog W = .ok (.value (.slice (some ⟨W.heap.size, 0, none⟩) 1 1)) (W.alloc (.cells z.v 47)) := by
  obtain ⟨⟨kd, ⟨nn, na, n3, n4⟩, ⟨sn, si, sm, sp, tg, s6, s7⟩, ⟨cn, ci, cs, ct, ce, c6, c7⟩, cas, wt⟩, ta, tc⟩ := z
  simp only [OV.v, Opp.v] at hx ⊢
  generalize tg.length = tl at *
  unfold execOp
  simp only [ho, List.map_toArray, List.map_cons, List.map_nil, hx]
  go_simp
 unfold Oper.wp
 rw [hr]
 exact h

set_option maxRecDepth 100000 in
set_option maxHeartbeats 4000000 in
theorem copyOps_calls (ao : Option Addr) (c : Nat) (l : List OV) (w : World) (hl : l.length * 256 ≤ 140737488355328) (hlt : ∀ x ∈ l, x.o.svc.tags.length ≤ 8796093022207) (hat : OpsAt w ao l) :
  Calls Tryz.prog 14 #[.slice ao l.length c] w fun e w' => ∃ v l', e = .returned v ∧ ops l' = ops l ∧ OwnO w' w.heap.size v l' ∧ Below w.heap.size w w' := by
 have HAT : Hid (OpsAt w ao l) := hat
 have HLT : Hid (∀ k (h : k < l.length), (l[k]'h).o.svc.tags.length ≤ 8796093022207) := fun k h => hlt _ (List.getElem_mem h)
 clear hat hlt
 obtain ⟨n, Hn⟩ : ∃ x, Hid (x = l.length) := ⟨_, rfl⟩
 rw [← Hn.out] at hl ⊢
 obtain ⟨wx, Hwx⟩ : ∃ x, Hid (x = w.alloc (.cells #[] 47)) := ⟨_, rfl⟩
 have HO0 : Hid (OwnO wx w.heap.size (.slice (some ⟨w.heap.size, 0, none⟩) 0 0) []) := by
  rw [Hwx.out]
  exact ⟨World.ownsRow_lit (size := 21) w #[] 0 (Nat.le_refl _) (by unfold maxLen; omega) rfl, fun x hx => by cases hx⟩
 have HB0 : Hid (Below w.heap.size w wx) := by rw [Hwx.out]; exact below_new w _
 go_enter Tryz.func14, Tryz.ntmps14
 go_wp2_with fail
 rw [← Hwx.out]
 clear Hwx
 go_loopw [3, 9] (fun x i wr => ∃ (k : Nat) (m : List OV), k ≤ n ∧ i = .int .i64 k ∧ m.length = k ∧ Hid (ops m = ops (l.take k)) ∧ Hid (OwnO wr w.heap.size x m) ∧ Hid (Below w.heap.size w wr)) (fun _ i _ => n - (intOf i).toNat)
 case atStart => exact ⟨0, [], Nat.zero_le _, rfl, rfl, rfl, HO0, HB0⟩
 case round =>
  obtain ⟨k, m, hk, rfl, hml, HM, HO, HB⟩ := hrel
  clear HO0 HB0
  by_cases hlt : k < n
  ·have hkl : k < l.length := by rw [← Hn.out]; exact hlt
   obtain ⟨b, off, rfl, hrange⟩ := (HAT.out.below HB.out).at k hkl
   obtain ⟨y, Hy⟩ : ∃ y, Hid (y = l[k]'hkl) := ⟨_, rfl⟩
   have HTG : Hid (CellsAt wr y.ta (y.o.svc.tags.map Value.string)) := by rw [Hy.out]; exact (HAT.out.below HB.out).tags _ (List.getElem_mem hkl)
   have HLY : Hid (y.o.svc.tags.length ≤ 8796093022207) := by rw [Hy.out]; exact HLT.out k hkl
   have HRG : Hid (wr.rangeAt b (off + k * 21) y.v.toList) := by rw [Hy.out]; exact hrange
   have HM2 : Hid (∀ z : OV, z.o = y.o → ops (m ++ [z]) = ops (l.take (k + 1))) := fun z hz => by
    rw [ops_take l k hkl, ← HM.out, ← Hy.out, ← hz]
    simp [ops]
   clear Hy hkl hrange HM
   have hBr := HB.out.size
   go_upto_region 4 with fail
   iterate 5 go_step
   refine wp_load_ov rfl rfl HRG.out ?_
   iterate 5 go_step
   refine wp_store_op rfl rfl rfl rfl rfl rfl (ov_one _) ?_
   obtain ⟨w3, Hw3⟩ : ∃ x, Hid (x = wr.alloc (.cells y.v 47)) := ⟨_, rfl⟩
   have KB : Hid (Blk w3 wr.heap.size y.v 47) := by rw [Hw3.out]; exact Blk.new _ _ _
   have HO3 : Hid (OwnO w3 w.heap.size _ m) := HO.out.below (show Below wr.heap.size wr w3 by rw [Hw3.out]; exact below_new _ _)
   have HB3 : Hid (Below w.heap.size w w3) := by rw [Hw3.out]; exact HB.out.alloc hBr _
   have HT3 : Hid (CellsAt w3 y.ta (y.o.svc.tags.map Value.string)) := by rw [Hw3.out]; exact HTG.out.below (below_new _ _)
   rw [← Hw3.out]
   clear Hw3 HO HB HRG HTG
   go_upto_region 5 with fail
   iterate 5 go_step
   refine wp_get_op rfl KB.out rfl rfl ?_
   go_wp2_with fail
   refine (copyOp_calls y.o y.ta y.tc w3 HLY.out HT3.out).mono ?_
   rintro e w4 ⟨v4, rfl, ho4, hb4⟩
   have HB4 : Hid (Below w.heap.size w w4) := HB3.out.trans (hb4.mono HB3.out.size)
   have HO4 : Hid (OwnO w4 w.heap.size _ m) := HO3.out.below hb4
   obtain ⟨a4, c4, rfl, -⟩ := row_forms ho4
   obtain ⟨z, Hz⟩ : ∃ z : OV, Hid (z = ⟨y.o, a4, c4⟩) := ⟨_, rfl⟩
   have HZT : Hid (TagO w4 w.heap.size z) := by rw [Hz.out]; exact row_weak HB3.out.size ho4
   have HMZ : Hid (ops (m ++ [z]) = ops (l.take (k + 1))) := HM2.out z (by rw [Hz.out])
   have hvz : y.o.v (.slice a4 y.o.svc.tags.length c4) = z.v := by rw [Hz.out]; rfl
   rw [hvz]
   clear hb4 ho4 HO3 HB3 HT3 KB HM2 Hz hvz
   have HB4s := HB4.out.size
   have HR5 : Hid (∀ u, OwnO w4 w.heap.size u m → (w4.alloc (.cells z.v 47)).ownsRow w.heap.size 47 21 u k (ocs m)) := fun u hu => by
    have := row_below hu.row (below_new w4 (.cells z.v 47))
    rw [hml] at this
    exact this
   have HC5 : Hid (CellsAt (w4.alloc (.cells z.v 47)) (some ⟨w4.heap.size, 0, none⟩) z.v.toList) := by
    intro _
    refine ⟨w4.heap.size, 0, rfl, fun j u hj => ?_⟩
    rw [Nat.zero_add, World.cell?_alloc_mark]
    simpa using hj
   have hzl : z.v.toList.length = 1 * 21 := rfl
   have HZL : Hid (z.v.toList.length = 1 * 21) := hzl
   clear hzl
   dsimp only
   iterate 2 go_step
   refine wp_slice_ov rfl rfl ?_
   go_wp2_with (at_builtin; refine append_src _ rfl (.tmp 13) (.tmp 16) 29 47 _ 21 256 Tryz.underlying29 info_opz rfl (by decide) rfl w.heap.size _ k (ocs m) rfl (HR5.out _ HO4.out) (some ⟨w4.heap.size, 0, none⟩) 1 1 z.v.toList rfl HZL.out HC5.out (ocs_one z) (by unfold maxLen; omega) (by omega) (by simp; omega) ?_)
   intro v6 w6 ho6 hg6
   have hg6' := hg6.ofAlloc
   have HB6 : Hid (Below w.heap.size w w6) := HB4.out.trans (hg6'.toBelow HB4s fun q hq => (World.ownsRow.lt HO4.out.row q hq).1)
   have HO6 : Hid (OwnO w6 w.heap.size v6 (m ++ [z])) := HO4.out.push HZT.out (by rw [hml]; exact ho6) hg6'
   have hml2 : (m ++ [z]).length = k + 1 := by simp [hml]
   clear hg6 hg6' ho6 HO4 HB4 HB4s HZT HR5 HC5 HZL
   go_wp2
   go_roundw
   case rel => exact ⟨k + 1, m ++ [z], by omega, by go_num, hml2, HMZ, HO6, HB6⟩
   case measure => simp [intOf]; omega
  ·have HF : Hid (ops m = ops l) := by show _ = _; rw [HM.out, List.take_of_length_le (by rw [← Hn.out]; omega)]
   go_wp2
   go_ret
   exact ⟨_, m, rfl, HF.out, HO.out, HB.out⟩

end Go.Proofs.YthgcnmilaifkoaaGreatDoor

/- Layer 13 (journal): the document's Copy. -/
namespace Go.Proofs.YthgcnmilaifkoaaGreatDoor
open Go.RowKit
set_option linter.unusedVariables false

/-- A copy of an entry. -/
def CopE (w : World) (i : Int) (l : List OV) (e : Ending) (w' : World) : Prop := ∃ ao c l', e = .returned (.agg #[.int .u64 i, .slice ao l'.length c]) ∧ ops l' = ops l ∧ OwnO w' w.heap.size (.slice ao l'.length c) l' ∧ Below w.heap.size w w'
theorem load_ent {w : World} {g : Nat} {cs : Array Value} (h : Blk w g cs 31) (hs : cs.size = 2) : (loadVar 31 ⟨g, 0, none⟩).run Tryz.prog w = .ok (.agg cs) w :=
 run_loadVar_row (P := Tryz.prog) w g 31 31 cs (0, 0) _ h Tryz.underlying31 rfl (by rw [show (Tryz.prog.info? 31).map (·.size) = some 2 from by kernel_rfl, hs])
set_option maxRecDepth 100000 in
set_option maxHeartbeats 2000000 in
theorem copyE_calls (i : Int) (ao : Option Addr) (c : Nat) (l : List OV) (w : World) (hl : l.length * 256 ≤ 140737488355328) (hlt : ∀ x ∈ l, x.o.svc.tags.length ≤ 8796093022207) (hat : OpsAt w ao l) :
  Calls Tryz.prog 7 #[.agg #[.int .u64 i, .slice ao l.length c]] w fun e w' => CopE w i l e w' := by
 obtain ⟨n, Hn⟩ : ∃ x, Hid (x = l.length) := ⟨_, rfl⟩
 have HC : Hid (∀ w', Below w.heap.size w w' → Calls Tryz.prog 14 #[.slice ao n c] w' fun e w'' => ∃ v l', e = .returned v ∧ ops l' = ops l ∧ OwnO w'' w'.heap.size v l' ∧ Below w'.heap.size w' w'') := fun w' h => by
  have := copyOps_calls ao c l w' hl hlt (hat.below h)
  rw [← Hn.out] at this
  exact this
 rw [← Hn.out]
 clear hl hlt hat Hn
 obtain ⟨w2, Hw2⟩ : ∃ x, Hid (x = (w.alloc (.cells #[.int .u64 i, .slice ao n c] 31)).alloc (.cells #[.int .u64 0, .slice none 0 0] 31)) := ⟨_, rfl⟩
 have hz : (w.alloc (.cells #[.int .u64 i, .slice ao n c] 31)).heap.size = w.heap.size + 1 := size_new _ _
 have HX : Hid (Blk w2 w.heap.size #[.int .u64 i, .slice ao n c] 31) := by rw [Hw2.out]; exact (Blk.new _ _ _).alloc _
 have HY : Hid (Blk w2 (w.heap.size + 1) #[.int .u64 0, .slice none 0 0] 31) := by rw [Hw2.out, ← hz]; exact Blk.new _ _ _
 have HB : Hid (Below w.heap.size w w2) := by rw [Hw2.out]; exact (below_new w _).alloc (by rw [hz]; omega) _
 clear hz
 have c1 : w2.cell? ⟨w.heap.size, 1, none⟩ = some (.slice ao n c) := HX.out.cell 1 rfl
 go_enter Tryz.func7, Tryz.ntmps7
 go_upto_region 1 with fail
 rw [← Hw2.out]
 clear Hw2
 go_wp2_with fail
 refine (HC.out w2 HB.out).mono ?_
 rintro e w3 ⟨v3, l3, rfl, hops, ho3, hb3⟩
 have HX3 : Hid (Blk w3 w.heap.size #[.int .u64 i, .slice ao n c] 31) := HX.out.below hb3
 have HY3 : Hid (Blk w3 (w.heap.size + 1) #[.int .u64 0, .slice none 0 0] 31) := HY.out.below hb3
 have HB3 : Hid (Below w.heap.size w w3) := HB.out.trans (hb3.mono HB.out.size)
 have HO3 : Hid (OwnO w3 w.heap.size v3 l3) := ⟨row_weak HB.out.size ho3.row, fun x hx => row_weak HB.out.size (ho3.tags x hx)⟩
 have HOP : Hid (ops l3 = ops l) := hops
 obtain ⟨a3, k3, rfl⟩ := HO3.out.shape
 clear hb3 ho3 hops HX HY HB HC c1
 obtain ⟨n3, Hn3⟩ : ∃ x, Hid (x = l3.length) := ⟨_, rfl⟩
 rw [← Hn3.out] at HO3 ⊢
 obtain ⟨w4, Hw4⟩ : ∃ x, Hid (x = w3.setCell ⟨w.heap.size, 1, none⟩ (.slice a3 n3 k3)) := ⟨_, rfl⟩
 have HX4 : Hid (Blk w4 w.heap.size #[.int .u64 i, .slice a3 n3 k3] 31) := by rw [Hw4.out]; exact HX3.out.put 1 _
 have HY4 : Hid (Blk w4 (w.heap.size + 1) #[.int .u64 0, .slice none 0 0] 31) := by rw [Hw4.out]; exact HY3.out.off (a := ⟨w.heap.size, 1, none⟩) (by simp) _
 have HB4 : Hid (Below w.heap.size w w4) := by rw [Hw4.out]; exact HB3.out.setCell (p := ⟨w.heap.size, 1, none⟩) (Nat.le_refl _) _
 have HO4 : Hid (OwnO w4 w.heap.size (.slice a3 n3 k3) l3) := by
  rw [Hw4.out]
  exact ⟨rowN_set1 HX3.out (by decide) HO3.out.row _, fun x hx => rowN_set1 HX3.out (by decide) (HO3.out.tags x hx) _⟩
 have x1 := HX3.out.cell 1 rfl
 have f1 := HX3.out.open 1
 dsimp only
 go_upto_region 2 with fail
 rw [← Hw4.out]
 clear Hw4 HX3 HY3 HB3 HO3 x1 f1
 have z0 := HX4.out.cell 0 rfl
 have z1 := HX4.out.cell 1 rfl
 have y0 := HY4.out.cell 0 rfl
 have y1 := HY4.out.cell 1 rfl
 have f0 := HY4.out.open 0
 have f1 := HY4.out.open 1
 obtain ⟨w5, Hw5⟩ : ∃ x, Hid (x = putC w4 (w.heap.size + 1) 0 [.int .u64 i, .slice a3 n3 k3]) := ⟨_, rfl⟩
 have HY5 : Hid (Blk w5 (w.heap.size + 1) #[.int .u64 i, .slice a3 n3 k3] 31) := by rw [Hw5.out]; exact putC_all HY4.out rfl
 have HB5 : Hid (Below w.heap.size w w5) := by rw [Hw5.out]; exact putC_below _ _ _ HB4.out (by omega)
 have HO5 : Hid (OwnO w5 w.heap.size (.slice a3 n3 k3) l3) := by
  rw [Hw5.out]
  exact ⟨row_putK HY4.out (by decide) HO4.out.row _ _, fun x hx => row_putK HY4.out (by decide) (HO4.out.tags x hx) _ _⟩
 have HLd : Hid ((loadVar 31 ⟨(w.heap.size + 1), 0, none⟩).run Tryz.prog w5 = .ok (.agg #[.int .u64 i, .slice a3 n3 k3]) w5) := load_ent HY5.out rfl
 go_wp2
 change bodyPost _ _ _ _ _ (putC w4 (w.heap.size + 1) 0 [.int .u64 i, .slice a3 n3 k3])
 rw [← Hw5.out]
 exact ret_box1 (g := w.heap.size + 1) (w := w5) rfl rfl rfl HLd.out ⟨a3, k3, l3, by rw [← Hn3.out], HOP.out, by rw [← Hn3.out]; exact HO5.out, HB5.out⟩
end Go.Proofs.YthgcnmilaifkoaaGreatDoor

/- Layer 13 (journal): readPayload. -/
namespace Go.Proofs.YthgcnmilaifkoaaGreatDoor
open Go.RowKit
set_option linter.unusedVariables false

theorem step_append_ov {ops : Array Oper} {o : Oper} {a : Act} {W : World} {K : Act → World → Prop} {Q : Exit → Act → World → Prop} {E : Prop} (s x : Operand) (z : OV) {B n : Nat} {v : Value} {l : List Value} (W1 : World) (hW : W = W1.alloc (.cells z.v 47)) (hgd : o.guard = none) (ho : o.op = .call { callee := .builtin .append, args := #[s, x], argTypes := #[29, 29] })
  (hs : a.eval s = v) (hown : W1.ownsRow B 47 21 v n l) (hx : a.eval x = .slice (some ⟨W1.heap.size, 0, none⟩) 1 1) (hlen : (n + 1) * 256 ≤ 140737488355328) (hB : B ≤ W1.heap.size)
  (h : ∀ v' w', w'.ownsRow B 47 21 v' (n + 1) (l ++ z.v.toList) → Grew W1 w' v v' → K (a.put o.dst v') w') :
  if Region.wanted o (yielded ops a.tmps) = true then Oper.wp Tryz.prog o a W K Q else E := by
 subst hW
 have hw : Region.wanted o (yielded ops a.tmps) = true := by simp [Region.wanted, hgd]
 rw [if_pos hw]
 obtain ⟨i0, hi, hz0, hz1, hz2⟩ := info_parts info_opz
 obtain ⟨v', w', hr, h2, h3, _⟩ := run_append_grew (P := Tryz.prog) (W1.alloc (.cells z.v 47)) B 29 o.type 47 i0 _ 21 256 Tryz.underlying29 hi hz0 hz1 hz2 rfl (by decide) v n l (row_below hown (below_new _ _)) ⟨W1.heap.size, 0, none⟩ 1 1 z.v.toList rfl (fun j u hj => by
  rw [Addr.add_mid, Nat.zero_add, World.cell?_alloc_mark]
  simpa using hj) (ocs_one z) (by unfold maxLen; omega) (by omega) (by simp; omega)
 unfold Oper.wp execOp
 simp only [ho, resolve, invoke, builtin, Sem.run_bind, Sem.run_pure, Result.andThen_ok, List.map_toArray, List.map_cons, List.map_nil, hs, hx, hr]
 exact h v' w' h2 h3.ofAlloc

/-- What stands between two rounds of readPayload. -/
structure RpI (w W0 : World) (rb g2 ge : Nat) (i : Int) (v : Value) (m : List OV) (s : Rd) (W : World) : Prop where
 rd : Rdd W0 rb s W
 e : Blk W ge #[.int .u64 i, v] 31
 z : Blk W g2 #[.int .u64 0, .slice none 0 0] 31
 own : OwnO W W0.heap.size v m
 bl : Below w.heap.size w W
 len : s.1.length ≤ 140737488355328
structure RpG (w W0 : World) (rb g2 ge : Nat) : Prop where
 rb0 : w.heap.size ≤ rb
 rb1 : rb < W0.heap.size
 g20 : w.heap.size ≤ g2
 g21 : g2 < W0.heap.size
 g2r : g2 ≠ rb
 ge0 : W0.heap.size ≤ ge
 w0 : w.heap.size ≤ W0.heap.size
theorem drew_below (W : World) : Below W.heap.size W W.drew := ⟨rfl, rfl, rfl, Nat.le_refl _, fun _ _ => rfl⟩
theorem below_grown1 {B : Nat} {a b c : World} {r : Nat} (h : Below B a b) (hB : B ≤ a.heap.size) (hr : B ≤ r) (hg : b.grownBy c (some r)) : Below B a c :=
 ⟨hg.os.trans h.os, hg.tape.trans h.tape, hg.output.trans h.output, Nat.le_trans h.size hg.size, fun k hk => (hg.block k (by have := h.size; omega) (by simp; omega)).trans (h.block k hk)⟩
theorem RpI.read {w W0 : World} {rb g2 ge : Nat} {i : Int} {v : Value} {m : List OV} {s s' : Rd} {W W' : World} (G : RpG w W0 rb g2 ge) (h : RpI w W0 rb g2 ge i v m s W) (hl : s'.1.length ≤ s.1.length) (hr : Rdd W rb s' W') : RpI w W0 rb g2 ge i v m s' W' := by
 obtain ⟨cs, hb⟩ := h.rd.at'.blk
 exact ⟨h.rd.trans hr, h.e.grown hr.grown (by have := G.ge0; have := G.rb1; omega), h.z.grown hr.grown G.g2r, ⟨row_grown h.own.row hb (by decide) hr.grown, fun x hx => row_grown (h.own.tags x hx) hb (by decide) hr.grown⟩,
  below_grown1 h.bl (Nat.le_refl _) G.rb0 hr.grown, Nat.le_trans hl h.len⟩
theorem RpI.below {w W0 : World} {rb g2 ge : Nat} {i : Int} {v : Value} {m : List OV} {s : Rd} {W W' : World} (h : RpI w W0 rb g2 ge i v m s W) (hb : Below W.heap.size W W') : RpI w W0 rb g2 ge i v m s W' :=
 ⟨h.rd.below hb, h.e.below hb, h.z.below hb, h.own.below hb, h.bl.trans (hb.mono h.bl.size), h.len⟩
theorem RpI.push {w W0 : World} {rb g2 ge : Nat} {i : Int} {v v7 : Value} {m : List OV} {s : Rd} {W w7 : World} {z : OV} (G : RpG w W0 rb g2 ge) (h : RpI w W0 rb g2 ge i v m s W) (ht : TagO W W0.heap.size z) (ho : w7.ownsRow W0.heap.size 47 21 v7 (m.length + 1) (ocs m ++ z.v.toList)) (hg : Grew W w7 v v7) : RpI w W0 rb g2 ge i v7 (m ++ [z]) s (w7.setCell ⟨ge, 1, none⟩ v7) := by
 have hE : Blk w7 ge #[.int .u64 i, v] 31 := row_grewB h.e h.own.row hg (by decide)
 have hZ : Blk w7 g2 #[.int .u64 0, .slice none 0 0] 31 := row_grewB h.z h.own.row hg (by decide)
 have hO : OwnO w7 W0.heap.size v7 (m ++ [z]) := h.own.push ht ho hg
 have hR : Rdd W0 rb s w7 := h.rd.grow G.rb1 h.own.row (Nat.le_refl _) hg
 have hsz := h.bl.size
 have hB : Below w.heap.size w w7 := h.bl.trans (hg.toBelow hsz fun k hk => Nat.le_trans G.w0 (World.ownsRow.lt h.own.row k hk).1)
 refine ⟨hR.over G.rb1 ((Below.refl _ _).setCell (p := ⟨ge, 1, none⟩) G.ge0 _), ?_, hZ.off (a := ⟨ge, 1, none⟩) (by have := G.ge0; have := G.g21; simp; omega) _, ⟨rowN_set1 hE (by decide) hO.row _, fun x hx => rowN_set1 hE (by decide) (hO.tags x hx) _⟩, hB.setCell (p := ⟨ge, 1, none⟩) (by have := G.ge0; have := G.w0; simp; omega) _, h.len⟩
 have := hE.put 1 v7
 simpa using this
theorem RpI.pushK {w W0 : World} {rb g2 ge k : Nat} {i : Int} {v v7 : Value} {m : List OV} {s : Rd} {W w7 : World} {z : OV} (h : RpI w W0 rb g2 ge i v m s W) (hk : m.length = k) (G : RpG w W0 rb g2 ge) (ht : TagO W W0.heap.size z) (ho : w7.ownsRow W0.heap.size 47 21 v7 (k + 1) (ocs m ++ z.v.toList)) (hg : Grew W w7 v v7) : RpI w W0 rb g2 ge i v7 (m ++ [z]) s (w7.setCell ⟨ge, 1, none⟩ v7) := h.push G ht (by rw [hk]; exact ho) hg
theorem own_row {W : World} {B k : Nat} {v : Value} {m : List OV} (hk : m.length = k) (h : OwnO W B v m) : W.ownsRow B 47 21 v k (ocs m) := by
 have := h.row
 rw [hk] at this
 exact this
/-- op's answer, by its parts. -/
def opQ (k : Nat) (cb : Bool) (cw : Nat) (a b d e f g : Rd) (ts : List ByteArray × Rd) (po st : Nat) : Opp × Rd :=
 if k = 1 then (⟨k, ⟨txt a, txt b, 0, 0⟩, svcZ, chkZ, cb, cw⟩, d)
 else if k = 2 then (⟨k, nodeZ, ⟨txt a, txt b, txt d, po, ts.1, 0, 0⟩, chkZ, cb, cw⟩, ts.2)
 else if k = 3 then (⟨k, nodeZ, svcZ, ⟨txt a, txt b, txt d, st, txt f, 0, 0⟩, cb, cw⟩, g)
 else if k = 4 then (⟨k, ⟨txt a, ⟨#[]⟩, 0, 0⟩, svcZ, chkZ, cb, cw⟩, b)
 else if k = 5 then (⟨k, nodeZ, ⟨txt a, txt b, ⟨#[]⟩, 0, [], 0, 0⟩, chkZ, cb, cw⟩, d)
 else if k = 6 then (⟨k, nodeZ, svcZ, ⟨txt a, txt b, ⟨#[]⟩, 0, ⟨#[]⟩, 0, 0⟩, cb, cw⟩, d)
 else (⟨k, nodeZ, svcZ, chkZ, cb, cw⟩, a)
theorem opP_Q (s : Rd) : opP s = opQ (smlB s) (casP (tkS 1 s)).1.1 (casP (tkS 1 s)).1.2 (casP (tkS 1 s)).2 (txS (casP (tkS 1 s)).2) (txS (txS (casP (tkS 1 s)).2)) (txS (txS (txS (casP (tkS 1 s)).2))) (tkS 1 (txS (txS (txS (casP (tkS 1 s)).2)))) (txS (tkS 1 (txS (txS (txS (casP (tkS 1 s)).2))))) (textsP (tkS 2 (txS (txS (txS (casP (tkS 1 s)).2))))) (unbig (tkB 2 (txS (txS (txS (casP (tkS 1 s)).2))))) (smlB (txS (txS (txS (casP (tkS 1 s)).2)))) := by
 unfold opP opQ
 rfl
theorem opQ_len {k : Nat} {cb : Bool} {cw : Nat} {a b d e f g : Rd} {ts : List ByteArray × Rd} {po st N : Nat} (ha : a.1.length ≤ N) (hb : b.1.length ≤ N) (hd : d.1.length ≤ N) (hg : g.1.length ≤ N) (ht : ts.2.1.length ≤ N) : (opQ k cb cw a b d e f g ts po st).2.1.length ≤ N := by
 unfold opQ
 repeat' split
 all_goals assumption
theorem opP_len (s : Rd) : (opP s).2.1.length ≤ s.1.length := by
 have a := Nat.le_trans (casP_len (tkS 1 s)) (tkS_len 1 s)
 have t := Nat.le_trans (txS_len (casP (tkS 1 s)).2) a
 have t2 := Nat.le_trans (txS_len (txS (casP (tkS 1 s)).2)) t
 have t3 := Nat.le_trans (txS_len (txS (txS (casP (tkS 1 s)).2))) t2
 have t4 := Nat.le_trans (tkS_len 2 (txS (txS (txS (casP (tkS 1 s)).2)))) t3
 have t5 := Nat.le_trans (textsP_len (tkS 2 (txS (txS (txS (casP (tkS 1 s)).2))))) t4
 have t6 := Nat.le_trans (tkS_len 1 (txS (txS (txS (casP (tkS 1 s)).2)))) t3
 have t7 := Nat.le_trans (txS_len (tkS 1 (txS (txS (txS (casP (tkS 1 s)).2))))) t6
 rw [opP_Q]
 exact opQ_len a t t2 t7 t5
theorem txt_le (s : Rd) : (txt s).size ≤ 255 := by
 have h1 := tkB_len (smlB s) (tkS 1 s)
 have h2 := smlB_lt s
 show (txB s).toArray.size ≤ 255
 simp only [List.size_toArray]
 unfold txB
 omega
theorem txsP_le : ∀ (n : Nat) (s : Rd), ∀ t ∈ (txsP n s).1, t.size ≤ 255
 | 0, s, t, h => by simp [txsP] at h
 | n + 1, s, t, h => by
  simp only [txsP, List.mem_append, List.mem_singleton] at h
  rcases h with h | rfl
  ·exact txsP_le n s t h
  ·exact txt_le _
theorem unbigK_le (k : Nat) (s : Rd) : (unbig (tkB k s) : Nat) < 256 ^ k := unbig_le _ k (tkB_len k s)
theorem casP_le (s : Rd) : (casP s).1.2 ≤ 18446744073709551615 := by
 unfold casP
 split
 ·exact Nat.zero_le _
 split
 ·have := unbigK_le 8 (tkS 1 s)
  show unbig (tkB 8 (tkS 1 s)) ≤ _
  omega
 ·exact Nat.zero_le _
theorem opQ_ok {k : Nat} {cb : Bool} {cw : Nat} {a b d e f g : Rd} {ts : List ByteArray × Rd} {po st : Nat} (hc : cw ≤ 18446744073709551615) (hl : ts.1.length ≤ 255) (ht : ∀ t ∈ ts.1, t.size ≤ 255) : (opQ k cb cw a b d e f g ts po st).1.small ∧ (opQ k cb cw a b d e f g ts po st).1.svc.tags.length ≤ 255 ∧ (opQ k cb cw a b d e f g ts po st).1.rng := by
 have tl : ∀ x : Rd, (txt x).size ≤ 140737488351296 := fun x => Nat.le_trans (txt_le x) (by decide)
 have z : (⟨#[]⟩ : ByteArray).size ≤ 140737488351296 := Nat.zero_le _
 have hrng : ∀ (k : Int) (n : Nd) (v : Sp) (c : Ck), (⟨k, n, v, c, cb, (cw : Nat)⟩ : Opp).rng := fun k n v c => ⟨by show (0 : Int) ≤ (cw : Nat); omega, by show ((cw : Nat) : Int) ≤ _; omega⟩
 have ht2 : ∀ t ∈ ts.1, t.size ≤ 140737488351296 := fun t h => Nat.le_trans (ht t h) (by decide)
 have sZ : svcZ.small := ⟨by decide, by decide, by decide, by decide, fun x hx => by cases hx⟩
 have cZ : chkZ.small := ⟨by decide, by decide, by decide, by decide⟩
 unfold opQ
 split
 ·exact ⟨⟨tl _, tl _, sZ, cZ⟩, Nat.zero_le _, hrng _ _ _ _⟩
 split
 ·exact ⟨⟨z, z, ⟨tl _, tl _, tl _, Nat.le_trans hl (by decide), ht2⟩, cZ⟩, hl, hrng _ _ _ _⟩
 split
 ·exact ⟨⟨z, z, sZ, ⟨tl _, tl _, tl _, tl _⟩⟩, Nat.zero_le _, hrng _ _ _ _⟩
 split
 ·exact ⟨⟨tl _, z, sZ, cZ⟩, Nat.zero_le _, hrng _ _ _ _⟩
 split
 ·exact ⟨⟨z, z, ⟨tl _, tl _, z, Nat.zero_le _, fun x hx => by cases hx⟩, cZ⟩, Nat.zero_le _, hrng _ _ _ _⟩
 split
 ·exact ⟨⟨z, z, sZ, ⟨tl _, tl _, z, z⟩⟩, Nat.zero_le _, hrng _ _ _ _⟩
 ·exact ⟨⟨z, z, sZ, cZ⟩, Nat.zero_le _, hrng _ _ _ _⟩
theorem textsP_le (x : Rd) : (textsP x).1.length ≤ 255 ∧ ∀ t ∈ (textsP x).1, t.size ≤ 255 := by
 have h1 := (txsP_len (smlB x) (tkS 1 x)).1
 have h2 := smlB_lt x
 exact ⟨by unfold textsP; omega, txsP_le _ _⟩
theorem opP_ok (s : Rd) : (opP s).1.small ∧ (opP s).1.svc.tags.length ≤ 255 ∧ (opP s).1.rng := by
 rw [opP_Q]
 exact opQ_ok (casP_le _) (textsP_le _).1 (textsP_le _).2
theorem opsP_ok : ∀ (n : Nat) (s : Rd), (∀ o ∈ (opsP n s).1, o.small ∧ o.svc.tags.length ≤ 255 ∧ o.rng) ∧ (opsP n s).1.length = n ∧ (opsP n s).2.1.length ≤ s.1.length
 | 0, s => ⟨fun o h => by simp [opsP] at h, rfl, Nat.le_refl _⟩
 | n + 1, s => by
  obtain ⟨h1, h2, h3⟩ := opsP_ok n s
  refine ⟨fun o h => ?_, by simp [opsP, h2], Nat.le_trans (opP_len _) h3⟩
  simp only [opsP, List.mem_append, List.mem_singleton] at h
  rcases h with h | rfl
  ·exact h1 o h
  ·exact opP_ok _
end Go.Proofs.YthgcnmilaifkoaaGreatDoor
