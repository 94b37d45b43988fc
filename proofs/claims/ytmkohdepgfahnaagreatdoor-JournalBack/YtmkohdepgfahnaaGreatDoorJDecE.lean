import Derived.Test.YtmkohdepgfahnaaGreatDoorJOps
import Derived.Test.YtmkohdepgfahnaaGreatDoorRcCopyO
import Derived.Test.YtmkohdepgfahnaaGreatDoorRcSameT
import Derived.Test.YtmkohdepgfahnaaGreatDoorRcOpC
import Derived.Test.YtmkohdepgfahnaaGreatDoorJPayOf
/- Layer 13 (journal): the document's CopyOps and Copy. -/
namespace Go.Proofs.YtmkohdepgfahnaaGreatDoor
open Go.RowKit
set_option linter.unusedVariables false

theorem info_opz : (Tryz.prog.info? 55).map (fun i => (i.zero, i.size, i.bytes)) = some (some (.agg (oppZ.v (.slice none 0 0))), 21, 256) := by kernel_rfl
/-- The tags of an operation lie in memory of their own. -/
def TagO (w : World) (B : Nat) (x : OV) : Prop := w.ownsRow B 9 1 (.slice x.ta x.o.svc.tags.length x.tc) x.o.svc.tags.length (x.o.svc.tags.map Value.string)
/-- A list of operations in memory of its own. -/
structure OwnO (w : World) (B : Nat) (v : Value) (l : List OV) : Prop where
  row : w.ownsRow B 55 21 v l.length (ocs l)
  tags : ∀ x ∈ l, TagO w B x
theorem OwnO.below {w w' : World} {B : Nat} {v : Value} {l : List OV} (h : OwnO w B v l) (hb : Below w.heap.size w w') : OwnO w' B v l := ⟨row_below h.row hb, fun x hx => row_below (h.tags x hx) hb⟩
theorem OwnO.shape {w : World} {B : Nat} {v : Value} {l : List OV} (h : OwnO w B v l) : ∃ ao cap, v = .slice ao l.length cap := by
  obtain ⟨ao, cap, e, _⟩ := row_forms h.row
  exact ⟨ao, cap, e⟩
theorem OwnO.at {w : World} {B : Nat} {ao : Option Addr} {cap : Nat} {l : List OV} (h : OwnO w B (.slice ao l.length cap) l) : OpsAt w ao l := ⟨row_cells h.row, fun x hx => row_cells (h.tags x hx)⟩
theorem ocs_snoc (l : List OV) (x : OV) : ocs (l ++ [x]) = ocs l ++ x.v.toList := by simp [ocs]
theorem ocs_one (x : OV) : ∀ u ∈ x.v.toList, u.oneCell' = true := by
  intro u hu
  have := Array.all_eq_true_iff_forall_mem.1 (ov_one x) u (by simpa using hu)
  exact this
theorem OwnO.push {w w' : World} {B : Nat} {v v' : Value} {l : List OV} {x : OV} (h : OwnO w B v l) (hx : TagO w B x) (hr : w'.ownsRow B 55 21 v' (l.length + 1) (ocs l ++ x.v.toList)) (hg : Grew w w' v v') : OwnO w' B v' (l ++ [x]) := by
  refine ⟨by rw [ocs_snoc, List.length_append]; exact hr, fun y hy => ?_⟩
  have key : ∀ y, TagO w B y → TagO w' B y := fun y hy => row_grew hy hg (rows_ne hy h.row (by decide))
  rcases List.mem_append.1 hy with hy | hy
  · exact key y (h.tags y hy)
  · simp at hy
    subst hy
    exact key y hx

set_option maxRecDepth 100000 in
set_option maxHeartbeats 1000000 in
theorem wp_slice_ov {o : Oper} {a : Act} {W : World} {K : Act → World → Prop} {Q : Exit → Act → World → Prop} {x : Operand} {z : OV} (ho : o.op = .buildSlice 29 1 #[(0, x)]) (hx : a.eval x = .agg z.v) (h : K (a.put o.dst (.slice (some ⟨W.heap.size, 0, none⟩) 1 1)) (W.alloc (.cells z.v 55))) : o.wp Tryz.prog a W K Q := by
  have hr : (execOp a.eval o).run Tryz.prog W = .ok (.value (.slice (some ⟨W.heap.size, 0, none⟩) 1 1)) (W.alloc (.cells z.v 55)) := by
    obtain ⟨⟨kd, ⟨nn, na, n3, n4⟩, ⟨sn, si, sm, sp, tg, s6, s7⟩, ⟨cn, ci, cs, ct, ce, c6, c7⟩, cas, wt⟩, ta, tc⟩ := z
    simp only [OV.v, Opp.v] at hx ⊢
    generalize tg.length = tl at *
    unfold execOp
    simp only [ho, List.map_toArray, List.map_cons, List.map_nil, hx]
    go_simp
  unfold Oper.wp
  rw [hr]
  exact h

set_option maxRecDepth 100000 in
set_option maxHeartbeats 4000000 in
theorem copyOps_calls (ao : Option Addr) (c : Nat) (l : List OV) (w : World) (hl : l.length * 256 ≤ 140737488355328) (hlt : ∀ x ∈ l, x.o.svc.tags.length ≤ 8796093022207) (hat : OpsAt w ao l) :
    Calls Tryz.prog 19 #[.slice ao l.length c] w fun e w' => ∃ v l', e = .returned v ∧ ops l' = ops l ∧ OwnO w' w.heap.size v l' ∧ Below w.heap.size w w' := by
  have HAT : Hid (OpsAt w ao l) := hat
  have HLT : Hid (∀ k (h : k < l.length), (l[k]'h).o.svc.tags.length ≤ 8796093022207) := fun k h => hlt _ (List.getElem_mem h)
  clear hat hlt
  obtain ⟨n, Hn⟩ : ∃ x, Hid (x = l.length) := ⟨_, rfl⟩
  rw [← Hn.out] at hl ⊢
  obtain ⟨wx, Hwx⟩ : ∃ x, Hid (x = w.alloc (.cells #[] 55)) := ⟨_, rfl⟩
  have HO0 : Hid (OwnO wx w.heap.size (.slice (some ⟨w.heap.size, 0, none⟩) 0 0) []) := by
    rw [Hwx.out]
    exact ⟨World.ownsRow_lit (size := 21) w #[] 0 (Nat.le_refl _) (by unfold maxLen; omega) rfl, fun x hx => by cases hx⟩
  have HB0 : Hid (Below w.heap.size w wx) := by rw [Hwx.out]; exact below_new w _
  go_enter Tryz.func19, Tryz.ntmps19
  go_wp2_with fail
  rw [← Hwx.out]
  clear Hwx
  go_loopw [3, 9] (fun x i wr => ∃ (k : Nat) (m : List OV), k ≤ n ∧ i = .int .i64 k ∧ m.length = k ∧ Hid (ops m = ops (l.take k)) ∧ Hid (OwnO wr w.heap.size x m) ∧ Hid (Below w.heap.size w wr)) (fun _ i _ => n - (intOf i).toNat)
  case atStart => exact ⟨0, [], Nat.zero_le _, rfl, rfl, rfl, HO0, HB0⟩
  case round =>
    obtain ⟨k, m, hk, rfl, hml, HM, HO, HB⟩ := hrel
    clear HO0 HB0
    by_cases hlt : k < n
    · have hkl : k < l.length := by rw [← Hn.out]; exact hlt
      obtain ⟨b, off, rfl, hrange⟩ := (HAT.out.below HB.out).at k hkl
      obtain ⟨y, Hy⟩ : ∃ y, Hid (y = l[k]'hkl) := ⟨_, rfl⟩
      have HTG : Hid (CellsAt wr y.ta (y.o.svc.tags.map Value.string)) := by rw [Hy.out]; exact (HAT.out.below HB.out).tags _ (List.getElem_mem hkl)
      have HLY : Hid (y.o.svc.tags.length ≤ 8796093022207) := by rw [Hy.out]; exact HLT.out k hkl
      have HRG : Hid (wr.rangeAt b (off + k * 21) y.v.toList) := by rw [Hy.out]; exact hrange
      have HM2 : Hid (∀ z : OV, z.o = y.o → ops (m ++ [z]) = ops (l.take (k + 1))) := fun z hz => by
        rw [ops_take l k hkl, ← HM.out, ← Hy.out, ← hz]
        simp [ops]
      clear Hy hkl hrange HM
      have hBr := HB.out.size
      go_upto_region 4 with fail
      iterate 5 go_step
      refine wp_load_ov rfl rfl HRG.out ?_
      iterate 5 go_step
      refine wp_store_op rfl rfl rfl rfl rfl rfl (ov_one _) ?_
      obtain ⟨w3, Hw3⟩ : ∃ x, Hid (x = wr.alloc (.cells y.v 55)) := ⟨_, rfl⟩
      have KB : Hid (Blk w3 wr.heap.size y.v 55) := by rw [Hw3.out]; exact Blk.new _ _ _
      have HO3 : Hid (OwnO w3 w.heap.size _ m) := HO.out.below (show Below wr.heap.size wr w3 by rw [Hw3.out]; exact below_new _ _)
      have HB3 : Hid (Below w.heap.size w w3) := by rw [Hw3.out]; exact HB.out.alloc hBr _
      have HT3 : Hid (CellsAt w3 y.ta (y.o.svc.tags.map Value.string)) := by rw [Hw3.out]; exact HTG.out.below (below_new _ _)
      rw [← Hw3.out]
      clear Hw3 HO HB HRG HTG
      go_upto_region 5 with fail
      iterate 5 go_step
      refine wp_get_op rfl KB.out rfl rfl ?_
      go_wp2_with fail
      refine (copyOp_calls y.o y.ta y.tc w3 HLY.out HT3.out).mono ?_
      rintro e w4 ⟨v4, rfl, ho4, hb4⟩
      have HB4 : Hid (Below w.heap.size w w4) := HB3.out.trans (hb4.mono HB3.out.size)
      have HO4 : Hid (OwnO w4 w.heap.size _ m) := HO3.out.below hb4
      obtain ⟨a4, c4, rfl, -⟩ := row_forms ho4
      obtain ⟨z, Hz⟩ : ∃ z : OV, Hid (z = ⟨y.o, a4, c4⟩) := ⟨_, rfl⟩
      have HZT : Hid (TagO w4 w.heap.size z) := by rw [Hz.out]; exact row_weak HB3.out.size ho4
      have HMZ : Hid (ops (m ++ [z]) = ops (l.take (k + 1))) := HM2.out z (by rw [Hz.out])
      have hvz : y.o.v (.slice a4 y.o.svc.tags.length c4) = z.v := by rw [Hz.out]; rfl
      rw [hvz]
      clear hb4 ho4 HO3 HB3 HT3 KB HM2 Hz hvz
      have HB4s := HB4.out.size
      have HR5 : Hid (∀ u, OwnO w4 w.heap.size u m → (w4.alloc (.cells z.v 55)).ownsRow w.heap.size 55 21 u k (ocs m)) := fun u hu => by
        have := row_below hu.row (below_new w4 (.cells z.v 55))
        rw [hml] at this
        exact this
      have HC5 : Hid (CellsAt (w4.alloc (.cells z.v 55)) (some ⟨w4.heap.size, 0, none⟩) z.v.toList) := by
        intro _
        refine ⟨w4.heap.size, 0, rfl, fun j u hj => ?_⟩
        rw [Nat.zero_add, World.cell?_alloc_mark]
        simpa using hj
      have hzl : z.v.toList.length = 1 * 21 := rfl
      have HZL : Hid (z.v.toList.length = 1 * 21) := hzl
      clear hzl
      dsimp only
      iterate 2 go_step
      refine wp_slice_ov rfl rfl ?_
      go_wp2_with (at_builtin; refine append_src _ rfl (.tmp 13) (.tmp 16) 29 55 _ 21 256 Tryz.underlying29 info_opz rfl (by decide) rfl w.heap.size _ k (ocs m) rfl (HR5.out _ HO4.out) (some ⟨w4.heap.size, 0, none⟩) 1 1 z.v.toList rfl HZL.out HC5.out (ocs_one z) (by unfold maxLen; omega) (by omega) (by simp; omega) ?_)
      intro v6 w6 ho6 hg6
      have hg6' := hg6.ofAlloc
      have HB6 : Hid (Below w.heap.size w w6) := HB4.out.trans (hg6'.toBelow HB4s fun q hq => (World.ownsRow.lt HO4.out.row q hq).1)
      have HO6 : Hid (OwnO w6 w.heap.size v6 (m ++ [z])) := HO4.out.push HZT.out (by rw [hml]; exact ho6) hg6'
      have hml2 : (m ++ [z]).length = k + 1 := by simp [hml]
      clear hg6 hg6' ho6 HO4 HB4 HB4s HZT HR5 HC5 HZL
      go_wp2
      go_roundw
      case rel => exact ⟨k + 1, m ++ [z], by omega, by go_num, hml2, HMZ, HO6, HB6⟩
      case measure => simp [intOf]; omega
    · have HF : Hid (ops m = ops l) := by show _ = _; rw [HM.out, List.take_of_length_le (by rw [← Hn.out]; omega)]
      go_wp2
      go_ret
      exact ⟨_, m, rfl, HF.out, HO.out, HB.out⟩

end Go.Proofs.YtmkohdepgfahnaaGreatDoor

/- Layer 13 (journal): the document's Copy. -/
namespace Go.Proofs.YtmkohdepgfahnaaGreatDoor
open Go.RowKit
set_option linter.unusedVariables false

/-- A copy of an entry. -/
def CopE (w : World) (i : Int) (l : List OV) (e : Ending) (w' : World) : Prop := ∃ ao c l', e = .returned (.agg #[.int .u64 i, .slice ao l'.length c]) ∧ ops l' = ops l ∧ OwnO w' w.heap.size (.slice ao l'.length c) l' ∧ Below w.heap.size w w'
theorem load_ent {w : World} {g : Nat} {cs : Array Value} (h : Blk w g cs 31) (hs : cs.size = 2) : (loadVar 31 ⟨g, 0, none⟩).run Tryz.prog w = .ok (.agg cs) w :=
  run_loadVar_row (P := Tryz.prog) w g 31 31 cs (0, 0) _ h Tryz.underlying31 rfl (by rw [show (Tryz.prog.info? 31).map (·.size) = some 2 from by kernel_rfl, hs])
set_option maxRecDepth 100000 in
set_option maxHeartbeats 2000000 in
theorem copyE_calls (i : Int) (ao : Option Addr) (c : Nat) (l : List OV) (w : World) (hl : l.length * 256 ≤ 140737488355328) (hlt : ∀ x ∈ l, x.o.svc.tags.length ≤ 8796093022207) (hat : OpsAt w ao l) :
    Calls Tryz.prog 13 #[.agg #[.int .u64 i, .slice ao l.length c]] w fun e w' => CopE w i l e w' := by
  obtain ⟨n, Hn⟩ : ∃ x, Hid (x = l.length) := ⟨_, rfl⟩
  have HC : Hid (∀ w', Below w.heap.size w w' → Calls Tryz.prog 19 #[.slice ao n c] w' fun e w'' => ∃ v l', e = .returned v ∧ ops l' = ops l ∧ OwnO w'' w'.heap.size v l' ∧ Below w'.heap.size w' w'') := fun w' h => by
    have := copyOps_calls ao c l w' hl hlt (hat.below h)
    rw [← Hn.out] at this
    exact this
  rw [← Hn.out]
  clear hl hlt hat Hn
  obtain ⟨w2, Hw2⟩ : ∃ x, Hid (x = (w.alloc (.cells #[.int .u64 i, .slice ao n c] 31)).alloc (.cells #[.int .u64 0, .slice none 0 0] 31)) := ⟨_, rfl⟩
  have hz : (w.alloc (.cells #[.int .u64 i, .slice ao n c] 31)).heap.size = w.heap.size + 1 := size_new _ _
  have HX : Hid (Blk w2 w.heap.size #[.int .u64 i, .slice ao n c] 31) := by rw [Hw2.out]; exact (Blk.new _ _ _).alloc _
  have HY : Hid (Blk w2 (w.heap.size + 1) #[.int .u64 0, .slice none 0 0] 31) := by rw [Hw2.out, ← hz]; exact Blk.new _ _ _
  have HB : Hid (Below w.heap.size w w2) := by rw [Hw2.out]; exact (below_new w _).alloc (by rw [hz]; omega) _
  clear hz
  have c1 : w2.cell? ⟨w.heap.size, 1, none⟩ = some (.slice ao n c) := HX.out.cell 1 rfl
  go_enter Tryz.func13, Tryz.ntmps13
  go_upto_region 1 with fail
  rw [← Hw2.out]
  clear Hw2
  go_wp2_with fail
  refine (HC.out w2 HB.out).mono ?_
  rintro e w3 ⟨v3, l3, rfl, hops, ho3, hb3⟩
  have HX3 : Hid (Blk w3 w.heap.size #[.int .u64 i, .slice ao n c] 31) := HX.out.below hb3
  have HY3 : Hid (Blk w3 (w.heap.size + 1) #[.int .u64 0, .slice none 0 0] 31) := HY.out.below hb3
  have HB3 : Hid (Below w.heap.size w w3) := HB.out.trans (hb3.mono HB.out.size)
  have HO3 : Hid (OwnO w3 w.heap.size v3 l3) := ⟨row_weak HB.out.size ho3.row, fun x hx => row_weak HB.out.size (ho3.tags x hx)⟩
  have HOP : Hid (ops l3 = ops l) := hops
  obtain ⟨a3, k3, rfl⟩ := HO3.out.shape
  clear hb3 ho3 hops HX HY HB HC c1
  obtain ⟨n3, Hn3⟩ : ∃ x, Hid (x = l3.length) := ⟨_, rfl⟩
  rw [← Hn3.out] at HO3 ⊢
  obtain ⟨w4, Hw4⟩ : ∃ x, Hid (x = w3.setCell ⟨w.heap.size, 1, none⟩ (.slice a3 n3 k3)) := ⟨_, rfl⟩
  have HX4 : Hid (Blk w4 w.heap.size #[.int .u64 i, .slice a3 n3 k3] 31) := by rw [Hw4.out]; exact HX3.out.put 1 _
  have HY4 : Hid (Blk w4 (w.heap.size + 1) #[.int .u64 0, .slice none 0 0] 31) := by rw [Hw4.out]; exact HY3.out.off (a := ⟨w.heap.size, 1, none⟩) (by simp) _
  have HB4 : Hid (Below w.heap.size w w4) := by rw [Hw4.out]; exact HB3.out.setCell (p := ⟨w.heap.size, 1, none⟩) (Nat.le_refl _) _
  have HO4 : Hid (OwnO w4 w.heap.size (.slice a3 n3 k3) l3) := by
    rw [Hw4.out]
    exact ⟨rowN_set1 HX3.out (by decide) HO3.out.row _, fun x hx => rowN_set1 HX3.out (by decide) (HO3.out.tags x hx) _⟩
  have x1 := HX3.out.cell 1 rfl
  have f1 := HX3.out.open 1
  dsimp only
  go_upto_region 2 with fail
  rw [← Hw4.out]
  clear Hw4 HX3 HY3 HB3 HO3 x1 f1
  have z0 := HX4.out.cell 0 rfl
  have z1 := HX4.out.cell 1 rfl
  have y0 := HY4.out.cell 0 rfl
  have y1 := HY4.out.cell 1 rfl
  have f0 := HY4.out.open 0
  have f1 := HY4.out.open 1
  obtain ⟨w5, Hw5⟩ : ∃ x, Hid (x = putC w4 (w.heap.size + 1) 0 [.int .u64 i, .slice a3 n3 k3]) := ⟨_, rfl⟩
  have HY5 : Hid (Blk w5 (w.heap.size + 1) #[.int .u64 i, .slice a3 n3 k3] 31) := by rw [Hw5.out]; exact putC_all HY4.out rfl
  have HB5 : Hid (Below w.heap.size w w5) := by rw [Hw5.out]; exact putC_below _ _ _ HB4.out (by omega)
  have HO5 : Hid (OwnO w5 w.heap.size (.slice a3 n3 k3) l3) := by
    rw [Hw5.out]
    exact ⟨row_putK HY4.out (by decide) HO4.out.row _ _, fun x hx => row_putK HY4.out (by decide) (HO4.out.tags x hx) _ _⟩
  have HLd : Hid ((loadVar 31 ⟨(w.heap.size + 1), 0, none⟩).run Tryz.prog w5 = .ok (.agg #[.int .u64 i, .slice a3 n3 k3]) w5) := load_ent HY5.out rfl
  go_wp2
  change bodyPost _ _ _ _ _ (putC w4 (w.heap.size + 1) 0 [.int .u64 i, .slice a3 n3 k3])
  rw [← Hw5.out]
  exact ret_box1 (g := w.heap.size + 1) (w := w5) rfl rfl rfl HLd.out ⟨a3, k3, l3, by rw [← Hn3.out], HOP.out, by rw [← Hn3.out]; exact HO5.out, HB5.out⟩
end Go.Proofs.YtmkohdepgfahnaaGreatDoor

/- Layer 13 (journal): Decode of bytes whose frame is refused. -/
namespace Go.Proofs.YtmkohdepgfahnaaGreatDoor
open Go.RowKit
set_option linter.unusedVariables false

theorem ret_box3 {fn : Func} {R : Ending → World → Prop} {a : Act} {w : World} {g : Nat} {cs : Array Value} {T : TypeId} {e1 e2 : Value} (hres : fn.results = #[.cell 2 T, .tmp 3, .tmp 4]) (ht : a.tmps.getD 2 undef = .pointer (some ⟨g, 0, none⟩)) (h3 : a.tmps.getD 3 undef = e1) (h4 : a.tmps.getD 4 undef = e2) (hd : a.defers = [])
    (hl : (loadVar T ⟨g, 0, none⟩).run Tryz.prog w = .ok (.agg cs) w) (hR : R (.returned (.tuple #[.agg cs, e1, e2])) w) : bodyPost Tryz.prog fn R .ret a w := by
  refine bodyPost_ret ?_ hd hR
  have ht' : a.tmps[2]?.getD undef = .pointer (some ⟨g, 0, none⟩) := by simpa using ht
  have h3' : a.tmps[3]?.getD undef = e1 := by simpa using h3
  have h4' : a.tmps[4]?.getD undef = e2 := by simpa using h4
  simp [results, hres, ht', h3', h4', asAddr, hl]

set_option maxRecDepth 100000 in
set_option maxHeartbeats 2000000 in
theorem decode_bad (ao : Option Addr) (cap : Nat) (l : List UInt8) (w : World) (hl : l.length ≤ 140737488455328) (hcap : l.length ≤ cap) (h : BAt w ao l) (hne : ¬ payE l = 0) :
    Calls Tryz.prog 18 #[.slice ao l.length cap] w fun e w' => e = .returned (.tuple #[.agg #[.int .u64 0, .slice none 0 0], .int .i64 0, .int .i64 (payE l)]) ∧ Below w.heap.size w w' := by
  obtain ⟨wx, Hwx⟩ : ∃ x, Hid (x = w.alloc (.cells #[.int .u64 0, .slice none 0 0] 31)) := ⟨_, rfl⟩
  have HB : Hid (Below w.heap.size w wx) := by rw [Hwx.out]; exact below_new w _
  have HX : Hid (Blk wx w.heap.size #[.int .u64 0, .slice none 0 0] 31) := by rw [Hwx.out]; exact Blk.new _ _ _
  have HC := payloadOf_calls ao cap l wx hl hcap (h.below HB.out)
  have HC : Hid (Calls Tryz.prog 30 #[.slice ao l.length cap] wx fun e w' => PayA wx l e w') := HC
  obtain ⟨pe, Hpe⟩ : ∃ x, Hid (x = payE l) := ⟨_, rfl⟩
  rw [← Hpe.out] at hne ⊢
  clear h
  have q0 : (pe != 0) = true := by simpa using hne
  go_enter Tryz.func18, Tryz.ntmps18
  go_upto_region 1 with fail
  rw [← Hwx.out]
  clear Hwx
  go_wp2_with fail
  refine HC.out.mono ?_
  rintro e w2 ⟨a2, n2, c2, rfl, -, hd⟩
  rw [← Hpe.out]
  have hb2 : Below wx.heap.size wx w2 := by obtain ⟨m, rfl⟩ := hd; exact below_draws _ _
  have HB2 : Hid (Below w.heap.size w w2) := HB.out.trans (hb2.mono HB.out.size)
  have HX2 : Hid (Blk w2 w.heap.size #[.int .u64 0, .slice none 0 0] 31) := HX.out.below hb2
  clear hd hb2 HC HX HB
  have y0 := HX2.out.cell 0 rfl
  have y1 := HX2.out.cell 1 rfl
  have f0 := HX2.out.open 0
  have f1 := HX2.out.open 1
  obtain ⟨w5, Hw5⟩ : ∃ x, Hid (x = putC w2 w.heap.size 0 [.int .u64 0, .slice none 0 0]) := ⟨_, rfl⟩
  have HY5 : Hid (Blk w5 w.heap.size #[.int .u64 0, .slice none 0 0] 31) := by rw [Hw5.out]; exact putC_all HX2.out rfl
  have HB5 : Hid (Below w.heap.size w w5) := by rw [Hw5.out]; exact putC_below _ _ _ HB2.out (Nat.le_refl _)
  have HLd : Hid ((loadVar 31 ⟨w.heap.size, 0, none⟩).run Tryz.prog w5 = .ok (.agg #[.int .u64 0, .slice none 0 0]) w5) := load_ent HY5.out rfl
  go_wp2
  change bodyPost _ _ _ _ _ (putC w2 w.heap.size 0 [.int .u64 0, .slice none 0 0])
  rw [← Hw5.out]
  exact ret_box3 (g := w.heap.size) (w := w5) rfl rfl rfl rfl rfl HLd.out ⟨rfl, HB5.out⟩
end Go.Proofs.YtmkohdepgfahnaaGreatDoor
