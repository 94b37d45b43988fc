import Derived.Test.YthgcnmilaifkoaaGreatDoorJEqP
import Derived.Test.YthgcnmilaifkoaaGreatDoorRcOa1
import Derived.Test.YthgcnmilaifkoaaGreatDoorJReadP
import Derived.Test.YthgcnmilaifkoaaGreatDoorRgInv
import Derived.Test.YthgcnmilaifkoaaGreatDoorJSum
/- Layer 13 (journal): the document's SameEntry, of entries that are alike. -/
namespace Go.Proofs.YthgcnmilaifkoaaGreatDoor
open Go.RowKit
set_option linter.unusedVariables false

section
variable {o : Oper} {a : Act} {W : World} {K : Act → World → Prop} {Q : Exit → Act → World → Prop}
theorem f_fldEnt {x : Operand} {g : Nat} (ho : o.op = .fieldAddr 31 x 1) (hx : a.eval x = .pointer (some ⟨g, 0, none⟩)) (h : K (a.put o.dst (.pointer (some ⟨g, 1, none⟩))) W) : o.wp Tryz.prog a W K Q :=
 wp_valF (v := .pointer (some ⟨g, 1, none⟩)) (by unfold execOp; simp only [ho, hx]; go_simp) h
theorem f_loadOps {x : Operand} {p k : Nat} {s : Option Addr} {n c : Nat} (ho : o.op = .load 29 x) (hx : a.eval x = .pointer (some ⟨p, k, none⟩)) (hc : W.cell? ⟨p, k, none⟩ = some (.slice s n c)) (h : K (a.put o.dst (.slice s n c)) W) : o.wp Tryz.prog a W K Q :=
 wp_valF (v := .slice s n c) (by unfold execOp; simp only [ho, hx]; simp [hc, go_sem]) h
theorem f_idxOp {x y : Operand} {g off n c b : Nat} (ho : o.op = .indexAddr 29 x y) (hx : a.eval x = .slice (some ⟨g, off, none⟩) n c) (hy : a.eval y = .int .i64 (b : Int)) (hb : b < n) (h : K (a.put o.dst (.pointer (some ⟨g, off + b * 21, none⟩))) W) : o.wp Tryz.prog a W K Q :=
 wp_valF (v := .pointer (some ⟨g, off + b * 21, none⟩)) (by
  have h1 : (0 : Int) ≤ (b : Int) := by omega
  have h2 : (b : Int) < (n : Int) := by omega
  unfold execOp; simp only [ho, hx, hy]; go_simp) h
end
section
variable {o : Oper} {a : Act} {W : World} {K : Act → World → Prop} {Q : Exit → Act → World → Prop}
theorem f_mv {x : Operand} {v : Value} (ho : o.op = .move x) (hx : a.eval x = v) (h : K (a.put o.dst v) W) : o.wp Tryz.prog a W K Q :=
 wp_valF (v := v) (by unfold execOp; simp only [ho, hx]; rfl) h
end
theorem OpsAt.range {w : World} {ao : Option Addr} {l : List OV} (h : OpsAt w ao l) {b off : Nat} (e : ao = some ⟨b, off, none⟩) (k : Nat) (hk : k < l.length) : w.rangeAt b (off + k * 21) l[k].v.toList := by
 obtain ⟨b', off', e', h'⟩ := h.at k hk
 rw [e] at e'
 simp only [Option.some.injEq, Addr.mk.injEq, and_true] at e'
 obtain ⟨rfl, rfl⟩ := e'
 exact h'

set_option maxRecDepth 100000 in
set_option maxHeartbeats 4000000 in
theorem sameE_calls (i : Int) (ao bo : Option Addr) (ca cb : Nat) (la lb : List OV) (w : World) (hl : la.length ≤ 140737488355328) (he : ops lb = ops la) (ht : ∀ x ∈ la, x.o.svc.tags.length ≤ 140737488355328) (ha : OpsAt w ao la) (hb : OpsAt w bo lb) :
  Calls Tryz.prog 10 #[.agg #[.int .u64 i, .slice ao la.length ca], .agg #[.int .u64 i, .slice bo lb.length cb]] w fun e w' => e = .returned (.bool true) ∧ Below w.heap.size w w' := by
 have hll : lb.length = la.length := by
  have := congrArg List.length he
  simpa [ops] using this
 obtain ⟨n, Hn⟩ : ∃ x, Hid (x = la.length) := ⟨_, rfl⟩
 have HQ : Hid (∀ k, k < n → ∃ b off b' off' y z, ao = some ⟨b, off, none⟩ ∧ bo = some ⟨b', off', none⟩ ∧ (∀ W, Below w.heap.size w W → W.rangeAt b (off + k * 21) (OV.v y).toList) ∧ (∀ W, Below w.heap.size w W → W.rangeAt b' (off' + k * 21) (OV.v z).toList) ∧ (∀ W, Below w.heap.size w W → Calls Tryz.prog 16 #[.agg (OV.v y), .agg (OV.v z)] W fun e w' => e = .returned (.bool true) ∧ Below W.heap.size W w')) := by
  intro k hk
  have hka : k < la.length := by rw [← Hn.out]; exact hk
  have hkb : k < lb.length := by rw [hll]; exact hka
  obtain ⟨b, off, e1, -⟩ := ha.at k hka
  obtain ⟨b', off', e2, -⟩ := hb.at k hkb
  have hz : (lb[k]'hkb).o = (la[k]'hka).o := by
   have h1 := ops_at la k hka
   have h2 := ops_at lb k hkb
   rw [he, h1] at h2
   exact (Option.some.inj h2).symm
  refine ⟨b, off, b', off', la[k]'hka, lb[k]'hkb, e1, e2, fun W hW => (ha.below hW).range e1 k hka, fun W hW => (hb.below hW).range e2 k hkb, fun W hW => ?_⟩
  have := rsameOp_calls (la[k]'hka).o (lb[k]'hkb).o (la[k]'hka).ta (lb[k]'hkb).ta (la[k]'hka).tc (lb[k]'hkb).tc W (ht _ (List.getElem_mem hka)) (by rw [hz]; exact ht _ (List.getElem_mem hka)) ((ha.below hW).tags _ (List.getElem_mem hka)) ((hb.below hW).tags _ (List.getElem_mem hkb))
  rw [show sameO (la[k]'hka).o (lb[k]'hkb).o = true from (sameO_iff _ _).2 hz.symm] at this
  exact this
 rw [hll, ← Hn.out]
 have hn : n ≤ 140737488355328 := by rw [Hn.out]; exact hl
 clear hl he ht ha hb hll Hn
 obtain ⟨w2, Hw2⟩ : ∃ x, Hid (x = (w.alloc (.cells #[.int .u64 i, .slice ao n ca] 31)).alloc (.cells #[.int .u64 i, .slice bo n cb] 31)) := ⟨_, rfl⟩
 have hz : (w.alloc (.cells #[.int .u64 i, .slice ao n ca] 31)).heap.size = w.heap.size + 1 := size_new _ _
 have HX : Hid (Blk w2 w.heap.size #[.int .u64 i, .slice ao n ca] 31) := by rw [Hw2.out]; exact (Blk.new _ _ _).alloc _
 have HY : Hid (Blk w2 (w.heap.size + 1) #[.int .u64 i, .slice bo n cb] 31) := by rw [Hw2.out, ← hz]; exact Blk.new _ _ _
 have HB : Hid (Below w.heap.size w w2) := by rw [Hw2.out]; exact (below_new w _).alloc (by rw [hz]; omega) _
 clear hz
 have x0 := HX.out.cell 0 rfl
 have x1 := HX.out.cell 1 rfl
 have y0 := HY.out.cell 0 rfl
 have y1 := HY.out.cell 1 rfl
 go_enter Tryz.func10, Tryz.ntmps10
 go_upto_region 1 with fail
 rw [← Hw2.out]
 clear Hw2
 go_wp2
 clear x0 x1 y0 y1
 go_loopw [23] (fun i' wr => ∃ k : Nat, k ≤ n ∧ i' = .int .i64 k ∧ Hid (Below w2.heap.size w2 wr)) (fun i' _ => n - (intOf i').toNat)
 case atStart => exact ⟨0, Nat.zero_le _, rfl, Below.refl _ _⟩
 case round =>
  obtain ⟨k, hk, rfl, HBr⟩ := hrel
  by_cases hlt : k < n
  ·obtain ⟨b, off, b', off', y, z, rfl, rfl, hr1, hr2, hcc⟩ := HQ.out k hlt
   have HBw : Hid (∀ W, Below wr.heap.size wr W → Below w.heap.size w W) := fun W hW => HB.out.trans ((HBr.out.trans (hW.mono HBr.out.size)).mono HB.out.size)
   have HR1 : Hid (∀ W, Below wr.heap.size wr W → W.rangeAt b (off + k * 21) (OV.v y).toList) := fun W hW => hr1 W (HBw.out W hW)
   have HR2 : Hid (∀ W, Below wr.heap.size wr W → W.rangeAt b' (off' + k * 21) (OV.v z).toList) := fun W hW => hr2 W (HBw.out W hW)
   have HC : Hid (∀ W, Below wr.heap.size wr W → Calls Tryz.prog 16 #[.agg (OV.v y), .agg (OV.v z)] W fun e w' => e = .returned (.bool true) ∧ Below W.heap.size W w') := fun W hW => hcc W (HBw.out W hW)
   have HX2 : Hid (Blk wr w.heap.size #[.int .u64 i, .slice (some ⟨b, off, none⟩) n ca] 31) := HX.out.below HBr.out
   have HY2 : Hid (Blk wr (w.heap.size + 1) #[.int .u64 i, .slice (some ⟨b', off', none⟩) n cb] 31) := HY.out.below HBr.out
   clear hr1 hr2 hcc
   go_upto_region 6 with fail
   refine wp_region_inv 11 (fun j v W => match j with
    | 0 => v = .pointer (some ⟨w.heap.size, 1, none⟩)
    | 1 => v = .slice (some ⟨b, off, none⟩) n ca
    | 2 => v = .int .i64 (k : Int)
    | 3 => v = .pointer (some ⟨b, off + k * 21, none⟩)
    | 4 => v = .agg (OV.v y)
    | 5 => v = .pointer (some ⟨w.heap.size + 1, 1, none⟩)
    | 6 => v = .slice (some ⟨b', off', none⟩) n cb
    | 7 => v = .int .i64 (k : Int)
    | 8 => v = .pointer (some ⟨b', off' + k * 21, none⟩)
    | 9 => v = .agg (OV.v z)
    | 10 => v = .bool true
    | _ => False) (by kernel_rfl) (by kernel_rfl) (by kernel_rfl) [some 26, some 27, some 28, some 29, some 30, some 31, some 32, some 33, some 34, some 35, some 36] (by kernel_rfl) ?mono ?hop ?tail
   case mono =>
    intro j v W W' h hb
    match j, h with
    | 0, h => exact h
    | 1, h => exact h
    | 2, h => exact h
    | 3, h => exact h
    | 4, h => exact h
    | 5, h => exact h
    | 6, h => exact h
    | 7, h => exact h
    | 8, h => exact h
    | 9, h => exact h
    | 10, h => exact h
   case hop =>
    intro j o hi ho a W hB hs hd
    match j, hi, ho, hd with
    | 0, _, ho, hd =>
     obtain rfl := Option.some.inj ho
     exact f_fldEnt (x := .tmp 2) rfl ((hs 2 (by kernel_rfl)).trans rfl) ⟨_, rfl, rfl, Below.refl _ _⟩
    | 1, _, ho, hd =>
     obtain rfl := Option.some.inj ho
     exact f_loadOps (x := .tmp 26) rfl (hd 0 26 (by kernel_rfl) (by kernel_rfl)) ((HX2.out.below hB).cell 1 rfl) ⟨_, rfl, rfl, Below.refl _ _⟩
    | 2, _, ho, hd =>
     obtain rfl := Option.some.inj ho
     exact f_mv (x := .tmp 5) rfl ((hs 5 (by kernel_rfl)).trans rfl) ⟨_, rfl, rfl, Below.refl _ _⟩
    | 3, _, ho, hd =>
     obtain rfl := Option.some.inj ho
     exact f_idxOp (x := .tmp 27) (y := .tmp 28) rfl (hd 1 27 (by kernel_rfl) (by kernel_rfl)) (hd 2 28 (by kernel_rfl) (by kernel_rfl)) hlt ⟨_, rfl, rfl, Below.refl _ _⟩
    | 4, _, ho, hd =>
     obtain rfl := Option.some.inj ho
     exact wp_load_ov (x := .tmp 29) (y := y) rfl (hd 3 29 (by kernel_rfl) (by kernel_rfl)) (HR1.out W hB) ⟨_, rfl, rfl, Below.refl _ _⟩
    | 5, _, ho, hd =>
     obtain rfl := Option.some.inj ho
     exact f_fldEnt (x := .tmp 3) rfl ((hs 3 (by kernel_rfl)).trans rfl) ⟨_, rfl, rfl, Below.refl _ _⟩
    | 6, _, ho, hd =>
     obtain rfl := Option.some.inj ho
     exact f_loadOps (x := .tmp 31) rfl (hd 5 31 (by kernel_rfl) (by kernel_rfl)) ((HY2.out.below hB).cell 1 rfl) ⟨_, rfl, rfl, Below.refl _ _⟩
    | 7, _, ho, hd =>
     obtain rfl := Option.some.inj ho
     exact f_mv (x := .tmp 5) rfl ((hs 5 (by kernel_rfl)).trans rfl) ⟨_, rfl, rfl, Below.refl _ _⟩
    | 8, _, ho, hd =>
     obtain rfl := Option.some.inj ho
     exact f_idxOp (x := .tmp 32) (y := .tmp 33) rfl (hd 6 32 (by kernel_rfl) (by kernel_rfl)) (hd 7 33 (by kernel_rfl) (by kernel_rfl)) hlt ⟨_, rfl, rfl, Below.refl _ _⟩
    | 9, _, ho, hd =>
     obtain rfl := Option.some.inj ho
     exact wp_load_ov (x := .tmp 34) (y := z) rfl (hd 8 34 (by kernel_rfl) (by kernel_rfl)) (HR2.out W hB) ⟨_, rfl, rfl, Below.refl _ _⟩
    | 10, _, ho, hd =>
     obtain rfl := Option.some.inj ho
     refine wp_callF (f := 16) (vals := #[.agg (OV.v y), .agg (OV.v z)]) rfl (map2 (hd 4 30 (by kernel_rfl) (by kernel_rfl)) (hd 9 35 (by kernel_rfl) (by kernel_rfl))) (by go_simp) ?_
     exact (HC.out W hB).mono fun e w' ⟨he, hb⟩ => ⟨_, he, _, rfl, rfl, hb⟩
   case tail =>
    intro vs W hB hR
    have r0 : vs 0 = .pointer (some ⟨w.heap.size, 1, none⟩) := hR 0 (by decide)
    have r1 : vs 1 = .slice (some ⟨b, off, none⟩) n ca := hR 1 (by decide)
    have r2 : vs 2 = .int .i64 (k : Int) := hR 2 (by decide)
    have r3 : vs 3 = .pointer (some ⟨b, off + k * 21, none⟩) := hR 3 (by decide)
    have r4 : vs 4 = .agg (OV.v y) := hR 4 (by decide)
    have r5 : vs 5 = .pointer (some ⟨w.heap.size + 1, 1, none⟩) := hR 5 (by decide)
    have r6 : vs 6 = .slice (some ⟨b', off', none⟩) n cb := hR 6 (by decide)
    have r7 : vs 7 = .int .i64 (k : Int) := hR 7 (by decide)
    have r8 : vs 8 = .pointer (some ⟨b', off' + k * 21, none⟩) := hR 8 (by decide)
    have r9 : vs 9 = .agg (OV.v z) := hR 9 (by decide)
    have r10 : vs 10 = .bool true := hR 10 (by decide)
    have HBW : Hid (Below w2.heap.size w2 W) := HBr.out.trans (hB.mono HBr.out.size)
    clear hR hB
    simp only [putL, put_lit, List.setIfInBounds_toArray, List.set_cons_succ, List.set_cons_zero, List.drop_succ_cons, List.drop_zero]
    rw [r0, r1, r2, r3, r4, r5, r6, r7, r8, r9, r10]
    clear r0 r1 r2 r3 r4 r5 r6 r7 r8 r9 r10 HR1 HR2 HC HX2 HY2 HBw HBr
    go_wp2
    go_roundw
    case rel => exact ⟨k + 1, by omega, by go_num, HBW⟩
    case measure => simp [intOf]; omega
  ·go_wp2
   go_ret
   exact ⟨rfl, HB.out.trans (HBr.out.mono HB.out.size)⟩
end Go.Proofs.YthgcnmilaifkoaaGreatDoor

/- Layer 13 (journal): the document's Payload. -/
namespace Go.Proofs.YthgcnmilaifkoaaGreatDoor
open Go.RowKit
set_option linter.unusedVariables false

section
variable {o : Oper} {a : Act} {W : World} {K : Act → World → Prop} {Q : Exit → Act → World → Prop}
theorem f_fldEnt0 {x : Operand} {g : Nat} (ho : o.op = .fieldAddr 31 x 0) (hx : a.eval x = .pointer (some ⟨g, 0, none⟩)) (h : K (a.put o.dst (.pointer (some ⟨g, 0, none⟩))) W) : o.wp Tryz.prog a W K Q :=
 wp_valF (v := .pointer (some ⟨g, 0, none⟩)) (by unfold execOp; simp only [ho, hx]; go_simp) h
theorem f_loadU {x : Operand} {p k : Nat} {m : Int} (ho : o.op = .load 22 x) (hx : a.eval x = .pointer (some ⟨p, k, none⟩)) (hc : W.cell? ⟨p, k, none⟩ = some (.int .u64 m)) (h : K (a.put o.dst (.int .u64 m)) W) : o.wp Tryz.prog a W K Q :=
 wp_valF (v := .int .u64 m) (by unfold execOp; simp only [ho, hx]; simp [hc, go_sem]) h
theorem f_lenOps {x : Operand} {s : Option Addr} {n c : Nat} (ho : o.op = .call { callee := .builtin .len, args := #[x], argTypes := #[29] }) (hx : a.eval x = .slice s n c) (h : K (a.put o.dst (.int .i64 (n : Int))) W) : o.wp Tryz.prog a W K Q :=
 wp_valF (v := .int .i64 (n : Int)) (by unfold execOp; simp only [ho, resolve, invoke, builtin, Sem.run_bind, Sem.run_pure, Result.andThen_ok, List.map_toArray, List.map_cons, List.map_nil, hx]; go_simp) h
theorem f_conv8 {x : Operand} {n : Nat} (ho : o.op = .convert 3 5 x) (hx : a.eval x = .int .i64 (n : Int)) (hn : n < 256) (h : K (a.put o.dst (.int .u8 (n : Int))) W) : o.wp Tryz.prog a W K Q :=
 wp_valF (v := .int .u8 (n : Int)) (by
  have hw : IntKind.u8.wrap (n : Int) = (n : Int) := by
   show (n : Int) % 256 = _
   omega
  unfold execOp; simp only [ho, hx]; go_simp) h
theorem f_sl8 {x : Operand} {n : Int} (ho : o.op = .buildSlice 50 1 #[(0, x)]) (hx : a.eval x = .int .u8 n) (h : K (a.put o.dst (.slice (some ⟨W.heap.size, 0, none⟩) 1 1)) (W.alloc (.cells #[.int .u8 n] 5))) : o.wp Tryz.prog a W K Q := by
 have hr : (execOp a.eval o).run Tryz.prog W = .ok (.value (.slice (some ⟨W.heap.size, 0, none⟩) 1 1)) (W.alloc (.cells #[.int .u8 n] 5)) := by
  unfold execOp
  simp only [ho, List.map_toArray, List.map_cons, List.map_nil, hx]
  go_simp
 unfold Oper.wp
 rw [hr]
 exact h
end

set_option maxRecDepth 100000 in
set_option maxHeartbeats 2000000 in
theorem rpayload_calls (i : Int) (ao : Option Addr) (c : Nat) (l : List OV) (w : World) (h0 : 0 ≤ i) (h1 : i ≤ 18446744073709551615) (hs : soundB (ops l) = true) (hr : ∀ x ∈ l, x.o.rng) (hat : OpsAt w ao l) :
  Calls Tryz.prog 36 #[.agg (entV i ao l.length c)] w fun e w' => ∃ v', e = .returned v' ∧ Own w' w.heap.size v' (payB i (ops l)) ∧ Below w.heap.size w w' := by
 obtain ⟨hn1, hn2, HS⟩ := soundB_all hs
 have HSK : Hid (∀ k (h : k < l.length), Snd l[k].o) := fun k h => HS _ (List.mem_map.2 ⟨_, List.getElem_mem h, rfl⟩)
 have HRK : Hid (∀ k (h : k < l.length), l[k].o.rng) := fun k h => hr _ (List.getElem_mem h)
 have hlen : (ops l).length = l.length := by simp [ops]
 rw [hlen] at hn1 hn2
 have HPL : Hid (∀ k, k ≤ l.length → (opsB (ops (l.take k))).length ≤ 78784) := fun k hk => by
  have h2 := opsB_le (ops (l.take k)) fun o ho => HS o (by
   obtain ⟨x, hx, rfl⟩ := List.mem_map.1 ho
   exact List.mem_map.2 ⟨x, List.mem_of_mem_take hx, rfl⟩)
  have h3 : (ops (l.take k)).length ≤ 64 := by simp [ops]; omega
  have : (ops (l.take k)).length * 1231 ≤ 64 * 1231 := Nat.mul_le_mul_right _ h3
  omega
 have HE : Hid (payB i (ops l) = big 8 i ++ [byteOf l.length] ++ opsB (ops l)) := by show _ = _; unfold payB; rw [hlen]
 clear HS hs hr hlen
 obtain ⟨n, Hn⟩ : ∃ x, Hid (x = l.length) := ⟨_, rfl⟩
 rw [← Hn.out] at hn1 hn2 HE ⊢
 obtain ⟨wx, Hwx⟩ : ∃ x, Hid (x = w.alloc (.cells (entV i ao n c) 31)) := ⟨_, rfl⟩
 have KA : Hid (Blk wx w.heap.size (entV i ao n c) 31) := by rw [Hwx.out]; exact Blk.new _ _ _
 have HB : Hid (Below w.heap.size w wx) := by rw [Hwx.out]; exact below_new w _
 have c0 : wx.cell? ⟨w.heap.size, 0, none⟩ = some (.int .u64 i) := KA.out.cell 0 rfl
 have HRB : Hid (∀ W, Calls Tryz.prog 48 #[.int .u64 i, .int .i64 8] W fun e w' => ∃ c, e = .returned (.slice (some ⟨W.heap.size, 0, none⟩) 8 c) ∧ Own w' W.heap.size (.slice (some ⟨W.heap.size, 0, none⟩) 8 c) (big 8 i) ∧ Below W.heap.size W w') := fun W => rbig_calls i 8 W h0 h1 (by omega)
 clear c0
 go_enter Tryz.func36, Tryz.ntmps36
 go_upto_region 1 with fail
 rw [← Hwx.out]
 clear Hwx
 refine wp_region_inv 8 (fun j v W => match j with
  | 0 => v = .pointer (some ⟨w.heap.size, 0, none⟩)
  | 1 => v = .int .u64 i
  | 2 => ∃ g cb, v = .slice (some ⟨g, 0, none⟩) 8 cb ∧ Own W w.heap.size (.slice (some ⟨g, 0, none⟩) 8 cb) (big 8 i)
  | 3 => v = .pointer (some ⟨w.heap.size, 1, none⟩)
  | 4 => v = .slice ao n c
  | 5 => v = .int .i64 (n : Int)
  | 6 => v = .int .u8 (n : Int)
  | 7 => ∃ g, v = .slice (some ⟨g, 0, none⟩) 1 1 ∧ CellsAt W (some ⟨g, 0, none⟩) [.int .u8 (n : Int)]
  | _ => False) (by kernel_rfl) (by kernel_rfl) (by kernel_rfl) [some 6, some 7, some 8, some 9, some 10, some 11, some 12, some 13] (by kernel_rfl) ?mono ?hop ?tail
 case mono =>
  intro j v W W' h hb
  match j, h with
  | 0, h => exact h
  | 1, h => exact h
  | 2, ⟨g, cb, h1, h2⟩ => exact ⟨g, cb, h1, h2.below hb⟩
  | 3, h => exact h
  | 4, h => exact h
  | 5, h => exact h
  | 6, h => exact h
  | 7, ⟨g, h1, h2⟩ => exact ⟨g, h1, h2.below hb⟩
 case hop =>
  intro j o hi ho a W hB hs hd
  match j, hi, ho, hd with
  | 0, _, ho, hd =>
   obtain rfl := Option.some.inj ho
   exact f_fldEnt0 (x := .tmp 1) rfl ((hs 1 (by kernel_rfl)).trans rfl) ⟨_, rfl, rfl, Below.refl _ _⟩
  | 1, _, ho, hd =>
   obtain rfl := Option.some.inj ho
   exact f_loadU (x := .tmp 6) rfl (hd 0 6 (by kernel_rfl) (by kernel_rfl)) ((KA.out.below hB).cell 0 rfl) ⟨_, rfl, rfl, Below.refl _ _⟩
  | 2, _, ho, hd =>
   obtain rfl := Option.some.inj ho
   refine wp_callF (f := 48) (vals := #[.int .u64 i, .int .i64 8]) rfl (map2 (hd 1 7 (by kernel_rfl) (by kernel_rfl)) rfl) (by go_simp) ?_
   refine (HRB.out W).mono ?_
   rintro e w' ⟨cb, rfl, hob, hbb⟩
   exact ⟨_, rfl, _, rfl, ⟨_, cb, rfl, row_weak (Nat.le_trans HB.out.size hB.size) hob⟩, hbb⟩
  | 3, _, ho, hd =>
   obtain rfl := Option.some.inj ho
   exact f_fldEnt (x := .tmp 1) rfl ((hs 1 (by kernel_rfl)).trans rfl) ⟨_, rfl, rfl, Below.refl _ _⟩
  | 4, _, ho, hd =>
   obtain rfl := Option.some.inj ho
   exact f_loadOps (x := .tmp 9) rfl (hd 3 9 (by kernel_rfl) (by kernel_rfl)) ((KA.out.below hB).cell 1 rfl) ⟨_, rfl, rfl, Below.refl _ _⟩
  | 5, _, ho, hd =>
   obtain rfl := Option.some.inj ho
   exact f_lenOps (x := .tmp 10) rfl (hd 4 10 (by kernel_rfl) (by kernel_rfl)) ⟨_, rfl, rfl, Below.refl _ _⟩
  | 6, _, ho, hd =>
   obtain rfl := Option.some.inj ho
   exact f_conv8 (x := .tmp 11) rfl (hd 5 11 (by kernel_rfl) (by kernel_rfl)) (by omega) ⟨_, rfl, rfl, Below.refl _ _⟩
  | 7, _, ho, hd =>
   obtain rfl := Option.some.inj ho
   exact f_sl8 (x := .tmp 12) rfl (hd 6 12 (by kernel_rfl) (by kernel_rfl)) ⟨_, rfl, ⟨_, rfl, cells_lit W [.int .u8 (n : Int)] 5⟩, below_new W _⟩
 case tail =>
  intro vs W hB hR
  have r0 : vs 0 = .pointer (some ⟨w.heap.size, 0, none⟩) := hR 0 (by decide)
  have r1 : vs 1 = .int .u64 i := hR 1 (by decide)
  obtain ⟨g2, cb, r2, hob⟩ := hR 2 (by decide)
  have r3 : vs 3 = .pointer (some ⟨w.heap.size, 1, none⟩) := hR 3 (by decide)
  have r4 : vs 4 = .slice ao n c := hR 4 (by decide)
  have r5 : vs 5 = .int .i64 (n : Int) := hR 5 (by decide)
  have r6 : vs 6 = .int .u8 (n : Int) := hR 6 (by decide)
  obtain ⟨g7, r7, hc7⟩ := hR 7 (by decide)
  have HBW : Hid (Below w.heap.size w W) := HB.out.trans (hB.mono HB.out.size)
  have KAW : Hid (Blk W w.heap.size (entV i ao n c) 31) := KA.out.below hB
  have HOB : Hid (Own W w.heap.size (.slice (some ⟨g2, 0, none⟩) 8 cb) (big 8 i)) := hob
  have HN : Hid (bs [byteOf n] = [.int .u8 (n : Int)]) := by
   show _ = _
   rw [bs_lit, byteOf_val]
   rw [show (n : Int) % 256 = n by omega]
  have HC7 : Hid (CellsAt W (some ⟨g7, 0, none⟩) (bs [byteOf n])) := by rw [HN.out]; exact hc7
  have HO8 : Hid (W.ownsRow w.heap.size 5 1 (.slice (some ⟨g2, 0, none⟩) 8 cb) 8 (bs (big 8 i))) := by
   have := HOB.out
   unfold Own at this
   rw [big_length] at this
   exact this
  clear hR hB hob hc7 HRB HB KA HN
  simp only [putL, put_lit, List.setIfInBounds_toArray, List.set_cons_succ, List.set_cons_zero, List.drop_succ_cons, List.drop_zero]
  rw [r0, r1, r2, r3, r4, r5, r6, r7]
  clear r0 r1 r2 r3 r4 r5 r6 r7
  go_wp2_with (at_builtin; refine append_src _ rfl (.tmp 8) (.tmp 13) 50 5 (.int .u8 0) 1 1 Tryz.underlying50 info_u8 rfl (by decide) rfl w.heap.size _ 8 (bs (big 8 i)) rfl HO8.out (some ⟨g7, 0, none⟩) 1 1 (bs [byteOf n]) rfl rfl HC7.out (bs_one _) (by unfold maxLen; omega) (by omega) HBW.out.size ?_)
  intro v2 w2 ho2' hg2
  have KA2 : Hid (Blk w2 w.heap.size (entV i ao n c) 31) := row_grewB KAW.out HO8.out hg2 (by decide)
  have HB2 : Hid (Below w.heap.size w w2) := HBW.out.trans (hg2.toBelow HBW.out.size fun q hq => (HOB.out.lt q hq).1)
  have hl2 : (big 8 i ++ [byteOf n]).length = 9 := by simp [big_length]
  have ho2 : Own w2 w.heap.size v2 (big 8 i ++ [byteOf n]) := by
   unfold Own
   rw [bs_append, hl2]
   exact ho2'
  obtain ⟨p, Hp⟩ : ∃ x, Hid (x = big 8 i ++ [byteOf n]) := name_it _
  rw [← Hp.out] at ho2 hl2 HE
  clear hg2 ho2' HOB HO8 KAW HBW Hp HC7
  have c1 : w2.cell? ⟨w.heap.size, 1, none⟩ = some (.slice ao n c) := KA2.out.cell 1 rfl
  go_wp2_with fail
  clear c1 KA2
  go_loopw [3, 18] (fun x i wr => ∃ k : Nat, k ≤ n ∧ i = .int .i64 k ∧ Own wr w.heap.size x (p ++ opsB (ops (l.take k))) ∧ Hid (Below w.heap.size w wr)) (fun _ i _ => n - (intOf i).toNat)
  case atStart => exact ⟨0, Nat.zero_le _, rfl, by simpa [ops, opsB] using ho2, HB2⟩
  case round =>
   obtain ⟨k, hk, rfl, ho, HBr⟩ := hrel
   clear ho2 HB2
   by_cases hlt : k < n
   ·have hkl : k < l.length := by rw [← Hn.out]; exact hlt
    obtain ⟨b, off, rfl, hrange⟩ := (hat.below HBr.out).at k hkl
    have HC : Hid (CellsAt w l[k].ta (l[k].o.svc.tags.map Value.string)) := hat.tags _ (List.getElem_mem hkl)
    have HT : Hid (p ++ opsB (ops (l.take (k + 1))) = p ++ opsB (ops (l.take k)) ++ opB l[k].o) := by
     show _ = _
     rw [ops_take l k hkl, opsB_snoc, List.append_assoc]
    have hle : (p ++ opsB (ops (l.take k))).length ≤ 78793 := by have := HPL.out k (by omega); simp only [List.length_append]; omega
    obtain ⟨y, Hy⟩ : ∃ y, Hid (y = l[k]'hkl) := ⟨_, rfl⟩
    have hsy : Snd y.o := by rw [Hy.out]; exact HSK.out k hkl
    have hry : y.o.rng := by rw [Hy.out]; exact HRK.out k hkl
    rw [← Hy.out] at hrange HC HT
    obtain ⟨q, Hq⟩ : ∃ x, Hid (x = p ++ opsB (ops (l.take k))) := name_it _
    rw [← Hq.out] at ho HT hle
    clear Hy Hq hkl
    have HRG : Hid (wr.rangeAt b (off + k * 21) y.v.toList) := hrange
    clear hrange
    have hBr := HBr.out.size
    have HSY : Hid (Snd y.o) := hsy
    have HRY : Hid (y.o.rng) := hry
    have hob : (opB y.o).length ≤ 1231 := opB_le hsy
    clear hsy hry
    go_upto_region 4 with fail
    iterate 5 go_step
    refine wp_load_ov rfl rfl HRG.out ?_
    iterate 5 go_step
    refine wp_store_op rfl rfl rfl rfl rfl rfl (ov_one _) ?_
    obtain ⟨w3, Hw3⟩ : ∃ x, Hid (x = wr.alloc (.cells y.v 47)) := ⟨_, rfl⟩
    have KB : Hid (Blk w3 wr.heap.size y.v 47) := by rw [Hw3.out]; exact Blk.new _ _ _
    have HO3 := ho.alloc (.cells y.v 47)
    rw [← Hw3.out] at HO3
    have HB3 : Hid (Below w.heap.size w w3) := by rw [Hw3.out]; exact HBr.out.alloc hBr _
    rw [← Hw3.out]
    clear Hw3 ho HBr HRG
    go_upto_region 5 with fail
    iterate 5 go_step
    refine wp_get_op rfl KB.out rfl rfl ?_
    go_wp2_with fail
    have HB3s := HB3.out.size
    refine (rop2_calls y.o y.ta y.tc w3 HSY.out HRY.out (HC.out.below HB3.out)).mono ?_
    rintro e w4 ⟨v4, rfl, ho4, hb4⟩
    obtain ⟨a4, k4, rfl⟩ := ho4.shape
    have HO4 : Hid (Own w4 w.heap.size _ q) := HO3.below hb4
    have HB4 : Hid (Below w.heap.size w w4) := HB3.out.trans (hb4.mono HB3s)
    have HA4 : Hid (CellsAt w4 a4 (bs (opB y.o))) := ho4.bytes
    obtain ⟨m4, Hm4⟩ : ∃ x, Hid (x = (opB y.o).length) := name_it _
    rw [← Hm4.out] at hob ⊢
    have HL4 : Hid ((bs (opB y.o)).length = m4 * 1) := by show _ = _; rw [bs_length, ← Hm4.out, Nat.mul_one]
    clear hb4 ho4 HO3 HB3 KB
    go_wp2_with (at_builtin; refine append_src _ rfl (.tmp 22) (.tmp 24) 50 5 (.int .u8 0) 1 1 Tryz.underlying50 info_u8 rfl (by decide) rfl w.heap.size _ q.length (bs q) rfl HO4.out a4 m4 k4 (bs (opB y.o)) rfl HL4.out HA4.out (bs_one _) (by unfold maxLen; omega) (by omega) HB4.out.size ?_)
    intro v5 w5 ho5' hg5
    have HB5 : Hid (Below w.heap.size w w5) := HB4.out.trans (hg5.toBelow HB4.out.size fun q' hq => (HO4.out.lt q' hq).1)
    have ho5 : Own w5 w.heap.size v5 (q ++ opB y.o) := by
     unfold Own
     rw [bs_append, List.length_append, ← Hm4.out]
     exact ho5'
    clear hg5 ho5' HO4 HB4 HA4 HL4 Hm4
    go_wp2
    go_roundw
    case rel => exact ⟨k + 1, by omega, by go_num, by rw [HT.out]; exact ho5, HB5⟩
    case measure => simp [intOf]; omega
   ·have HF : Hid (p ++ opsB (ops (l.take k)) = payB i (ops l)) := by
     show _ = _
     rw [HE.out, List.take_of_length_le (by rw [← Hn.out]; omega)]
    go_wp2
    go_ret
    exact ⟨_, rfl, by rw [← HF.out]; exact ho, HBr.out⟩
end Go.Proofs.YthgcnmilaifkoaaGreatDoor
