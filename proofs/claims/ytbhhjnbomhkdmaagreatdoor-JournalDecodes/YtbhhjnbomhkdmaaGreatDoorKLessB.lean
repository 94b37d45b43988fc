import Derived.Test.YtbhhjnbomhkdmaaGreatDoorJEqV
import Derived.Test.YtbhhjnbomhkdmaaGreatDoorJStep
import Derived.Test.YtbhhjnbomhkdmaaGreatDoorJSameE
import Derived.Test.YtbhhjnbomhkdmaaGreatDoorRcLabel
import Derived.Test.YtbhhjnbomhkdmaaGreatDoorJPayOf
import Derived.Deep.QuietTactic
import Derived.BigQuiet
/- Layer 13 (journal): the document's Payload. -/
namespace Go.Proofs.YtbhhjnbomhkdmaaGreatDoor
open Go.RowKit
set_option linter.unusedVariables false

section
variable {o : Oper} {a : Act} {W : World} {K : Act → World → Prop} {Q : Exit → Act → World → Prop}
theorem f_fldEnt0 {x : Operand} {g : Nat} (ho : o.op = .fieldAddr 27 x 0) (hx : a.eval x = .pointer (some ⟨g, 0, none⟩)) (h : K (a.put o.dst (.pointer (some ⟨g, 0, none⟩))) W) : o.wp Tryz.prog a W K Q :=
 wp_valF (v := .pointer (some ⟨g, 0, none⟩)) (by unfold execOp; simp only [ho, hx]; go_simp) h
theorem f_loadU {x : Operand} {p k : Nat} {m : Int} (ho : o.op = .load 24 x) (hx : a.eval x = .pointer (some ⟨p, k, none⟩)) (hc : W.cell? ⟨p, k, none⟩ = some (.int .u64 m)) (h : K (a.put o.dst (.int .u64 m)) W) : o.wp Tryz.prog a W K Q :=
 wp_valF (v := .int .u64 m) (by unfold execOp; simp only [ho, hx]; simp [hc, go_sem]) h
theorem f_lenOps {x : Operand} {s : Option Addr} {n c : Nat} (ho : o.op = .call { callee := .builtin .len, args := #[x], argTypes := #[25] }) (hx : a.eval x = .slice s n c) (h : K (a.put o.dst (.int .i64 (n : Int))) W) : o.wp Tryz.prog a W K Q :=
 wp_valF (v := .int .i64 (n : Int)) (by unfold execOp; simp only [ho, resolve, invoke, builtin, Sem.run_bind, Sem.run_pure, Result.andThen_ok, List.map_toArray, List.map_cons, List.map_nil, hx]; go_simp) h
theorem f_conv8 {x : Operand} {n : Nat} (ho : o.op = .convert 3 5 x) (hx : a.eval x = .int .i64 (n : Int)) (hn : n < 256) (h : K (a.put o.dst (.int .u8 (n : Int))) W) : o.wp Tryz.prog a W K Q :=
 wp_valF (v := .int .u8 (n : Int)) (by
  have hw : IntKind.u8.wrap (n : Int) = (n : Int) := by
   show (n : Int) % 256 = _
   omega
  unfold execOp; simp only [ho, hx]; go_simp) h
theorem f_sl8 {x : Operand} {n : Int} (ho : o.op = .buildSlice 22 1 #[(0, x)]) (hx : a.eval x = .int .u8 n) (h : K (a.put o.dst (.slice (some ⟨W.heap.size, 0, none⟩) 1 1)) (W.alloc (.cells #[.int .u8 n] 5))) : o.wp Tryz.prog a W K Q := by
 have hr : (execOp a.eval o).run Tryz.prog W = .ok (.value (.slice (some ⟨W.heap.size, 0, none⟩) 1 1)) (W.alloc (.cells #[.int .u8 n] 5)) := by
  unfold execOp
  simp only [ho, List.map_toArray, List.map_cons, List.map_nil, hx]
  go_simp
 unfold Oper.wp
 rw [hr]
 exact h
end

set_option maxRecDepth 100000 in
set_option maxHeartbeats 2000000 in
theorem rpayload_calls (i : Int) (ao : Option Addr) (c : Nat) (l : List OV) (w : World) (h0 : 0 ≤ i) (h1 : i ≤ 18446744073709551615) (hs : soundB (ops l) = true) (hr : ∀ x ∈ l, x.o.rng) (hat : OpsAt w ao l) :
  Calls Tryz.prog 35 #[.agg (entV i ao l.length c)] w fun e w' => ∃ v', e = .returned v' ∧ Own w' w.heap.size v' (payB i (ops l)) ∧ Below w.heap.size w w' := by
 obtain ⟨hn1, hn2, HS⟩ := soundB_all hs
 have HSK : Hid (∀ k (h : k < l.length), Snd l[k].o) := fun k h => HS _ (List.mem_map.2 ⟨_, List.getElem_mem h, rfl⟩)
 have HRK : Hid (∀ k (h : k < l.length), l[k].o.rng) := fun k h => hr _ (List.getElem_mem h)
 have hlen : (ops l).length = l.length := by simp [ops]
 rw [hlen] at hn1 hn2
 have HPL : Hid (∀ k, k ≤ l.length → (opsB (ops (l.take k))).length ≤ 78784) := fun k hk => by
  have h2 := opsB_le (ops (l.take k)) fun o ho => HS o (by
   obtain ⟨x, hx, rfl⟩ := List.mem_map.1 ho
   exact List.mem_map.2 ⟨x, List.mem_of_mem_take hx, rfl⟩)
  have h3 : (ops (l.take k)).length ≤ 64 := by simp [ops]; omega
  have : (ops (l.take k)).length * 1231 ≤ 64 * 1231 := Nat.mul_le_mul_right _ h3
  omega
 have HE : Hid (payB i (ops l) = big 8 i ++ [byteOf l.length] ++ opsB (ops l)) := by show _ = _; unfold payB; rw [hlen]
 clear HS hs hr hlen
 obtain ⟨n, Hn⟩ : ∃ x, Hid (x = l.length) := ⟨_, rfl⟩
 rw [← Hn.out] at hn1 hn2 HE ⊢
 obtain ⟨wx, Hwx⟩ : ∃ x, Hid (x = w.alloc (.cells (entV i ao n c) 27)) := ⟨_, rfl⟩
 have KA : Hid (Blk wx w.heap.size (entV i ao n c) 27) := by rw [Hwx.out]; exact Blk.new _ _ _
 have HB : Hid (Below w.heap.size w wx) := by rw [Hwx.out]; exact below_new w _
 have c0 : wx.cell? ⟨w.heap.size, 0, none⟩ = some (.int .u64 i) := KA.out.cell 0 rfl
 have HRB : Hid (∀ W, Calls Tryz.prog 19 #[.int .u64 i, .int .i64 8] W fun e w' => ∃ c, e = .returned (.slice (some ⟨W.heap.size, 0, none⟩) 8 c) ∧ Own w' W.heap.size (.slice (some ⟨W.heap.size, 0, none⟩) 8 c) (big 8 i) ∧ Below W.heap.size W w') := fun W => rbig_calls i 8 W h0 h1 (by omega)
 clear c0
 go_enter Tryz.func35, Tryz.ntmps35
 go_upto_region 1 with fail
 rw [← Hwx.out]
 clear Hwx
 refine wp_region_inv 8 (fun j v W => match j with
  | 0 => v = .pointer (some ⟨w.heap.size, 0, none⟩)
  | 1 => v = .int .u64 i
  | 2 => ∃ g cb, v = .slice (some ⟨g, 0, none⟩) 8 cb ∧ Own W w.heap.size (.slice (some ⟨g, 0, none⟩) 8 cb) (big 8 i)
  | 3 => v = .pointer (some ⟨w.heap.size, 1, none⟩)
  | 4 => v = .slice ao n c
  | 5 => v = .int .i64 (n : Int)
  | 6 => v = .int .u8 (n : Int)
  | 7 => ∃ g, v = .slice (some ⟨g, 0, none⟩) 1 1 ∧ CellsAt W (some ⟨g, 0, none⟩) [.int .u8 (n : Int)]
  | _ => False) (by kernel_rfl) (by kernel_rfl) (by kernel_rfl) [some 6, some 7, some 8, some 9, some 10, some 11, some 12, some 13] (by kernel_rfl) ?mono ?hop ?tail
 case mono =>
  intro j v W W' h hb
  match j, h with
  | 0, h => exact h
  | 1, h => exact h
  | 2, ⟨g, cb, h1, h2⟩ => exact ⟨g, cb, h1, h2.below hb⟩
  | 3, h => exact h
  | 4, h => exact h
  | 5, h => exact h
  | 6, h => exact h
  | 7, ⟨g, h1, h2⟩ => exact ⟨g, h1, h2.below hb⟩
 case hop =>
  intro j o hi ho a W hB hs hd
  match j, hi, ho, hd with
  | 0, _, ho, hd =>
   obtain rfl := Option.some.inj ho
   exact f_fldEnt0 (x := .tmp 1) rfl ((hs 1 (by kernel_rfl)).trans rfl) ⟨_, rfl, rfl, Below.refl _ _⟩
  | 1, _, ho, hd =>
   obtain rfl := Option.some.inj ho
   exact f_loadU (x := .tmp 6) rfl (hd 0 6 (by kernel_rfl) (by kernel_rfl)) ((KA.out.below hB).cell 0 rfl) ⟨_, rfl, rfl, Below.refl _ _⟩
  | 2, _, ho, hd =>
   obtain rfl := Option.some.inj ho
   refine wp_callF (f := 19) (vals := #[.int .u64 i, .int .i64 8]) rfl (map2 (hd 1 7 (by kernel_rfl) (by kernel_rfl)) rfl) (by go_simp) ?_
   refine (HRB.out W).mono ?_
   rintro e w' ⟨cb, rfl, hob, hbb⟩
   exact ⟨_, rfl, _, rfl, ⟨_, cb, rfl, row_weak (Nat.le_trans HB.out.size hB.size) hob⟩, hbb⟩
  | 3, _, ho, hd =>
   obtain rfl := Option.some.inj ho
   exact f_fldEnt (x := .tmp 1) rfl ((hs 1 (by kernel_rfl)).trans rfl) ⟨_, rfl, rfl, Below.refl _ _⟩
  | 4, _, ho, hd =>
   obtain rfl := Option.some.inj ho
   exact f_loadOps (x := .tmp 9) rfl (hd 3 9 (by kernel_rfl) (by kernel_rfl)) ((KA.out.below hB).cell 1 rfl) ⟨_, rfl, rfl, Below.refl _ _⟩
  | 5, _, ho, hd =>
   obtain rfl := Option.some.inj ho
   exact f_lenOps (x := .tmp 10) rfl (hd 4 10 (by kernel_rfl) (by kernel_rfl)) ⟨_, rfl, rfl, Below.refl _ _⟩
  | 6, _, ho, hd =>
   obtain rfl := Option.some.inj ho
   exact f_conv8 (x := .tmp 11) rfl (hd 5 11 (by kernel_rfl) (by kernel_rfl)) (by omega) ⟨_, rfl, rfl, Below.refl _ _⟩
  | 7, _, ho, hd =>
   obtain rfl := Option.some.inj ho
   exact f_sl8 (x := .tmp 12) rfl (hd 6 12 (by kernel_rfl) (by kernel_rfl)) ⟨_, rfl, ⟨_, rfl, cells_lit W [.int .u8 (n : Int)] 5⟩, below_new W _⟩
 case tail =>
  intro vs W hB hR
  have r0 : vs 0 = .pointer (some ⟨w.heap.size, 0, none⟩) := hR 0 (by decide)
  have r1 : vs 1 = .int .u64 i := hR 1 (by decide)
  obtain ⟨g2, cb, r2, hob⟩ := hR 2 (by decide)
  have r3 : vs 3 = .pointer (some ⟨w.heap.size, 1, none⟩) := hR 3 (by decide)
  have r4 : vs 4 = .slice ao n c := hR 4 (by decide)
  have r5 : vs 5 = .int .i64 (n : Int) := hR 5 (by decide)
  have r6 : vs 6 = .int .u8 (n : Int) := hR 6 (by decide)
  obtain ⟨g7, r7, hc7⟩ := hR 7 (by decide)
  have HBW : Hid (Below w.heap.size w W) := HB.out.trans (hB.mono HB.out.size)
  have KAW : Hid (Blk W w.heap.size (entV i ao n c) 27) := KA.out.below hB
  have HOB : Hid (Own W w.heap.size (.slice (some ⟨g2, 0, none⟩) 8 cb) (big 8 i)) := hob
  have HN : Hid (bs [byteOf n] = [.int .u8 (n : Int)]) := by
   show _ = _
   rw [bs_lit, byteOf_val]
   rw [show (n : Int) % 256 = n by omega]
  have HC7 : Hid (CellsAt W (some ⟨g7, 0, none⟩) (bs [byteOf n])) := by rw [HN.out]; exact hc7
  have HO8 : Hid (W.ownsRow w.heap.size 5 1 (.slice (some ⟨g2, 0, none⟩) 8 cb) 8 (bs (big 8 i))) := by
   have := HOB.out
   unfold Own at this
   rw [big_length] at this
   exact this
  clear hR hB hob hc7 HRB HB KA HN
  simp only [putL, put_lit, List.setIfInBounds_toArray, List.set_cons_succ, List.set_cons_zero, List.drop_succ_cons, List.drop_zero]
  rw [r0, r1, r2, r3, r4, r5, r6, r7]
  clear r0 r1 r2 r3 r4 r5 r6 r7
  go_wp2_with (at_builtin; refine append_src _ rfl (.tmp 8) (.tmp 13) 22 5 (.int .u8 0) 1 1 Tryz.underlying22 info_u8 rfl (by decide) rfl w.heap.size _ 8 (bs (big 8 i)) rfl HO8.out (some ⟨g7, 0, none⟩) 1 1 (bs [byteOf n]) rfl rfl HC7.out (bs_one _) (by unfold maxLen; omega) (by omega) HBW.out.size ?_)
  intro v2 w2 ho2' hg2
  have KA2 : Hid (Blk w2 w.heap.size (entV i ao n c) 27) := row_grewB KAW.out HO8.out hg2 (by decide)
  have HB2 : Hid (Below w.heap.size w w2) := HBW.out.trans (hg2.toBelow HBW.out.size fun q hq => (HOB.out.lt q hq).1)
  have hl2 : (big 8 i ++ [byteOf n]).length = 9 := by simp [big_length]
  have ho2 : Own w2 w.heap.size v2 (big 8 i ++ [byteOf n]) := by
   unfold Own
   rw [bs_append, hl2]
   exact ho2'
  obtain ⟨p, Hp⟩ : ∃ x, Hid (x = big 8 i ++ [byteOf n]) := name_it _
  rw [← Hp.out] at ho2 hl2 HE
  clear hg2 ho2' HOB HO8 KAW HBW Hp HC7
  have c1 : w2.cell? ⟨w.heap.size, 1, none⟩ = some (.slice ao n c) := KA2.out.cell 1 rfl
  go_wp2_with fail
  clear c1 KA2
  go_loopw [3, 18] (fun x i wr => ∃ k : Nat, k ≤ n ∧ i = .int .i64 k ∧ Own wr w.heap.size x (p ++ opsB (ops (l.take k))) ∧ Hid (Below w.heap.size w wr)) (fun _ i _ => n - (intOf i).toNat)
  case atStart => exact ⟨0, Nat.zero_le _, rfl, by simpa [ops, opsB] using ho2, HB2⟩
  case round =>
   obtain ⟨k, hk, rfl, ho, HBr⟩ := hrel
   clear ho2 HB2
   by_cases hlt : k < n
   ·have hkl : k < l.length := by rw [← Hn.out]; exact hlt
    obtain ⟨b, off, rfl, hrange⟩ := (hat.below HBr.out).at k hkl
    have HC : Hid (CellsAt w l[k].ta (l[k].o.svc.tags.map Value.string)) := hat.tags _ (List.getElem_mem hkl)
    have HT : Hid (p ++ opsB (ops (l.take (k + 1))) = p ++ opsB (ops (l.take k)) ++ opB l[k].o) := by
     show _ = _
     rw [ops_take l k hkl, opsB_snoc, List.append_assoc]
    have hle : (p ++ opsB (ops (l.take k))).length ≤ 78793 := by have := HPL.out k (by omega); simp only [List.length_append]; omega
    obtain ⟨y, Hy⟩ : ∃ y, Hid (y = l[k]'hkl) := ⟨_, rfl⟩
    have hsy : Snd y.o := by rw [Hy.out]; exact HSK.out k hkl
    have hry : y.o.rng := by rw [Hy.out]; exact HRK.out k hkl
    rw [← Hy.out] at hrange HC HT
    obtain ⟨q, Hq⟩ : ∃ x, Hid (x = p ++ opsB (ops (l.take k))) := name_it _
    rw [← Hq.out] at ho HT hle
    clear Hy Hq hkl
    have HRG : Hid (wr.rangeAt b (off + k * 21) y.v.toList) := hrange
    clear hrange
    have hBr := HBr.out.size
    have HSY : Hid (Snd y.o) := hsy
    have HRY : Hid (y.o.rng) := hry
    have hob : (opB y.o).length ≤ 1231 := opB_le hsy
    clear hsy hry
    go_upto_region 4 with fail
    iterate 5 go_step
    refine wp_load_ov rfl rfl HRG.out ?_
    iterate 5 go_step
    refine wp_store_op rfl rfl rfl rfl rfl rfl (ov_one _) ?_
    obtain ⟨w3, Hw3⟩ : ∃ x, Hid (x = wr.alloc (.cells y.v 54)) := ⟨_, rfl⟩
    have KB : Hid (Blk w3 wr.heap.size y.v 54) := by rw [Hw3.out]; exact Blk.new _ _ _
    have HO3 := ho.alloc (.cells y.v 54)
    rw [← Hw3.out] at HO3
    have HB3 : Hid (Below w.heap.size w w3) := by rw [Hw3.out]; exact HBr.out.alloc hBr _
    rw [← Hw3.out]
    clear Hw3 ho HBr HRG
    go_upto_region 5 with fail
    iterate 5 go_step
    refine wp_get_op rfl KB.out rfl rfl ?_
    go_wp2_with fail
    have HB3s := HB3.out.size
    refine (rop2_calls y.o y.ta y.tc w3 HSY.out HRY.out (HC.out.below HB3.out)).mono ?_
    rintro e w4 ⟨v4, rfl, ho4, hb4⟩
    obtain ⟨a4, k4, rfl⟩ := ho4.shape
    have HO4 : Hid (Own w4 w.heap.size _ q) := HO3.below hb4
    have HB4 : Hid (Below w.heap.size w w4) := HB3.out.trans (hb4.mono HB3s)
    have HA4 : Hid (CellsAt w4 a4 (bs (opB y.o))) := ho4.bytes
    obtain ⟨m4, Hm4⟩ : ∃ x, Hid (x = (opB y.o).length) := name_it _
    rw [← Hm4.out] at hob ⊢
    have HL4 : Hid ((bs (opB y.o)).length = m4 * 1) := by show _ = _; rw [bs_length, ← Hm4.out, Nat.mul_one]
    clear hb4 ho4 HO3 HB3 KB
    go_wp2_with (at_builtin; refine append_src _ rfl (.tmp 22) (.tmp 24) 22 5 (.int .u8 0) 1 1 Tryz.underlying22 info_u8 rfl (by decide) rfl w.heap.size _ q.length (bs q) rfl HO4.out a4 m4 k4 (bs (opB y.o)) rfl HL4.out HA4.out (bs_one _) (by unfold maxLen; omega) (by omega) HB4.out.size ?_)
    intro v5 w5 ho5' hg5
    have HB5 : Hid (Below w.heap.size w w5) := HB4.out.trans (hg5.toBelow HB4.out.size fun q' hq => (HO4.out.lt q' hq).1)
    have ho5 : Own w5 w.heap.size v5 (q ++ opB y.o) := by
     unfold Own
     rw [bs_append, List.length_append, ← Hm4.out]
     exact ho5'
    clear hg5 ho5' HO4 HB4 HA4 HL4 Hm4
    go_wp2
    go_roundw
    case rel => exact ⟨k + 1, by omega, by go_num, by rw [HT.out]; exact ho5, HB5⟩
    case measure => simp [intOf]; omega
   ·have HF : Hid (p ++ opsB (ops (l.take k)) = payB i (ops l)) := by
     show _ = _
     rw [HE.out, List.take_of_length_le (by rw [← Hn.out]; omega)]
    go_wp2
    go_ret
    exact ⟨_, rfl, by rw [← HF.out]; exact ho, HBr.out⟩
end Go.Proofs.YtbhhjnbomhkdmaaGreatDoor

/- Layer 9 (records): the document's Label. -/
namespace Go.Proofs.YtbhhjnbomhkdmaaGreatDoor
open Go.RowKit
set_option linter.unusedVariables false

/-- The test of the document's Label, as the walk meets it. -/
def refOk (n k : Nat) (b : UInt8) : Bool := (decide (97 ≤ b.toNat ∧ b.toNat ≤ 122 ∨ 48 ≤ b.toNat ∧ b.toNat ≤ 57)) || (b == 45 && k != 0 && k + 1 != n)
theorem refOk_low (n k : Nat) (b : UInt8) : refOk n k (lowB b) = okAt n k b := by
 rw [← okAt_low]
 have h := lowB_toNat b
 unfold refOk okAt alB dgB
 congr 1
 rw [Bool.eq_iff_iff]
 simp only [Bool.or_eq_true, decide_eq_true_eq]
 constructor
 ·intro h; omega
 ·intro h2
  split at h <;> omega
theorem ref_let {n k : Nat} {b : UInt8} (h : 97 ≤ b.toNat ∧ b.toNat ≤ 122 ∨ 48 ≤ b.toNat ∧ b.toNat ≤ 57) : refOk n k b = true := by
 unfold refOk
 rw [decide_eq_true h]
 rfl
theorem ref_not {n k : Nat} {b : UInt8} (h : ¬ (97 ≤ b.toNat ∧ b.toNat ≤ 122 ∨ 48 ≤ b.toNat ∧ b.toNat ≤ 57)) (h2 : ¬ b = 45 ∨ k = 0 ∨ k + 1 = n) : refOk n k b = false := by
 unfold refOk
 rw [decide_eq_false h]
 rcases h2 with h2 | h2 | h2 <;> simp [h2]
theorem ref_hy {n k : Nat} {b : UInt8} (h : b = 45) (h0 : ¬ k = 0) (h1 : ¬ k + 1 = n) : refOk n k b = true := by
 unfold refOk
 simp [h, h0, h1]
theorem u8_ne45 {b : UInt8} (h : ¬ b = 45) : ¬ (b.toNat : Int) = 45 := fun e => h (UInt8.toNat_inj.1 (Int.ofNat.inj e))
theorem labTo_next {l : ByteArray} {k : Nat} (h : labTo l k) (hk : k < l.size) (hv : okAt l.size k l[k] = true) : labTo l (k + 1) := fun i hi hik => by
 rcases Nat.lt_or_ge i k with h' | h'
 ·exact h i hi h'
 ·obtain rfl : i = k := by omega
  exact hv
set_option maxRecDepth 100000 in
set_option maxHeartbeats 4000000 in
theorem refLabel_calls (s : ByteArray) (w : World) (hs : s.size ≤ 140737488351296) : Calls Tryz.prog 45 #[.string s] w fun e w' => e = .returned (.tuple #[.string (labT s), .int .i64 (labE s)]) ∧ Below w.heap.size w w' := by
 obtain ⟨l, Hl⟩ : ∃ l, Hid (l = lowS s) := ⟨_, rfl⟩
 have hls : l.size = s.size := by rw [Hl.out, lowS_size]
 have hls2 : l.size ≤ 140737488351296 := by omega
 have HT : Hid (labT l = labT s ∧ labE l = labE s) := by rw [Hl.out]; exact ⟨labT_low s, labE_low s⟩
 have HLow : Hid (∀ k (hk : k < l.size), refOk l.size k l[k] = okAt l.size k l[k]) := by
  rw [Hid]
  intro k hk
  have hk' : k < s.size := by omega
  have e : l[k] = lowB s[k] := by
   have := lowS_at s k hk' (by rw [lowS_size]; exact hk')
   rw [← this]
   congr 1
  rw [e, okAt_low, refOk_low]
 have HLL : Hid (lowS l = l) := by rw [Hl.out]; exact lowS_low s
 have HC : Hid (Calls Tryz.prog 63 #[.string s] w fun e w' => e = .returned (.string l) ∧ Below w.heap.size w w') := by rw [Hl.out]; exact refLow_calls s w hs
 clear hls Hl
 go_enter Tryz.func45, Tryz.ntmps45
 go_wp2_with fail
 refine HC.out.mono ?_
 rintro e w1 ⟨rfl, hb1⟩
 have HB : Hid (Below w.heap.size w w1) := hb1
 clear hb1 HC
 by_cases h0 : l.size = 0
 ·have HN : Hid (labT l = ⟨#[]⟩ ∧ labE l = 90) := lab_no (lab_empty h0)
  have q : ((l.size : Int) == 0) = true := by simp [h0]
  clear h0
  go_wp2
  go_ret2
  exact ⟨ret_pairS (HT.out.1.symm.trans HN.out.1).symm (HT.out.2.symm.trans HN.out.2).symm, HB.out⟩
 have q0 : ((l.size : Int) == 0) = false := by rw [beq_eq_false_iff_ne]; omega
 by_cases hl : l.size ≤ 63
 case neg =>
  have HN : Hid (labT l = ⟨#[]⟩ ∧ labE l = 90) := lab_no (lab_long hl)
  have hl' : (63 : Int) < (l.size : Int) := by omega
  go_wp2
  go_ret2
  exact ⟨ret_pairS (HT.out.1.symm.trans HN.out.1).symm (HT.out.2.symm.trans HN.out.2).symm, HB.out⟩
 have hl' : ¬ (63 : Int) < (l.size : Int) := by omega
 go_wp2
 go_loop [5] (fun x => ∃ k : Nat, k ≤ l.size ∧ x = .int .i64 k ∧ Hid (labTo l k)) (fun x => l.size - (intOf x).toNat)
 case atStart => exact ⟨0, Nat.zero_le _, rfl, fun i h h' => by omega⟩
 case round =>
  obtain ⟨k, hk, rfl, HK⟩ := hrel
  by_cases hlt : k < l.size
  ·have hby : (l[k].toNat : Int) ≤ 255 := by have := l[k].toNat_lt; omega
   have HE := HLow.out k hlt
   by_cases h97 : 97 ≤ l[k].toNat
   ·have q1 : (97 : Int) ≤ (l[k].toNat : Int) := by omega
    by_cases h122 : l[k].toNat ≤ 122
    ·have q2 : (l[k].toNat : Int) ≤ 122 := by omega
     have HN : Hid (labTo l (k + 1)) := labTo_next HK.out hlt (by rw [← HE]; exact ref_let (.inl ⟨h97, h122⟩))
     clear HE
     go_wp2
     go_round
     case rel => exact ⟨k + 1, by omega, by go_num, HN⟩
     case measure => simp [intOf]; omega
    ·have q2 : ¬ (l[k].toNat : Int) ≤ 122 := by omega
     have q3 : (48 : Int) ≤ (l[k].toNat : Int) := by omega
     have q4 : ¬ (l[k].toNat : Int) ≤ 57 := by omega
     have hy : ¬ l[k] = 45 := fun e => by rw [e] at h97; exact absurd h97 (by decide)
     have q5 : ¬ (l[k].toNat : Int) = 45 := u8_ne45 hy
     have q6 : ((l[k].toNat : Int) != 45) = true := u8_bne hy
     have HN : Hid (labT l = ⟨#[]⟩ ∧ labE l = 90) := lab_no (lab_bad hlt (by rw [← HE]; exact ref_not (by omega) (.inl hy)))
     clear HE
     go_wp2
     go_ret2
     exact ⟨ret_pairS (HT.out.1.symm.trans HN.out.1).symm (HT.out.2.symm.trans HN.out.2).symm, HB.out⟩
   ·have q1 : ¬ (97 : Int) ≤ (l[k].toNat : Int) := by omega
    by_cases h48 : 48 ≤ l[k].toNat
    ·have q3 : (48 : Int) ≤ (l[k].toNat : Int) := by omega
     have hy : ¬ l[k] = 45 := fun e => by rw [e] at h48; exact absurd h48 (by decide)
     by_cases h57 : l[k].toNat ≤ 57
     ·have q4 : (l[k].toNat : Int) ≤ 57 := by omega
      have HN : Hid (labTo l (k + 1)) := labTo_next HK.out hlt (by rw [← HE]; exact ref_let (.inr ⟨h48, h57⟩))
      clear HE
      go_wp2
      go_round
      case rel => exact ⟨k + 1, by omega, by go_num, HN⟩
      case measure => simp [intOf]; omega
     ·have q4 : ¬ (l[k].toNat : Int) ≤ 57 := by omega
      have q5 : ¬ (l[k].toNat : Int) = 45 := u8_ne45 hy
      have q6 : ((l[k].toNat : Int) != 45) = true := u8_bne hy
      have HN : Hid (labT l = ⟨#[]⟩ ∧ labE l = 90) := lab_no (lab_bad hlt (by rw [← HE]; exact ref_not (by omega) (.inl hy)))
      clear HE
      go_wp2
      go_ret2
      exact ⟨ret_pairS (HT.out.1.symm.trans HN.out.1).symm (HT.out.2.symm.trans HN.out.2).symm, HB.out⟩
    ·have q3 : ¬ (48 : Int) ≤ (l[k].toNat : Int) := by omega
     by_cases hy : l[k] = 45
     ·have q5 : (l[k].toNat : Int) = 45 := by rw [hy]; rfl
      by_cases hk0 : k = 0
      ·have q7 : ((k : Int) == 0) = true := by simp [hk0]
       have HN : Hid (labT l = ⟨#[]⟩ ∧ labE l = 90) := lab_no (lab_bad hlt (by rw [← HE]; exact ref_not (by omega) (.inr (.inl hk0))))
       clear HE hk0 hy
       go_wp2
       go_ret2
       exact ⟨ret_pairS (HT.out.1.symm.trans HN.out.1).symm (HT.out.2.symm.trans HN.out.2).symm, HB.out⟩
      ·have q7 : ((k : Int) == 0) = false := by rw [beq_eq_false_iff_ne]; omega
       by_cases hkl : k + 1 = l.size
       ·have q8 : ((k : Int) == (l.size : Int) - 1) = true := by rw [beq_iff_eq]; omega
        have HN : Hid (labT l = ⟨#[]⟩ ∧ labE l = 90) := lab_no (lab_bad hlt (by rw [← HE]; exact ref_not (by omega) (.inr (.inr hkl))))
        clear HE hk0 hy hkl
        go_wp2
        go_ret2
        exact ⟨ret_pairS (HT.out.1.symm.trans HN.out.1).symm (HT.out.2.symm.trans HN.out.2).symm, HB.out⟩
       ·have q8 : ((k : Int) == (l.size : Int) - 1) = false := by rw [beq_eq_false_iff_ne]; omega
        have HN : Hid (labTo l (k + 1)) := labTo_next HK.out hlt (by rw [← HE]; exact ref_hy hy hk0 hkl)
        clear HE hk0 hy hkl
        go_wp2
        go_round
        case rel => exact ⟨k + 1, by omega, by go_num, HN⟩
        case measure => simp [intOf]; omega
     ·have q5 : ¬ (l[k].toNat : Int) = 45 := u8_ne45 hy
      have q6 : ((l[k].toNat : Int) != 45) = true := u8_bne hy
      have HN : Hid (labT l = ⟨#[]⟩ ∧ labE l = 90) := lab_no (lab_bad hlt (by rw [← HE]; exact ref_not (by omega) (.inl hy)))
      clear HE
      go_wp2
      go_ret2
      exact ⟨ret_pairS (HT.out.1.symm.trans HN.out.1).symm (HT.out.2.symm.trans HN.out.2).symm, HB.out⟩
  ·obtain rfl : k = l.size := by omega
   have HN : Hid (labT l = lowS l ∧ labE l = 0) := lab_yes (lab_good (by omega) hl HK.out)
   rw [HLL.out] at HN
   go_wp2
   go_ret2
   exact ⟨ret_pairS (HT.out.1.symm.trans HN.out.1).symm (HT.out.2.symm.trans HN.out.2).symm, HB.out⟩
end Go.Proofs.YtbhhjnbomhkdmaaGreatDoor

/- The walk of the document's Less. -/
namespace Go.Proofs.YtbhhjnbomhkdmaaGreatDoor
open Go.RowKit
set_option linter.unusedVariables false

theorem less_nil (b : ByteArray) (a : List UInt8) (k : Nat) (h : k < b.size) (ha : a = []) : Op.bytesLess a (b.data.toList.drop k) = true := by
 subst ha
 rw [List.drop_eq_getElem_cons (by simpa using h)]; rfl
theorem less_end (b : ByteArray) (a : List UInt8) (k : Nat) (h : ¬ k < b.size) : Op.bytesLess a (b.data.toList.drop k) = false := by
 rw [List.drop_eq_nil_of_le (by simp; omega)]; cases a <;> rfl
theorem less_step (a b : ByteArray) (k : Nat) (ha : k < a.size) (hb : k < b.size) : Op.bytesLess (a.data.toList.drop k) (b.data.toList.drop k) = (decide (a[k].toNat < b[k].toNat) || (decide (a[k].toNat = b[k].toNat) && Op.bytesLess (a.data.toList.drop (k + 1)) (b.data.toList.drop (k + 1)))) := by
 rw [List.drop_eq_getElem_cons (l := a.data.toList) (by simpa using ha), List.drop_eq_getElem_cons (l := b.data.toList) (by simpa using hb)]
 rw [Op.bytesLess]
 have e1 : (a.data.toList[k]'(by simpa using ha) < b.data.toList[k]'(by simpa using hb)) ↔ a[k].toNat < b[k].toNat := UInt8.lt_iff_toNat_lt
 have e2 : (a.data.toList[k]'(by simpa using ha) == b.data.toList[k]'(by simpa using hb)) = decide (a[k].toNat = b[k].toNat) := by
  rw [Bool.eq_iff_iff, beq_iff_eq, decide_eq_true_iff]
  exact UInt8.toNat_inj.symm
 rw [e2]
 congr 1

set_option maxHeartbeats 1000000 in
theorem less_calls (a b : ByteArray) (w : World) (ha : a.size ≤ 140737488351232) (hb : b.size ≤ 140737488351232) :
  Calls Tryz.prog 75 #[.string a, .string b] w fun e w' => e = .returned (.bool (Op.bytesLess a.toList b.toList)) ∧ ∃ n, w' = w.drewN n := by
 have HL : Hid (Op.bytesLess a.toList b.toList = Op.bytesLess a.data.toList b.data.toList) := by
  show _ = _
  rw [ByteArray.toList_eq, ByteArray.toList_eq]
 go_enter Tryz.func75, Tryz.ntmps75
 go_wp2
 go_loopw [5] (fun i wr => ∃ k n : Nat, k ≤ b.size ∧ i = .int .i64 k ∧ Hid (Op.bytesLess (a.data.toList.drop k) (b.data.toList.drop k) = Op.bytesLess a.data.toList b.data.toList) ∧ wr = w.drewN n) (fun i _ => b.size - (intOf i).toNat)
 case atStart => exact ⟨0, 0, Nat.zero_le _, rfl, rfl, rfl⟩
 case round =>
  obtain ⟨k, n, hk, rfl, HC, rfl⟩ := hrel
  by_cases hlt : k < b.size
  ·by_cases hla : k < a.size
   ·have hd : decide ((a.size : Int) ≤ (k : Int)) = false := by simp; omega
    have hi1 : (0 : Int) ≤ (k : Int) ∧ (k : Int) < (a.size : Int) := by omega
    have hi2 : (0 : Int) ≤ (k : Int) ∧ (k : Int) < (b.size : Int) := by omega
    have HS : Hid (Op.bytesLess (a.data.toList.drop k) (b.data.toList.drop k) = (decide (a[k].toNat < b[k].toNat) || (decide (a[k].toNat = b[k].toNat) && Op.bytesLess (a.data.toList.drop (k + 1)) (b.data.toList.drop (k + 1))))) := less_step a b k hla hlt
    go_wp2
    go_quiet (fail)
    by_cases h1 : a[k].toNat < b[k].toNat
    ·have h1i : (a[k].toNat : Int) < (b[k].toNat : Int) := by omega
     have HT : Hid (Op.bytesLess a.data.toList b.data.toList = true) := by
      show _ = _
      rw [← HC.out, HS.out]; simp [h1]
     go_wp2
     go_ret
     exact ⟨ret_bool (HL.out.trans HT.out).symm, _, by first | rfl | exact World.drewN_drewN _ _ _⟩
    ·have h1i : ¬ (a[k].toNat : Int) < (b[k].toNat : Int) := by omega
     go_wp2
     go_quiet (fail)
     by_cases h2 : b[k].toNat < a[k].toNat
     ·have h2i : (b[k].toNat : Int) < (a[k].toNat : Int) := by omega
      have HT : Hid (Op.bytesLess a.data.toList b.data.toList = false) := by
       show _ = _
       rw [← HC.out, HS.out]; simp [h1]; intro h; omega
      go_wp2
      go_ret
      exact ⟨ret_bool (HL.out.trans HT.out).symm, _, by first | rfl | exact World.drewN_drewN _ _ _⟩
     ·have h2i : ¬ (b[k].toNat : Int) < (a[k].toNat : Int) := by omega
      have HC2 : Hid (Op.bytesLess (a.data.toList.drop (k + 1)) (b.data.toList.drop (k + 1)) = Op.bytesLess a.data.toList b.data.toList) := by
       show _ = _
       rw [← HC.out, HS.out]; simp [show a[k].toNat = b[k].toNat by omega]
      go_wp2
      go_roundw
      case rel => exact ⟨k + 1, _, by omega, by go_num, HC2, rfl⟩
      case measure => simp [intOf]; omega
   ·have hd : decide ((a.size : Int) ≤ (k : Int)) = true := by simp; omega
    have HT : Hid (Op.bytesLess a.data.toList b.data.toList = true) := by
     show _ = _
     rw [← HC.out]; exact less_nil b _ k hlt (List.drop_eq_nil_of_le (by simp; omega))
    go_wp2
    go_quiet (fail)
    go_wp2
    go_ret
    exact ⟨ret_bool (HL.out.trans HT.out).symm, _, by first | rfl | exact World.drewN_drewN _ _ _⟩
  ·have HT : Hid (Op.bytesLess a.data.toList b.data.toList = false) := by
    show _ = _
    rw [← HC.out]; exact less_end b _ k hlt
   go_wp2
   go_ret
   exact ⟨ret_bool (HL.out.trans HT.out).symm, n, rfl⟩
end Go.Proofs.YtbhhjnbomhkdmaaGreatDoor
