/- Layer 13 (journal): op of the reader. -/
import Derived.Test.YthgcnmilaifkoaaGreatDoorJTxs
import Derived.Test.YthgcnmilaifkoaaGreatDoorRcCopyS
import Derived.Test.YthgcnmilaifkoaaGreatDoorJOdd
namespace Go.Proofs.YthgcnmilaifkoaaGreatDoor
open Go.RowKit
set_option linter.unusedVariables false

def txt (s : Rd) : ByteArray := ⟨(txB s).toArray⟩
/-- The operation that is read, and what is left. -/
def opP (s : Rd) : Opp × Rd :=
 let k := smlB s
 let c := casP (tkS 1 s)
 let a := c.2
 let b := txS a
 let d := txS b
 let e := txS d
 if k = 1 then (⟨k, ⟨txt a, txt b, 0, 0⟩, svcZ, chkZ, c.1.1, c.1.2⟩, d)
 else if k = 2 then (⟨k, nodeZ, ⟨txt a, txt b, txt d, unbig (tkB 2 e), (textsP (tkS 2 e)).1, 0, 0⟩, chkZ, c.1.1, c.1.2⟩, (textsP (tkS 2 e)).2)
 else if k = 3 then (⟨k, nodeZ, svcZ, ⟨txt a, txt b, txt d, smlB e, txt (tkS 1 e), 0, 0⟩, c.1.1, c.1.2⟩, txS (tkS 1 e))
 else if k = 4 then (⟨k, ⟨txt a, ⟨#[]⟩, 0, 0⟩, svcZ, chkZ, c.1.1, c.1.2⟩, b)
 else if k = 5 then (⟨k, nodeZ, ⟨txt a, txt b, ⟨#[]⟩, 0, [], 0, 0⟩, chkZ, c.1.1, c.1.2⟩, d)
 else if k = 6 then (⟨k, nodeZ, svcZ, ⟨txt a, txt b, ⟨#[]⟩, 0, ⟨#[]⟩, 0, 0⟩, c.1.1, c.1.2⟩, d)
 else (⟨k, nodeZ, svcZ, chkZ, c.1.1, c.1.2⟩, a)
def RopA (w : World) (rb : Nat) (s : Rd) (e : Ending) (w' : World) : Prop := ∃ tv, e = .returned (.agg ((opP s).1.v tv)) ∧ w'.ownsRow w.heap.size 9 1 tv (opP s).1.svc.tags.length ((opP s).1.svc.tags.map Value.string) ∧ Rdd w rb (opP s).2 w'
theorem casP_len (s : Rd) : (casP s).2.1.length ≤ s.1.length := by
 unfold casP
 split
 ·exact tkS_len _ _
 split
 ·exact Nat.le_trans (tkS_len _ _) (tkS_len _ _)
 ·exact tkS_len _ _
theorem textsP_len (s : Rd) : (textsP s).2.1.length ≤ s.1.length := Nat.le_trans (txsP_len _ _).2 (tkS_len _ _)
theorem Rdd.over {w w' w'' : World} {rb : Nat} {s : Rd} (h : Rdd w rb s w') (hr : rb < w.heap.size) (hb : Below w.heap.size w' w'') : Rdd w rb s w'' :=
 ⟨h.at'.keep (hb.mono (by omega)), ⟨hb.os.trans h.grown.os, hb.tape.trans h.grown.tape, hb.output.trans h.grown.output, Nat.le_trans h.grown.size hb.size, fun k hk hne => (hb.block k hk).trans (h.grown.block k hk hne)⟩⟩
theorem Blk.grown {w w' : World} {rb b : Nat} {cs : Array Value} {T : TypeId} (h : Blk w b cs T) (hg : w.grownBy w' (some rb)) (hne : b ≠ rb) : Blk w' b cs T := (hg.block b h.lt (by simpa using hne)).trans h
/-- What stands between two reads of op. -/
structure OpI (w : World) (rb g2 g3 : Nat) (C Z : Array Value) (s : Rd) (W : World) : Prop where
 rd : Rdd w rb s W
 k3 : Blk W g3 C 47
 k2 : Blk W g2 Z 47
 len : s.1.length ≤ 140737488355328
theorem OpI.read {w W W' : World} {rb g2 g3 : Nat} {C Z : Array Value} {s s' : Rd} (h : OpI w rb g2 g3 C Z s W) (h2 : g2 ≠ rb) (h3 : g3 ≠ rb) (hl : s'.1.length ≤ s.1.length) (hr : Rdd W rb s' W') : OpI w rb g2 g3 C Z s' W' :=
 ⟨h.rd.trans hr, h.k3.grown hr.grown h3, h.k2.grown hr.grown h2, Nat.le_trans hl h.len⟩
theorem OpI.put {w W : World} {rb g2 g3 : Nat} {C C' Z : Array Value} {s : Rd} (h : OpI w rb g2 g3 C Z s W) (hrb : rb < w.heap.size) (h3 : w.heap.size ≤ g3) (h23 : g2 ≠ g3) (l : List Value) (k : Nat) (hC : (C.toList.take k ++ l ++ C.toList.drop (k + l.length)).toArray = C') (hk : k + l.length ≤ C.size) : OpI w rb g2 g3 C' Z s (putC W g3 k l) :=
 ⟨h.rd.over hrb (putC_below _ _ _ (Below.refl _ _) h3), by rw [← hC]; exact putC_mid l W k C h.k3 hk, putC_other h23 l W k h.k2, h.len⟩

set_option maxRecDepth 100000 in
set_option maxHeartbeats 8000000 in
theorem rop_calls (rb : Nat) (s : Rd) (w : World) (hl : s.1.length ≤ 140737488355328) (h : RdAt w rb s) :
  Calls Tryz.prog 64 #[.pointer (some ⟨rb, 0, none⟩)] w fun e w' => RopA w rb s e w' := by
 have hrb := h.lt
 obtain ⟨wx, Hwx⟩ : ∃ x, Hid (x = w.alloc (.cells (oppZ.v (.slice none 0 0)) 47)) := ⟨_, rfl⟩
 have HB : Hid (Below w.heap.size w wx) := by rw [Hwx.out]; exact below_new w _
 have HX : Hid (Blk wx w.heap.size (oppZ.v (.slice none 0 0)) 47) := by rw [Hwx.out]; exact Blk.new _ _ _
 have HR0 : Hid (Rdd w rb s wx) := ⟨h.below HB.out, grown_below HB.out⟩
 have HC : Hid (Calls Tryz.prog 63 #[.pointer (some ⟨rb, 0, none⟩)] wx fun e w' => SmlA wx rb s e w') := small_calls rb s wx hl HR0.out.at'
 have hks := smlB_lt s
 clear h
 go_enter Tryz.func64, Tryz.ntmps64
 go_upto_region 1 with fail
 change Code.wp _ _ _ _ (w.alloc (.cells (oppZ.v (.slice none 0 0)) 47))
 rw [← Hwx.out]
 clear Hwx
 go_wp2_with fail
 refine HC.out.mono ?_
 rintro e w1 ⟨rfl, hr⟩
 have HR1 : Hid (Rdd w rb (tkS 1 s) w1) := HR0.out.trans hr
 have HX1 : Hid (Blk w1 w.heap.size (oppZ.v (.slice none 0 0)) 47) := HX.out.grown hr.grown (by omega)
 clear hr HC HR0 HX HB
 obtain ⟨kd, Hkd⟩ : ∃ x, Hid (x = smlB s) := ⟨_, rfl⟩
 rw [← Hkd.out] at hks ⊢
 dsimp only
 iterate 8 go_step
 refine wp_store_op (c' := Opp.v ⟨kd, nodeZ, svcZ, chkZ, false, 0⟩ (.slice none 0 0)) rfl rfl rfl rfl rfl rfl (v_oneN _ _ _ _) ?_
 obtain ⟨w2, Hw2⟩ : ∃ x, Hid (x = w1.alloc (.cells (Opp.v ⟨kd, nodeZ, svcZ, chkZ, false, 0⟩ (.slice none 0 0)) 47)) := ⟨_, rfl⟩
 have hsz1 : w.heap.size + 1 ≤ w1.heap.size := by have := HX1.out.lt; omega
 have HI2 : Hid (OpI w rb w.heap.size w1.heap.size (Opp.v ⟨kd, nodeZ, svcZ, chkZ, false, 0⟩ (.slice none 0 0)) (oppZ.v (.slice none 0 0)) (tkS 1 s) w2) := by
  rw [Hw2.out]
  exact ⟨HR1.out.below (below_new _ _), Blk.new _ _ _, HX1.out.alloc _, Nat.le_trans (tkS_len 1 s) hl⟩
 rw [← Hw2.out]
 obtain ⟨g3, Hg3⟩ : ∃ x, Hid (x = w1.heap.size) := ⟨_, rfl⟩
 rw [← Hg3.out] at HI2 hsz1 ⊢
 obtain ⟨g2, Hg2⟩ : ∃ x, Hid (x = w.heap.size) := ⟨_, rfl⟩
 have h2 : g2 ≠ rb := by rw [Hg2.out]; omega
 have h3 : g3 ≠ rb := by omega
 have h3w : w.heap.size ≤ g3 := by omega
 have h23 : g2 ≠ g3 := by rw [Hg2.out]; omega
 rw [← Hg2.out] at HI2 ⊢
 clear Hw2 Hg3 HR1 HX1 hsz1
 have HC : Hid (Calls Tryz.prog 73 #[.pointer (some ⟨rb, 0, none⟩)] w2 fun e w' => CasA w2 rb (tkS 1 s) e w') := cas_calls rb (tkS 1 s) w2 HI2.out.len HI2.out.rd.at'
 go_wp2_with fail
 refine HC.out.mono ?_
 rintro e w3 ⟨rfl, hr⟩
 have HI3 : Hid (OpI w rb g2 g3 (Opp.v ⟨kd, nodeZ, svcZ, chkZ, false, 0⟩ (.slice none 0 0)) (oppZ.v (.slice none 0 0)) (casP (tkS 1 s)).2 w3) := HI2.out.read h2 h3 (casP_len _) hr
 clear hr HC HI2
 obtain ⟨cb, Hcb⟩ : ∃ x, Hid (x = (casP (tkS 1 s)).1.1) := ⟨_, rfl⟩
 obtain ⟨cw, Hcw⟩ : ∃ x, Hid (x = (casP (tkS 1 s)).1.2) := ⟨_, rfl⟩
 obtain ⟨a, Ha⟩ : ∃ x, Hid (x = (casP (tkS 1 s)).2) := ⟨_, rfl⟩
 rw [← Hcb.out, ← Hcw.out]
 rw [← Ha.out] at HI3
 have HOP : Hid (opP s = if kd = 1 then (⟨kd, ⟨txt a, txt (txS a), 0, 0⟩, svcZ, chkZ, cb, cw⟩, txS (txS a)) else if kd = 2 then (⟨kd, nodeZ, ⟨txt a, txt (txS a), txt (txS (txS a)), unbig (tkB 2 (txS (txS (txS a)))), (textsP (tkS 2 (txS (txS (txS a))))).1, 0, 0⟩, chkZ, cb, cw⟩, (textsP (tkS 2 (txS (txS (txS a))))).2)
  else if kd = 3 then (⟨kd, nodeZ, svcZ, ⟨txt a, txt (txS a), txt (txS (txS a)), smlB (txS (txS (txS a))), txt (tkS 1 (txS (txS (txS a)))), 0, 0⟩, cb, cw⟩, txS (tkS 1 (txS (txS (txS a)))))
  else if kd = 4 then (⟨kd, ⟨txt a, ⟨#[]⟩, 0, 0⟩, svcZ, chkZ, cb, cw⟩, txS a) else if kd = 5 then (⟨kd, nodeZ, ⟨txt a, txt (txS a), ⟨#[]⟩, 0, [], 0, 0⟩, chkZ, cb, cw⟩, txS (txS a))
  else if kd = 6 then (⟨kd, nodeZ, svcZ, ⟨txt a, txt (txS a), ⟨#[]⟩, 0, ⟨#[]⟩, 0, 0⟩, cb, cw⟩, txS (txS a)) else (⟨kd, nodeZ, svcZ, chkZ, cb, cw⟩, a)) := by
  show _ = _
  rw [Hkd.out, Hcb.out, Hcw.out, Ha.out]
  rfl
 clear Hcb Hcw Ha Hkd
 obtain ⟨w4, Hw4⟩ : ∃ x, Hid (x = putC w3 g3 19 [.bool cb, .int .u64 (cw : Nat)]) := ⟨_, rfl⟩
 have HI4 : Hid (OpI w rb g2 g3 (Opp.v ⟨kd, nodeZ, svcZ, chkZ, cb, cw⟩ (.slice none 0 0)) (oppZ.v (.slice none 0 0)) a w4) := by rw [Hw4.out]; exact HI3.out.put hrb h3w h23 [.bool cb, .int .u64 (cw : Nat)] 19 rfl (Nat.le_of_ble_eq_true rfl)
 have x19 : w3.cell? ⟨g3, 19, none⟩ = some (.bool false) := HI3.out.k3.cell 19 rfl
 have x20 : w3.cell? ⟨g3, 20, none⟩ = some (.int .u64 0) := HI3.out.k3.cell 20 rfl
 have f19 := HI3.out.k3.open 19
 have f20 := HI3.out.k3.open 20
 dsimp only
 go_upto_region 3 with fail
 change Code.wp _ _ _ _ (putC w3 g3 19 [.bool cb, .int .u64 (cw : Nat)])
 rw [← Hw4.out]
 clear Hw4 HI3 x19 x20 f19 f20
 have x0 : w4.cell? ⟨g3, 0, none⟩ = some (.int .i64 kd) := HI4.out.k3.cell 0 rfl
 by_cases hk1 : kd = 1
 ·have HPO : Hid (opP s = (⟨kd, ⟨txt a, txt (txS a), 0, 0⟩, svcZ, chkZ, cb, cw⟩, txS (txS a))) := by show _ = _; rw [HOP.out, if_pos hk1]
  clear HOP
  subst hk1
  have HC : Hid (Calls Tryz.prog 74 #[.pointer (some ⟨rb, 0, none⟩)] w4 fun e w' => TxtA w4 rb (a) e w') := text_calls rb (a) w4 HI4.out.len HI4.out.rd.at'
  go_wp2_with fail
  refine HC.out.mono ?_
  rintro e v1 ⟨rfl, hr⟩
  have HJ1 : Hid (OpI w rb g2 g3 (Opp.v ⟨1, nodeZ, svcZ, chkZ, cb, cw⟩ (.slice none 0 0)) (oppZ.v (.slice none 0 0)) (txS (a)) v1) := HI4.out.read h2 h3 (txS_len _) hr
  clear hr HC HI4
  obtain ⟨t1, Ht1⟩ : ∃ x : ByteArray, Hid (x = txt (a)) := ⟨_, rfl⟩
  rw [show (⟨(txB (a)).toArray⟩ : ByteArray) = t1 from Ht1.out.symm]
  rw [← Ht1.out] at HPO
  clear Ht1
  have HC : Hid (Calls Tryz.prog 74 #[.pointer (some ⟨rb, 0, none⟩)] v1 fun e w' => TxtA v1 rb (txS (a)) e w') := text_calls rb (txS (a)) v1 HJ1.out.len HJ1.out.rd.at'
  go_wp2_with fail
  refine HC.out.mono ?_
  rintro e v2 ⟨rfl, hr⟩
  have HJ2 : Hid (OpI w rb g2 g3 (Opp.v ⟨1, nodeZ, svcZ, chkZ, cb, cw⟩ (.slice none 0 0)) (oppZ.v (.slice none 0 0)) (txS (txS (a))) v2) := HJ1.out.read h2 h3 (txS_len _) hr
  clear hr HC HJ1
  obtain ⟨t2, Ht2⟩ : ∃ x : ByteArray, Hid (x = txt (txS (a))) := ⟨_, rfl⟩
  rw [show (⟨(txB (txS (a))).toArray⟩ : ByteArray) = t2 from Ht2.out.symm]
  rw [← Ht2.out] at HPO
  clear Ht2
  dsimp only
  iterate 8 go_step
  refine wp_put_part (l := [.string t1, .string t2, .int .u64 0, .int .u64 0]) rfl HJ2.out.k3 rfl rfl (Nat.le_of_ble_eq_true rfl) size_node (by simp [Value.oneCell']) ?_
  obtain ⟨we, Hwe⟩ : ∃ x, Hid (x = putC v2 g3 1 [.string t1, .string t2, .int .u64 0, .int .u64 0]) := ⟨_, rfl⟩
  have HIe : Hid (OpI w rb g2 g3 (Opp.v ⟨1, ⟨t1, t2, 0, 0⟩, svcZ, chkZ, cb, cw⟩ (.slice none 0 0)) (oppZ.v (.slice none 0 0)) (txS (txS (a))) we) := by rw [Hwe.out]; exact HJ2.out.put hrb h3w h23 [.string t1, .string t2, .int .u64 0, .int .u64 0] 1 rfl (Nat.le_of_ble_eq_true rfl)
  rw [← Hwe.out]
  clear Hwe HJ2
  obtain ⟨oo, Hoo⟩ : ∃ x : Opp, Hid (x = ⟨1, ⟨t1, t2, 0, 0⟩, svcZ, chkZ, cb, cw⟩) := ⟨_, rfl⟩
  have HFin : Hid (RopA w rb s (.returned (.agg (oo.v (.slice none 0 0)))) (we.setRow g2 (oo.v (.slice none 0 0)))) := by
   refine ⟨.slice none 0 0, by rw [HPO.out, Hoo.out] <;> rfl, ?_, ?_⟩
   ·rw [HPO.out]
    exact World.ownsRow_nil _ _ _ _
   ·rw [HPO.out]
    dsimp only
    exact HIe.out.rd.over hrb (below_setRow (Below.refl _ _) (by rw [Hg2.out]; exact Nat.le_refl _) _)
  have HK3 : Hid (Blk we g3 (oo.v (.slice none 0 0)) 47) := by rw [Hoo.out]; exact HIe.out.k3
  have HK2 : Hid (Blk we g2 (oppZ.v (.slice none 0 0)) 47) := HIe.out.k2
  have HLd : Hid ((loadVar 47 ⟨g2, 0, none⟩).run Tryz.prog (we.setRow g2 (oo.v (.slice none 0 0))) = .ok (.agg (oo.v (.slice none 0 0))) (we.setRow g2 (oo.v (.slice none 0 0)))) := load_op (blk_setRow HK2.out _) rfl
  have hone : (oo.v (.slice none 0 0)).all (·.oneCell') = true := v_oneN _ _ _ _
  have HONE : Hid ((oo.v (.slice none 0 0)).all (·.oneCell') = true) := hone
  clear hone HIe HPO Hoo
  go_upto_region 16 with fail
  iterate 2 go_step
  refine wp_get_op rfl HK3.out rfl rfl ?_
  iterate 2 go_step
  refine wp_put_op rfl HK2.out rfl rfl rfl rfl HONE.out ?_
  go_wp2
  exact ret_box1 (g := g2) (w := (we.setRow g2 (oo.v (.slice none 0 0)))) rfl rfl rfl HLd.out HFin.out
 by_cases hk2 : kd = 2
 ·have HPO : Hid (opP s = (⟨kd, nodeZ, ⟨txt a, txt (txS a), txt (txS (txS a)), unbig (tkB 2 (txS (txS (txS a)))), (textsP (tkS 2 (txS (txS (txS a))))).1, 0, 0⟩, chkZ, cb, cw⟩, (textsP (tkS 2 (txS (txS (txS a))))).2)) := by show _ = _; rw [HOP.out, if_neg hk1, if_pos hk2]
  clear HOP
  have n1 : ¬ (kd : Int) = 1 := by omega
  clear hk1
  subst hk2
  have HC : Hid (Calls Tryz.prog 74 #[.pointer (some ⟨rb, 0, none⟩)] w4 fun e w' => TxtA w4 rb (a) e w') := text_calls rb (a) w4 HI4.out.len HI4.out.rd.at'
  go_wp2_with fail
  refine HC.out.mono ?_
  rintro e v1 ⟨rfl, hr⟩
  have HJ1 : Hid (OpI w rb g2 g3 (Opp.v ⟨2, nodeZ, svcZ, chkZ, cb, cw⟩ (.slice none 0 0)) (oppZ.v (.slice none 0 0)) (txS (a)) v1) := HI4.out.read h2 h3 (txS_len _) hr
  clear hr HC HI4
  obtain ⟨t1, Ht1⟩ : ∃ x : ByteArray, Hid (x = txt (a)) := ⟨_, rfl⟩
  rw [show (⟨(txB (a)).toArray⟩ : ByteArray) = t1 from Ht1.out.symm]
  rw [← Ht1.out] at HPO
  clear Ht1
  have HC : Hid (Calls Tryz.prog 74 #[.pointer (some ⟨rb, 0, none⟩)] v1 fun e w' => TxtA v1 rb (txS (a)) e w') := text_calls rb (txS (a)) v1 HJ1.out.len HJ1.out.rd.at'
  go_wp2_with fail
  refine HC.out.mono ?_
  rintro e v2 ⟨rfl, hr⟩
  have HJ2 : Hid (OpI w rb g2 g3 (Opp.v ⟨2, nodeZ, svcZ, chkZ, cb, cw⟩ (.slice none 0 0)) (oppZ.v (.slice none 0 0)) (txS (txS (a))) v2) := HJ1.out.read h2 h3 (txS_len _) hr
  clear hr HC HJ1
  obtain ⟨t2, Ht2⟩ : ∃ x : ByteArray, Hid (x = txt (txS (a))) := ⟨_, rfl⟩
  rw [show (⟨(txB (txS (a))).toArray⟩ : ByteArray) = t2 from Ht2.out.symm]
  rw [← Ht2.out] at HPO
  clear Ht2
  have HC : Hid (Calls Tryz.prog 74 #[.pointer (some ⟨rb, 0, none⟩)] v2 fun e w' => TxtA v2 rb (txS (txS (a))) e w') := text_calls rb (txS (txS (a))) v2 HJ2.out.len HJ2.out.rd.at'
  go_wp2_with fail
  refine HC.out.mono ?_
  rintro e v3 ⟨rfl, hr⟩
  have HJ3 : Hid (OpI w rb g2 g3 (Opp.v ⟨2, nodeZ, svcZ, chkZ, cb, cw⟩ (.slice none 0 0)) (oppZ.v (.slice none 0 0)) (txS (txS (txS (a)))) v3) := HJ2.out.read h2 h3 (txS_len _) hr
  clear hr HC HJ2
  obtain ⟨t3, Ht3⟩ : ∃ x : ByteArray, Hid (x = txt (txS (txS (a)))) := ⟨_, rfl⟩
  rw [show (⟨(txB (txS (txS (a)))).toArray⟩ : ByteArray) = t3 from Ht3.out.symm]
  rw [← Ht3.out] at HPO
  clear Ht3
  have HC : Hid (Calls Tryz.prog 62 #[.pointer (some ⟨rb, 0, none⟩), .int .i64 2] v3 fun e w' => NumA v3 rb 2 (txS (txS (txS (a)))) e w') := number_calls rb (txS (txS (txS (a)))) 2 v3 HJ3.out.len (by omega) HJ3.out.rd.at'
  go_wp2_with fail
  refine HC.out.mono ?_
  rintro e v4 ⟨rfl, hr⟩
  have HJ4 : Hid (OpI w rb g2 g3 (Opp.v ⟨2, nodeZ, svcZ, chkZ, cb, cw⟩ (.slice none 0 0)) (oppZ.v (.slice none 0 0)) (tkS 2 (txS (txS (txS (a))))) v4) := HJ3.out.read h2 h3 (tkS_len _ _) hr
  clear hr HC HJ3
  have hsm : unbig (tkB 2 (txS (txS (txS (a))))) < 65536 := unbig_le _ 2 (tkB_len 2 _)
  obtain ⟨t4, Ht4⟩ : ∃ x, Hid (x = unbig (tkB 2 (txS (txS (txS (a)))))) := ⟨_, rfl⟩
  rw [← Ht4.out] at hsm HPO ⊢
  have HC : Hid (Calls Tryz.prog 75 #[.pointer (some ⟨rb, 0, none⟩)] v4 fun e w' => TxsA v4 rb (tkS 2 (txS (txS (txS (a))))) e w') := texts_calls rb (tkS 2 (txS (txS (txS (a))))) v4 HJ4.out.len HJ4.out.rd.at'
  go_wp2_with fail
  refine HC.out.mono ?_
  rintro e v5 ⟨tv, rfl, hrow, hr⟩
  have HROW : Hid (v5.ownsRow w.heap.size 9 1 tv (textsP (tkS 2 (txS (txS (txS (a)))))).1.length ((textsP (tkS 2 (txS (txS (txS (a)))))).1.map Value.string)) := row_weak HJ4.out.rd.grown.size hrow
  obtain ⟨ta, tc, rfl, -⟩ := row_forms hrow
  clear hrow
  have HJ5 : Hid (OpI w rb g2 g3 (Opp.v ⟨2, nodeZ, svcZ, chkZ, cb, cw⟩ (.slice none 0 0)) (oppZ.v (.slice none 0 0)) ((textsP (tkS 2 (txS (txS (txS (a)))))).2) v5) := HJ4.out.read h2 h3 (textsP_len _) hr
  clear hr HC HJ4
  obtain ⟨t5, Ht5⟩ : ∃ x, Hid (x = (textsP (tkS 2 (txS (txS (txS (a)))))).1) := ⟨_, rfl⟩
  rw [← Ht5.out] at HROW HPO ⊢
  dsimp only
  iterate 8 go_step
  refine wp_put_part (l := [.string t1, .string t2, .string t3, .int .i64 t4, .slice ta t5.length tc, .int .u64 0, .int .u64 0]) rfl HJ5.out.k3 rfl rfl (Nat.le_of_ble_eq_true rfl) size_svc (by simp [Value.oneCell']) ?_
  obtain ⟨we, Hwe⟩ : ∃ x, Hid (x = putC v5 g3 5 [.string t1, .string t2, .string t3, .int .i64 t4, .slice ta t5.length tc, .int .u64 0, .int .u64 0]) := ⟨_, rfl⟩
  have HIe : Hid (OpI w rb g2 g3 (Opp.v ⟨2, nodeZ, ⟨t1, t2, t3, t4, t5, 0, 0⟩, chkZ, cb, cw⟩ (.slice ta t5.length tc)) (oppZ.v (.slice none 0 0)) ((textsP (tkS 2 (txS (txS (txS (a)))))).2) we) := by rw [Hwe.out]; exact HJ5.out.put hrb h3w h23 [.string t1, .string t2, .string t3, .int .i64 t4, .slice ta t5.length tc, .int .u64 0, .int .u64 0] 5 rfl (Nat.le_of_ble_eq_true rfl)
  have HRE : Hid (we.ownsRow w.heap.size 9 1 (.slice ta t5.length tc) t5.length (t5.map Value.string)) := by rw [Hwe.out]; exact row_putK HJ5.out.k3 (by decide) HROW.out _ _
  rw [← Hwe.out]
  clear Hwe HJ5
  obtain ⟨oo, Hoo⟩ : ∃ x : Opp, Hid (x = ⟨2, nodeZ, ⟨t1, t2, t3, t4, t5, 0, 0⟩, chkZ, cb, cw⟩) := ⟨_, rfl⟩
  have HFin : Hid (RopA w rb s (.returned (.agg (oo.v (.slice ta t5.length tc)))) (we.setRow g2 (oo.v (.slice ta t5.length tc)))) := by
   refine ⟨.slice ta t5.length tc, by rw [HPO.out, Hoo.out] <;> rfl, ?_, ?_⟩
   ·rw [HPO.out]
    exact row_setRow HIe.out.k2 (by decide) HRE.out _
   ·rw [HPO.out]
    dsimp only
    exact HIe.out.rd.over hrb (below_setRow (Below.refl _ _) (by rw [Hg2.out]; exact Nat.le_refl _) _)
  have HK3 : Hid (Blk we g3 (oo.v (.slice ta t5.length tc)) 47) := by rw [Hoo.out]; exact HIe.out.k3
  have HK2 : Hid (Blk we g2 (oppZ.v (.slice none 0 0)) 47) := HIe.out.k2
  have HLd : Hid ((loadVar 47 ⟨g2, 0, none⟩).run Tryz.prog (we.setRow g2 (oo.v (.slice ta t5.length tc))) = .ok (.agg (oo.v (.slice ta t5.length tc))) (we.setRow g2 (oo.v (.slice ta t5.length tc)))) := load_op (blk_setRow HK2.out _) rfl
  have hone : (oo.v (.slice ta t5.length tc)).all (·.oneCell') = true := v_oneN _ _ _ _
  have HONE : Hid ((oo.v (.slice ta t5.length tc)).all (·.oneCell') = true) := hone
  clear hone HIe HPO Hoo
  go_upto_region 16 with fail
  iterate 2 go_step
  refine wp_get_op rfl HK3.out rfl rfl ?_
  iterate 2 go_step
  refine wp_put_op rfl HK2.out rfl rfl rfl rfl HONE.out ?_
  go_wp2
  exact ret_box1 (g := g2) (w := (we.setRow g2 (oo.v (.slice ta t5.length tc)))) rfl rfl rfl HLd.out HFin.out
 by_cases hk3 : kd = 3
 ·have HPO : Hid (opP s = (⟨kd, nodeZ, svcZ, ⟨txt a, txt (txS a), txt (txS (txS a)), smlB (txS (txS (txS a))), txt (tkS 1 (txS (txS (txS a)))), 0, 0⟩, cb, cw⟩, txS (tkS 1 (txS (txS (txS a)))))) := by show _ = _; rw [HOP.out, if_neg hk1, if_neg hk2, if_pos hk3]
  clear HOP
  have n1 : ¬ (kd : Int) = 1 := by omega
  have n2 : ¬ (kd : Int) = 2 := by omega
  clear hk1 hk2
  subst hk3
  have HC : Hid (Calls Tryz.prog 74 #[.pointer (some ⟨rb, 0, none⟩)] w4 fun e w' => TxtA w4 rb (a) e w') := text_calls rb (a) w4 HI4.out.len HI4.out.rd.at'
  go_wp2_with fail
  refine HC.out.mono ?_
  rintro e v1 ⟨rfl, hr⟩
  have HJ1 : Hid (OpI w rb g2 g3 (Opp.v ⟨3, nodeZ, svcZ, chkZ, cb, cw⟩ (.slice none 0 0)) (oppZ.v (.slice none 0 0)) (txS (a)) v1) := HI4.out.read h2 h3 (txS_len _) hr
  clear hr HC HI4
  obtain ⟨t1, Ht1⟩ : ∃ x : ByteArray, Hid (x = txt (a)) := ⟨_, rfl⟩
  rw [show (⟨(txB (a)).toArray⟩ : ByteArray) = t1 from Ht1.out.symm]
  rw [← Ht1.out] at HPO
  clear Ht1
  have HC : Hid (Calls Tryz.prog 74 #[.pointer (some ⟨rb, 0, none⟩)] v1 fun e w' => TxtA v1 rb (txS (a)) e w') := text_calls rb (txS (a)) v1 HJ1.out.len HJ1.out.rd.at'
  go_wp2_with fail
  refine HC.out.mono ?_
  rintro e v2 ⟨rfl, hr⟩
  have HJ2 : Hid (OpI w rb g2 g3 (Opp.v ⟨3, nodeZ, svcZ, chkZ, cb, cw⟩ (.slice none 0 0)) (oppZ.v (.slice none 0 0)) (txS (txS (a))) v2) := HJ1.out.read h2 h3 (txS_len _) hr
  clear hr HC HJ1
  obtain ⟨t2, Ht2⟩ : ∃ x : ByteArray, Hid (x = txt (txS (a))) := ⟨_, rfl⟩
  rw [show (⟨(txB (txS (a))).toArray⟩ : ByteArray) = t2 from Ht2.out.symm]
  rw [← Ht2.out] at HPO
  clear Ht2
  have HC : Hid (Calls Tryz.prog 74 #[.pointer (some ⟨rb, 0, none⟩)] v2 fun e w' => TxtA v2 rb (txS (txS (a))) e w') := text_calls rb (txS (txS (a))) v2 HJ2.out.len HJ2.out.rd.at'
  go_wp2_with fail
  refine HC.out.mono ?_
  rintro e v3 ⟨rfl, hr⟩
  have HJ3 : Hid (OpI w rb g2 g3 (Opp.v ⟨3, nodeZ, svcZ, chkZ, cb, cw⟩ (.slice none 0 0)) (oppZ.v (.slice none 0 0)) (txS (txS (txS (a)))) v3) := HJ2.out.read h2 h3 (txS_len _) hr
  clear hr HC HJ2
  obtain ⟨t3, Ht3⟩ : ∃ x : ByteArray, Hid (x = txt (txS (txS (a)))) := ⟨_, rfl⟩
  rw [show (⟨(txB (txS (txS (a)))).toArray⟩ : ByteArray) = t3 from Ht3.out.symm]
  rw [← Ht3.out] at HPO
  clear Ht3
  have HC : Hid (Calls Tryz.prog 63 #[.pointer (some ⟨rb, 0, none⟩)] v3 fun e w' => SmlA v3 rb (txS (txS (txS (a)))) e w') := small_calls rb (txS (txS (txS (a)))) v3 HJ3.out.len HJ3.out.rd.at'
  go_wp2_with fail
  refine HC.out.mono ?_
  rintro e v4 ⟨rfl, hr⟩
  have HJ4 : Hid (OpI w rb g2 g3 (Opp.v ⟨3, nodeZ, svcZ, chkZ, cb, cw⟩ (.slice none 0 0)) (oppZ.v (.slice none 0 0)) (tkS 1 (txS (txS (txS (a))))) v4) := HJ3.out.read h2 h3 (tkS_len _ _) hr
  clear hr HC HJ3
  have hsm := smlB_lt (txS (txS (txS (a))))
  obtain ⟨t4, Ht4⟩ : ∃ x, Hid (x = smlB (txS (txS (txS (a))))) := ⟨_, rfl⟩
  rw [← Ht4.out] at hsm HPO ⊢
  have HC : Hid (Calls Tryz.prog 74 #[.pointer (some ⟨rb, 0, none⟩)] v4 fun e w' => TxtA v4 rb (tkS 1 (txS (txS (txS (a))))) e w') := text_calls rb (tkS 1 (txS (txS (txS (a))))) v4 HJ4.out.len HJ4.out.rd.at'
  go_wp2_with fail
  refine HC.out.mono ?_
  rintro e v5 ⟨rfl, hr⟩
  have HJ5 : Hid (OpI w rb g2 g3 (Opp.v ⟨3, nodeZ, svcZ, chkZ, cb, cw⟩ (.slice none 0 0)) (oppZ.v (.slice none 0 0)) (txS (tkS 1 (txS (txS (txS (a)))))) v5) := HJ4.out.read h2 h3 (txS_len _) hr
  clear hr HC HJ4
  obtain ⟨t5, Ht5⟩ : ∃ x : ByteArray, Hid (x = txt (tkS 1 (txS (txS (txS (a)))))) := ⟨_, rfl⟩
  rw [show (⟨(txB (tkS 1 (txS (txS (txS (a)))))).toArray⟩ : ByteArray) = t5 from Ht5.out.symm]
  rw [← Ht5.out] at HPO
  clear Ht5
  dsimp only
  iterate 8 go_step
  refine wp_put_part (l := [.string t1, .string t2, .string t3, .int .i64 t4, .string t5, .int .u64 0, .int .u64 0]) rfl HJ5.out.k3 rfl rfl (Nat.le_of_ble_eq_true rfl) size_chk (by simp [Value.oneCell']) ?_
  obtain ⟨we, Hwe⟩ : ∃ x, Hid (x = putC v5 g3 12 [.string t1, .string t2, .string t3, .int .i64 t4, .string t5, .int .u64 0, .int .u64 0]) := ⟨_, rfl⟩
  have HIe : Hid (OpI w rb g2 g3 (Opp.v ⟨3, nodeZ, svcZ, ⟨t1, t2, t3, t4, t5, 0, 0⟩, cb, cw⟩ (.slice none 0 0)) (oppZ.v (.slice none 0 0)) (txS (tkS 1 (txS (txS (txS (a)))))) we) := by rw [Hwe.out]; exact HJ5.out.put hrb h3w h23 [.string t1, .string t2, .string t3, .int .i64 t4, .string t5, .int .u64 0, .int .u64 0] 12 rfl (Nat.le_of_ble_eq_true rfl)
  rw [← Hwe.out]
  clear Hwe HJ5
  obtain ⟨oo, Hoo⟩ : ∃ x : Opp, Hid (x = ⟨3, nodeZ, svcZ, ⟨t1, t2, t3, t4, t5, 0, 0⟩, cb, cw⟩) := ⟨_, rfl⟩
  have HFin : Hid (RopA w rb s (.returned (.agg (oo.v (.slice none 0 0)))) (we.setRow g2 (oo.v (.slice none 0 0)))) := by
   refine ⟨.slice none 0 0, by rw [HPO.out, Hoo.out] <;> rfl, ?_, ?_⟩
   ·rw [HPO.out]
    exact World.ownsRow_nil _ _ _ _
   ·rw [HPO.out]
    dsimp only
    exact HIe.out.rd.over hrb (below_setRow (Below.refl _ _) (by rw [Hg2.out]; exact Nat.le_refl _) _)
  have HK3 : Hid (Blk we g3 (oo.v (.slice none 0 0)) 47) := by rw [Hoo.out]; exact HIe.out.k3
  have HK2 : Hid (Blk we g2 (oppZ.v (.slice none 0 0)) 47) := HIe.out.k2
  have HLd : Hid ((loadVar 47 ⟨g2, 0, none⟩).run Tryz.prog (we.setRow g2 (oo.v (.slice none 0 0))) = .ok (.agg (oo.v (.slice none 0 0))) (we.setRow g2 (oo.v (.slice none 0 0)))) := load_op (blk_setRow HK2.out _) rfl
  have hone : (oo.v (.slice none 0 0)).all (·.oneCell') = true := v_oneN _ _ _ _
  have HONE : Hid ((oo.v (.slice none 0 0)).all (·.oneCell') = true) := hone
  clear hone HIe HPO Hoo
  go_upto_region 16 with fail
  iterate 2 go_step
  refine wp_get_op rfl HK3.out rfl rfl ?_
  iterate 2 go_step
  refine wp_put_op rfl HK2.out rfl rfl rfl rfl HONE.out ?_
  go_wp2
  exact ret_box1 (g := g2) (w := (we.setRow g2 (oo.v (.slice none 0 0)))) rfl rfl rfl HLd.out HFin.out
 by_cases hk4 : kd = 4
 ·have HPO : Hid (opP s = (⟨kd, ⟨txt a, ⟨#[]⟩, 0, 0⟩, svcZ, chkZ, cb, cw⟩, txS a)) := by show _ = _; rw [HOP.out, if_neg hk1, if_neg hk2, if_neg hk3, if_pos hk4]
  clear HOP
  have n1 : ¬ (kd : Int) = 1 := by omega
  have n2 : ¬ (kd : Int) = 2 := by omega
  have n3 : ¬ (kd : Int) = 3 := by omega
  clear hk1 hk2 hk3
  subst hk4
  have HC : Hid (Calls Tryz.prog 74 #[.pointer (some ⟨rb, 0, none⟩)] w4 fun e w' => TxtA w4 rb (a) e w') := text_calls rb (a) w4 HI4.out.len HI4.out.rd.at'
  go_wp2_with fail
  refine HC.out.mono ?_
  rintro e v1 ⟨rfl, hr⟩
  have HJ1 : Hid (OpI w rb g2 g3 (Opp.v ⟨4, nodeZ, svcZ, chkZ, cb, cw⟩ (.slice none 0 0)) (oppZ.v (.slice none 0 0)) (txS (a)) v1) := HI4.out.read h2 h3 (txS_len _) hr
  clear hr HC HI4
  obtain ⟨t1, Ht1⟩ : ∃ x : ByteArray, Hid (x = txt (a)) := ⟨_, rfl⟩
  rw [show (⟨(txB (a)).toArray⟩ : ByteArray) = t1 from Ht1.out.symm]
  rw [← Ht1.out] at HPO
  clear Ht1
  dsimp only
  iterate 8 go_step
  refine wp_put_part (l := [.string t1, .string ⟨#[]⟩, .int .u64 0, .int .u64 0]) rfl HJ1.out.k3 rfl rfl (Nat.le_of_ble_eq_true rfl) size_node (by simp [Value.oneCell']) ?_
  obtain ⟨we, Hwe⟩ : ∃ x, Hid (x = putC v1 g3 1 [.string t1, .string ⟨#[]⟩, .int .u64 0, .int .u64 0]) := ⟨_, rfl⟩
  have HIe : Hid (OpI w rb g2 g3 (Opp.v ⟨4, ⟨t1, ⟨#[]⟩, 0, 0⟩, svcZ, chkZ, cb, cw⟩ (.slice none 0 0)) (oppZ.v (.slice none 0 0)) (txS (a)) we) := by rw [Hwe.out]; exact HJ1.out.put hrb h3w h23 [.string t1, .string ⟨#[]⟩, .int .u64 0, .int .u64 0] 1 rfl (Nat.le_of_ble_eq_true rfl)
  rw [← Hwe.out]
  clear Hwe HJ1
  obtain ⟨oo, Hoo⟩ : ∃ x : Opp, Hid (x = ⟨4, ⟨t1, ⟨#[]⟩, 0, 0⟩, svcZ, chkZ, cb, cw⟩) := ⟨_, rfl⟩
  have HFin : Hid (RopA w rb s (.returned (.agg (oo.v (.slice none 0 0)))) (we.setRow g2 (oo.v (.slice none 0 0)))) := by
   refine ⟨.slice none 0 0, by rw [HPO.out, Hoo.out] <;> rfl, ?_, ?_⟩
   ·rw [HPO.out]
    exact World.ownsRow_nil _ _ _ _
   ·rw [HPO.out]
    dsimp only
    exact HIe.out.rd.over hrb (below_setRow (Below.refl _ _) (by rw [Hg2.out]; exact Nat.le_refl _) _)
  have HK3 : Hid (Blk we g3 (oo.v (.slice none 0 0)) 47) := by rw [Hoo.out]; exact HIe.out.k3
  have HK2 : Hid (Blk we g2 (oppZ.v (.slice none 0 0)) 47) := HIe.out.k2
  have HLd : Hid ((loadVar 47 ⟨g2, 0, none⟩).run Tryz.prog (we.setRow g2 (oo.v (.slice none 0 0))) = .ok (.agg (oo.v (.slice none 0 0))) (we.setRow g2 (oo.v (.slice none 0 0)))) := load_op (blk_setRow HK2.out _) rfl
  have hone : (oo.v (.slice none 0 0)).all (·.oneCell') = true := v_oneN _ _ _ _
  have HONE : Hid ((oo.v (.slice none 0 0)).all (·.oneCell') = true) := hone
  clear hone HIe HPO Hoo
  go_upto_region 16 with fail
  iterate 2 go_step
  refine wp_get_op rfl HK3.out rfl rfl ?_
  iterate 2 go_step
  refine wp_put_op rfl HK2.out rfl rfl rfl rfl HONE.out ?_
  go_wp2
  exact ret_box1 (g := g2) (w := (we.setRow g2 (oo.v (.slice none 0 0)))) rfl rfl rfl HLd.out HFin.out
 by_cases hk5 : kd = 5
 ·have HPO : Hid (opP s = (⟨kd, nodeZ, ⟨txt a, txt (txS a), ⟨#[]⟩, 0, [], 0, 0⟩, chkZ, cb, cw⟩, txS (txS a))) := by show _ = _; rw [HOP.out, if_neg hk1, if_neg hk2, if_neg hk3, if_neg hk4, if_pos hk5]
  clear HOP
  have n1 : ¬ (kd : Int) = 1 := by omega
  have n2 : ¬ (kd : Int) = 2 := by omega
  have n3 : ¬ (kd : Int) = 3 := by omega
  have n4 : ¬ (kd : Int) = 4 := by omega
  clear hk1 hk2 hk3 hk4
  subst hk5
  have HC : Hid (Calls Tryz.prog 74 #[.pointer (some ⟨rb, 0, none⟩)] w4 fun e w' => TxtA w4 rb (a) e w') := text_calls rb (a) w4 HI4.out.len HI4.out.rd.at'
  go_wp2_with fail
  refine HC.out.mono ?_
  rintro e v1 ⟨rfl, hr⟩
  have HJ1 : Hid (OpI w rb g2 g3 (Opp.v ⟨5, nodeZ, svcZ, chkZ, cb, cw⟩ (.slice none 0 0)) (oppZ.v (.slice none 0 0)) (txS (a)) v1) := HI4.out.read h2 h3 (txS_len _) hr
  clear hr HC HI4
  obtain ⟨t1, Ht1⟩ : ∃ x : ByteArray, Hid (x = txt (a)) := ⟨_, rfl⟩
  rw [show (⟨(txB (a)).toArray⟩ : ByteArray) = t1 from Ht1.out.symm]
  rw [← Ht1.out] at HPO
  clear Ht1
  have HC : Hid (Calls Tryz.prog 74 #[.pointer (some ⟨rb, 0, none⟩)] v1 fun e w' => TxtA v1 rb (txS (a)) e w') := text_calls rb (txS (a)) v1 HJ1.out.len HJ1.out.rd.at'
  go_wp2_with fail
  refine HC.out.mono ?_
  rintro e v2 ⟨rfl, hr⟩
  have HJ2 : Hid (OpI w rb g2 g3 (Opp.v ⟨5, nodeZ, svcZ, chkZ, cb, cw⟩ (.slice none 0 0)) (oppZ.v (.slice none 0 0)) (txS (txS (a))) v2) := HJ1.out.read h2 h3 (txS_len _) hr
  clear hr HC HJ1
  obtain ⟨t2, Ht2⟩ : ∃ x : ByteArray, Hid (x = txt (txS (a))) := ⟨_, rfl⟩
  rw [show (⟨(txB (txS (a))).toArray⟩ : ByteArray) = t2 from Ht2.out.symm]
  rw [← Ht2.out] at HPO
  clear Ht2
  dsimp only
  iterate 8 go_step
  refine wp_put_part (l := [.string t1, .string t2, .string ⟨#[]⟩, .int .i64 0, .slice none 0 0, .int .u64 0, .int .u64 0]) rfl HJ2.out.k3 rfl rfl (Nat.le_of_ble_eq_true rfl) size_svc (by simp [Value.oneCell']) ?_
  obtain ⟨we, Hwe⟩ : ∃ x, Hid (x = putC v2 g3 5 [.string t1, .string t2, .string ⟨#[]⟩, .int .i64 0, .slice none 0 0, .int .u64 0, .int .u64 0]) := ⟨_, rfl⟩
  have HIe : Hid (OpI w rb g2 g3 (Opp.v ⟨5, nodeZ, ⟨t1, t2, ⟨#[]⟩, 0, [], 0, 0⟩, chkZ, cb, cw⟩ (.slice none 0 0)) (oppZ.v (.slice none 0 0)) (txS (txS (a))) we) := by rw [Hwe.out]; exact HJ2.out.put hrb h3w h23 [.string t1, .string t2, .string ⟨#[]⟩, .int .i64 0, .slice none 0 0, .int .u64 0, .int .u64 0] 5 rfl (Nat.le_of_ble_eq_true rfl)
  rw [← Hwe.out]
  clear Hwe HJ2
  obtain ⟨oo, Hoo⟩ : ∃ x : Opp, Hid (x = ⟨5, nodeZ, ⟨t1, t2, ⟨#[]⟩, 0, [], 0, 0⟩, chkZ, cb, cw⟩) := ⟨_, rfl⟩
  have HFin : Hid (RopA w rb s (.returned (.agg (oo.v (.slice none 0 0)))) (we.setRow g2 (oo.v (.slice none 0 0)))) := by
   refine ⟨.slice none 0 0, by rw [HPO.out, Hoo.out] <;> rfl, ?_, ?_⟩
   ·rw [HPO.out]
    exact World.ownsRow_nil _ _ _ _
   ·rw [HPO.out]
    dsimp only
    exact HIe.out.rd.over hrb (below_setRow (Below.refl _ _) (by rw [Hg2.out]; exact Nat.le_refl _) _)
  have HK3 : Hid (Blk we g3 (oo.v (.slice none 0 0)) 47) := by rw [Hoo.out]; exact HIe.out.k3
  have HK2 : Hid (Blk we g2 (oppZ.v (.slice none 0 0)) 47) := HIe.out.k2
  have HLd : Hid ((loadVar 47 ⟨g2, 0, none⟩).run Tryz.prog (we.setRow g2 (oo.v (.slice none 0 0))) = .ok (.agg (oo.v (.slice none 0 0))) (we.setRow g2 (oo.v (.slice none 0 0)))) := load_op (blk_setRow HK2.out _) rfl
  have hone : (oo.v (.slice none 0 0)).all (·.oneCell') = true := v_oneN _ _ _ _
  have HONE : Hid ((oo.v (.slice none 0 0)).all (·.oneCell') = true) := hone
  clear hone HIe HPO Hoo
  go_upto_region 16 with fail
  iterate 2 go_step
  refine wp_get_op rfl HK3.out rfl rfl ?_
  iterate 2 go_step
  refine wp_put_op rfl HK2.out rfl rfl rfl rfl HONE.out ?_
  go_wp2
  exact ret_box1 (g := g2) (w := (we.setRow g2 (oo.v (.slice none 0 0)))) rfl rfl rfl HLd.out HFin.out
 by_cases hk6 : kd = 6
 ·have HPO : Hid (opP s = (⟨kd, nodeZ, svcZ, ⟨txt a, txt (txS a), ⟨#[]⟩, 0, ⟨#[]⟩, 0, 0⟩, cb, cw⟩, txS (txS a))) := by show _ = _; rw [HOP.out, if_neg hk1, if_neg hk2, if_neg hk3, if_neg hk4, if_neg hk5, if_pos hk6]
  clear HOP
  have n1 : ¬ (kd : Int) = 1 := by omega
  have n2 : ¬ (kd : Int) = 2 := by omega
  have n3 : ¬ (kd : Int) = 3 := by omega
  have n4 : ¬ (kd : Int) = 4 := by omega
  have n5 : ¬ (kd : Int) = 5 := by omega
  clear hk1 hk2 hk3 hk4 hk5
  subst hk6
  have HC : Hid (Calls Tryz.prog 74 #[.pointer (some ⟨rb, 0, none⟩)] w4 fun e w' => TxtA w4 rb (a) e w') := text_calls rb (a) w4 HI4.out.len HI4.out.rd.at'
  go_wp2_with fail
  refine HC.out.mono ?_
  rintro e v1 ⟨rfl, hr⟩
  have HJ1 : Hid (OpI w rb g2 g3 (Opp.v ⟨6, nodeZ, svcZ, chkZ, cb, cw⟩ (.slice none 0 0)) (oppZ.v (.slice none 0 0)) (txS (a)) v1) := HI4.out.read h2 h3 (txS_len _) hr
  clear hr HC HI4
  obtain ⟨t1, Ht1⟩ : ∃ x : ByteArray, Hid (x = txt (a)) := ⟨_, rfl⟩
  rw [show (⟨(txB (a)).toArray⟩ : ByteArray) = t1 from Ht1.out.symm]
  rw [← Ht1.out] at HPO
  clear Ht1
  have HC : Hid (Calls Tryz.prog 74 #[.pointer (some ⟨rb, 0, none⟩)] v1 fun e w' => TxtA v1 rb (txS (a)) e w') := text_calls rb (txS (a)) v1 HJ1.out.len HJ1.out.rd.at'
  go_wp2_with fail
  refine HC.out.mono ?_
  rintro e v2 ⟨rfl, hr⟩
  have HJ2 : Hid (OpI w rb g2 g3 (Opp.v ⟨6, nodeZ, svcZ, chkZ, cb, cw⟩ (.slice none 0 0)) (oppZ.v (.slice none 0 0)) (txS (txS (a))) v2) := HJ1.out.read h2 h3 (txS_len _) hr
  clear hr HC HJ1
  obtain ⟨t2, Ht2⟩ : ∃ x : ByteArray, Hid (x = txt (txS (a))) := ⟨_, rfl⟩
  rw [show (⟨(txB (txS (a))).toArray⟩ : ByteArray) = t2 from Ht2.out.symm]
  rw [← Ht2.out] at HPO
  clear Ht2
  dsimp only
  iterate 8 go_step
  refine wp_put_part (l := [.string t1, .string t2, .string ⟨#[]⟩, .int .i64 0, .string ⟨#[]⟩, .int .u64 0, .int .u64 0]) rfl HJ2.out.k3 rfl rfl (Nat.le_of_ble_eq_true rfl) size_chk (by simp [Value.oneCell']) ?_
  obtain ⟨we, Hwe⟩ : ∃ x, Hid (x = putC v2 g3 12 [.string t1, .string t2, .string ⟨#[]⟩, .int .i64 0, .string ⟨#[]⟩, .int .u64 0, .int .u64 0]) := ⟨_, rfl⟩
  have HIe : Hid (OpI w rb g2 g3 (Opp.v ⟨6, nodeZ, svcZ, ⟨t1, t2, ⟨#[]⟩, 0, ⟨#[]⟩, 0, 0⟩, cb, cw⟩ (.slice none 0 0)) (oppZ.v (.slice none 0 0)) (txS (txS (a))) we) := by rw [Hwe.out]; exact HJ2.out.put hrb h3w h23 [.string t1, .string t2, .string ⟨#[]⟩, .int .i64 0, .string ⟨#[]⟩, .int .u64 0, .int .u64 0] 12 rfl (Nat.le_of_ble_eq_true rfl)
  rw [← Hwe.out]
  clear Hwe HJ2
  obtain ⟨oo, Hoo⟩ : ∃ x : Opp, Hid (x = ⟨6, nodeZ, svcZ, ⟨t1, t2, ⟨#[]⟩, 0, ⟨#[]⟩, 0, 0⟩, cb, cw⟩) := ⟨_, rfl⟩
  have HFin : Hid (RopA w rb s (.returned (.agg (oo.v (.slice none 0 0)))) (we.setRow g2 (oo.v (.slice none 0 0)))) := by
   refine ⟨.slice none 0 0, by rw [HPO.out, Hoo.out] <;> rfl, ?_, ?_⟩
   ·rw [HPO.out]
    exact World.ownsRow_nil _ _ _ _
   ·rw [HPO.out]
    dsimp only
    exact HIe.out.rd.over hrb (below_setRow (Below.refl _ _) (by rw [Hg2.out]; exact Nat.le_refl _) _)
  have HK3 : Hid (Blk we g3 (oo.v (.slice none 0 0)) 47) := by rw [Hoo.out]; exact HIe.out.k3
  have HK2 : Hid (Blk we g2 (oppZ.v (.slice none 0 0)) 47) := HIe.out.k2
  have HLd : Hid ((loadVar 47 ⟨g2, 0, none⟩).run Tryz.prog (we.setRow g2 (oo.v (.slice none 0 0))) = .ok (.agg (oo.v (.slice none 0 0))) (we.setRow g2 (oo.v (.slice none 0 0)))) := load_op (blk_setRow HK2.out _) rfl
  have hone : (oo.v (.slice none 0 0)).all (·.oneCell') = true := v_oneN _ _ _ _
  have HONE : Hid ((oo.v (.slice none 0 0)).all (·.oneCell') = true) := hone
  clear hone HIe HPO Hoo
  go_upto_region 16 with fail
  iterate 2 go_step
  refine wp_get_op rfl HK3.out rfl rfl ?_
  iterate 2 go_step
  refine wp_put_op rfl HK2.out rfl rfl rfl rfl HONE.out ?_
  go_wp2
  exact ret_box1 (g := g2) (w := (we.setRow g2 (oo.v (.slice none 0 0)))) rfl rfl rfl HLd.out HFin.out
 have HPO : Hid (opP s = (⟨kd, nodeZ, svcZ, chkZ, cb, cw⟩, a)) := by show _ = _; rw [HOP.out, if_neg hk1, if_neg hk2, if_neg hk3, if_neg hk4, if_neg hk5, if_neg hk6]
 have n1 : ((kd : Int) == 1) = false := by simp; omega
 have n2 : ((kd : Int) == 2) = false := by simp; omega
 have n3 : ((kd : Int) == 3) = false := by simp; omega
 have n4 : ((kd : Int) == 4) = false := by simp; omega
 have n5 : ((kd : Int) == 5) = false := by simp; omega
 have n6 : ((kd : Int) == 6) = false := by simp; omega
 clear HOP hk1 hk2 hk3 hk4 hk5 hk6
 have HIe := HI4
 clear HI4
 obtain ⟨oo, Hoo⟩ : ∃ x : Opp, Hid (x = ⟨kd, nodeZ, svcZ, chkZ, cb, cw⟩) := ⟨_, rfl⟩
 have HFin : Hid (RopA w rb s (.returned (.agg (oo.v (.slice none 0 0)))) (w4.setRow g2 (oo.v (.slice none 0 0)))) := by
  refine ⟨.slice none 0 0, by rw [HPO.out, Hoo.out] <;> rfl, ?_, ?_⟩
  ·rw [HPO.out]
   exact World.ownsRow_nil _ _ _ _
  ·rw [HPO.out]
   dsimp only
   exact HIe.out.rd.over hrb (below_setRow (Below.refl _ _) (by rw [Hg2.out]; exact Nat.le_refl _) _)
 have HK3 : Hid (Blk w4 g3 (oo.v (.slice none 0 0)) 47) := by rw [Hoo.out]; exact HIe.out.k3
 have HK2 : Hid (Blk w4 g2 (oppZ.v (.slice none 0 0)) 47) := HIe.out.k2
 have HLd : Hid ((loadVar 47 ⟨g2, 0, none⟩).run Tryz.prog (w4.setRow g2 (oo.v (.slice none 0 0))) = .ok (.agg (oo.v (.slice none 0 0))) (w4.setRow g2 (oo.v (.slice none 0 0)))) := load_op (blk_setRow HK2.out _) rfl
 have hone : (oo.v (.slice none 0 0)).all (·.oneCell') = true := v_oneN _ _ _ _
 have HONE : Hid ((oo.v (.slice none 0 0)).all (·.oneCell') = true) := hone
 clear hone HIe HPO Hoo
 go_upto_region 16 with fail
 iterate 2 go_step
 refine wp_get_op rfl HK3.out rfl rfl ?_
 iterate 2 go_step
 refine wp_put_op rfl HK2.out rfl rfl rfl rfl HONE.out ?_
 go_wp2
 exact ret_box1 (g := g2) (w := (w4.setRow g2 (oo.v (.slice none 0 0)))) rfl rfl rfl HLd.out HFin.out
end Go.Proofs.YthgcnmilaifkoaaGreatDoor
