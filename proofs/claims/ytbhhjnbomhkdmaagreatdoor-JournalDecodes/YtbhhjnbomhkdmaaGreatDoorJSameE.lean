import Derived.Test.YtbhhjnbomhkdmaaGreatDoorJEqV
import Derived.Test.YtbhhjnbomhkdmaaGreatDoorJEqN
import Derived.Test.YtbhhjnbomhkdmaaGreatDoorJDOpL
/- Layer 13 (journal): the document's SameOp. -/
namespace Go.Proofs.YtbhhjnbomhkdmaaGreatDoor
open Go.RowKit
set_option linter.unusedVariables false
set_option linter.unusedSimpArgs false

set_option maxRecDepth 100000 in
set_option maxHeartbeats 4000000 in
theorem rsameOp_calls (a b : Opp) (ta tb : Option Addr) (ca cb : Nat) (w : World) (hla : a.svc.tags.length ≤ 140737488355328) (hlb : b.svc.tags.length ≤ 140737488355328) (ha : CellsAt w ta (a.svc.tags.map Value.string)) (hb : CellsAt w tb (b.svc.tags.map Value.string)) :
  Calls Tryz.prog 24 #[.agg (a.v (.slice ta a.svc.tags.length ca)), .agg (b.v (.slice tb b.svc.tags.length cb))] w fun e w' => e = .returned (.bool (sameO a b)) ∧ Below w.heap.size w w' := by
 obtain ⟨S, HSd⟩ : ∃ x, Hid (x = sameS a.svc b.svc) := ⟨_, rfl⟩
 obtain ⟨N, HNd⟩ : ∃ x, Hid (x = sameN a.node b.node) := ⟨_, rfl⟩
 obtain ⟨C, HCd⟩ : ∃ x, Hid (x = sameC a.chk b.chk) := ⟨_, rfl⟩
 have HT : Hid (∀ w', Below w.heap.size w w' → Calls Tryz.prog 40 #[.agg (a.svc.v (.slice ta a.svc.tags.length ca)), .agg (b.svc.v (.slice tb b.svc.tags.length cb))] w' fun e w'' => e = .returned (.bool S) ∧ Below w'.heap.size w' w'') := fun w' h => by rw [HSd.out]; exact rsameService_calls a.svc b.svc ta tb ca cb w' hla hlb (ha.below h) (hb.below h)
 have hN : ∀ W : World, (binOp .eql 50 (.agg a.node.v) (.agg b.node.v)).run Tryz.prog W = .ok (.bool N) W := fun W => by rw [HNd.out]; exact run_eql_node a.node b.node W
 have hC : ∀ W : World, (binOp .eql 52 (.agg a.chk.v) (.agg b.chk.v)).run Tryz.prog W = .ok (.bool C) W := fun W => by rw [HCd.out]; exact run_eql_chk a.chk b.chk W
 have hg1 := guard_nd
 have hg2 := guard_ck
 clear ha hb hla hlb
 obtain ⟨R, HR⟩ : ∃ x, Hid (x = sameO a b) := ⟨_, rfl⟩
 have HRE : Hid (sameO a b = ((a.kind == b.kind) && N && S && C && (a.cas == b.cas) && (a.want == b.want))) := by show _ = _; rw [HNd.out, HSd.out, HCd.out]; rfl
 rw [HRE.out] at HR
 rw [HRE.out, ← HR.out]
 clear HRE HNd HSd HCd
 obtain ⟨ak, ⟨an1, an2, an3, an4⟩, ⟨as1, as2, as3, as4, at_, as6, as7⟩, ⟨ac1, ac2, ac3, ac4, ac5, ac6, ac7⟩, ab, aw⟩ := a
 obtain ⟨bk, ⟨bn1, bn2, bn3, bn4⟩, ⟨bs1, bs2, bs3, bs4, bt_, bs6, bs7⟩, ⟨bc1, bc2, bc3, bc4, bc5, bc6, bc7⟩, bb, bw⟩ := b
 simp only [Opp.v, Sp.v, Nd.v, Ck.v] at *
 obtain ⟨la, Hla⟩ : ∃ x, Hid (x = at_.length) := ⟨_, rfl⟩
 obtain ⟨lb, Hlb⟩ : ∃ x, Hid (x = bt_.length) := ⟨_, rfl⟩
 rw [← Hla.out, ← Hlb.out] at HT ⊢
 clear Hla Hlb
 obtain ⟨w2, Hw2⟩ : ∃ w2, Hid (w2 = (w.alloc (.cells #[.int .i64 ak, .string an1, .string an2, .int .u64 an3, .int .u64 an4, .string as1, .string as2, .string as3, .int .i64 as4, .slice ta la ca, .int .u64 as6, .int .u64 as7, .string ac1, .string ac2, .string ac3, .int .i64 ac4, .string ac5, .int .u64 ac6, .int .u64 ac7, .bool ab, .int .u64 aw] 54)).alloc (.cells #[.int .i64 bk, .string bn1, .string bn2, .int .u64 bn3, .int .u64 bn4, .string bs1, .string bs2, .string bs3, .int .i64 bs4, .slice tb lb cb, .int .u64 bs6, .int .u64 bs7, .string bc1, .string bc2, .string bc3, .int .i64 bc4, .string bc5, .int .u64 bc6, .int .u64 bc7, .bool bb, .int .u64 bw] 54)) := ⟨_, rfl⟩
 have hz : (w.alloc (.cells #[.int .i64 ak, .string an1, .string an2, .int .u64 an3, .int .u64 an4, .string as1, .string as2, .string as3, .int .i64 as4, .slice ta la ca, .int .u64 as6, .int .u64 as7, .string ac1, .string ac2, .string ac3, .int .i64 ac4, .string ac5, .int .u64 ac6, .int .u64 ac7, .bool ab, .int .u64 aw] 54)).heap.size = w.heap.size + 1 := size_new _ _
 have HX : Hid (Blk w2 w.heap.size #[.int .i64 ak, .string an1, .string an2, .int .u64 an3, .int .u64 an4, .string as1, .string as2, .string as3, .int .i64 as4, .slice ta la ca, .int .u64 as6, .int .u64 as7, .string ac1, .string ac2, .string ac3, .int .i64 ac4, .string ac5, .int .u64 ac6, .int .u64 ac7, .bool ab, .int .u64 aw] 54) := by rw [Hw2.out]; exact (Blk.new _ _ _).alloc _
 have HY : Hid (Blk w2 (w.heap.size + 1) #[.int .i64 bk, .string bn1, .string bn2, .int .u64 bn3, .int .u64 bn4, .string bs1, .string bs2, .string bs3, .int .i64 bs4, .slice tb lb cb, .int .u64 bs6, .int .u64 bs7, .string bc1, .string bc2, .string bc3, .int .i64 bc4, .string bc5, .int .u64 bc6, .int .u64 bc7, .bool bb, .int .u64 bw] 54) := by rw [Hw2.out, ← hz]; exact Blk.new _ _ _
 have HB : Hid (Below w.heap.size w w2) := by rw [Hw2.out]; exact (below_new w _).alloc (by rw [hz]; omega) _
 clear hz
 go_enter Tryz.func24, Tryz.ntmps24
 go_upto_region 1 with fail
 rw [← Hw2.out]
 clear Hw2
 have x0 := HX.out.cell 0 rfl
 have y0 := HY.out.cell 0 rfl
 have x1 := HX.out.cell 1 rfl
 have y1 := HY.out.cell 1 rfl
 have x2 := HX.out.cell 2 rfl
 have y2 := HY.out.cell 2 rfl
 have x3 := HX.out.cell 3 rfl
 have y3 := HY.out.cell 3 rfl
 have x4 := HX.out.cell 4 rfl
 have y4 := HY.out.cell 4 rfl
 have x5 := HX.out.cell 5 rfl
 have y5 := HY.out.cell 5 rfl
 have x6 := HX.out.cell 6 rfl
 have y6 := HY.out.cell 6 rfl
 have x7 := HX.out.cell 7 rfl
 have y7 := HY.out.cell 7 rfl
 have x8 := HX.out.cell 8 rfl
 have y8 := HY.out.cell 8 rfl
 have x9 := HX.out.cell 9 rfl
 have y9 := HY.out.cell 9 rfl
 have x10 := HX.out.cell 10 rfl
 have y10 := HY.out.cell 10 rfl
 have x11 := HX.out.cell 11 rfl
 have y11 := HY.out.cell 11 rfl
 cases q0 : (ak == bk) with
 | false =>
  have HF : Hid (R = false) := by
   show _ = _
   rw [HR.out]
   simp only [q0, Bool.true_and, Bool.and_true, Bool.false_and, Bool.and_false, Bool.and_self]
  clear HR
  go_wp2
  go_ret
  exact ⟨by rw [HF.out]; rfl, HB.out⟩
 | true =>
  cases q1 : N with
  | false =>
   have HF : Hid (R = false) := by
    show _ = _
    rw [HR.out]
    simp only [q0, q1, Bool.true_and, Bool.and_true, Bool.false_and, Bool.and_false, Bool.and_self]
   subst q1
   clear HR
   go_wp2
   go_ret
   exact ⟨by rw [HF.out]; rfl, HB.out⟩
  | true =>
   go_wp2_with fail
   clear x0 y0 x1 y1 x2 y2 x3 y3 x4 y4 x5 y5 x6 y6 x7 y7 x8 y8 x9 y9 x10 y10 x11 y11
   refine (HT.out w2 HB.out).mono ?_
   rintro e w3 ⟨rfl, hb3⟩
   have x12 := (HX.out.below hb3).cell 12 rfl
   have y12 := (HY.out.below hb3).cell 12 rfl
   have x13 := (HX.out.below hb3).cell 13 rfl
   have y13 := (HY.out.below hb3).cell 13 rfl
   have x14 := (HX.out.below hb3).cell 14 rfl
   have y14 := (HY.out.below hb3).cell 14 rfl
   have x15 := (HX.out.below hb3).cell 15 rfl
   have y15 := (HY.out.below hb3).cell 15 rfl
   have x16 := (HX.out.below hb3).cell 16 rfl
   have y16 := (HY.out.below hb3).cell 16 rfl
   have x17 := (HX.out.below hb3).cell 17 rfl
   have y17 := (HY.out.below hb3).cell 17 rfl
   have x18 := (HX.out.below hb3).cell 18 rfl
   have y18 := (HY.out.below hb3).cell 18 rfl
   have x19 := (HX.out.below hb3).cell 19 rfl
   have y19 := (HY.out.below hb3).cell 19 rfl
   have x20 := (HX.out.below hb3).cell 20 rfl
   have y20 := (HY.out.below hb3).cell 20 rfl
   have HB3 : Hid (Below w.heap.size w w3) := HB.out.trans (hb3.mono HB.out.size)
   clear hb3 HX HY HB HT
   cases q2 : S with
   | false =>
    have HF : Hid (R = false) := by
     show _ = _
     rw [HR.out]
     simp only [q0, q1, q2, Bool.true_and, Bool.and_true, Bool.false_and, Bool.and_false, Bool.and_self]
    subst q2
    clear HR
    go_wp2
    go_ret
    exact ⟨by rw [HF.out]; rfl, HB3.out⟩
   | true =>
    cases q3 : C with
    | false =>
     have HF : Hid (R = false) := by
      show _ = _
      rw [HR.out]
      simp only [q0, q1, q2, q3, Bool.true_and, Bool.and_true, Bool.false_and, Bool.and_false, Bool.and_self]
     subst q3
     clear HR
     go_wp2
     go_ret
     exact ⟨by rw [HF.out]; rfl, HB3.out⟩
    | true =>
     cases q4 : (ab == bb) with
     | false =>
      have HF : Hid (R = false) := by
       show _ = _
       rw [HR.out]
       simp only [q0, q1, q2, q3, q4, Bool.true_and, Bool.and_true, Bool.false_and, Bool.and_false, Bool.and_self]
      clear HR
      go_wp2
      go_ret
      exact ⟨by rw [HF.out]; rfl, HB3.out⟩
     | true =>
      cases q5 : (aw == bw) with
      | false =>
       have HF : Hid (R = false) := by
        show _ = _
        rw [HR.out]
        simp only [q0, q1, q2, q3, q4, q5, Bool.true_and, Bool.and_true, Bool.false_and, Bool.and_false, Bool.and_self]
       clear HR
       go_wp2
       go_ret
       exact ⟨by rw [HF.out]; rfl, HB3.out⟩
      | true =>
       have HF : Hid (R = true) := by
        show _ = _
        rw [HR.out]
        simp only [q0, q1, q2, q3, q4, q5, Bool.true_and, Bool.and_true, Bool.false_and, Bool.and_false, Bool.and_self]
       clear HR
       go_wp2
       go_ret
       exact ⟨by rw [HF.out]; rfl, HB3.out⟩
end Go.Proofs.YtbhhjnbomhkdmaaGreatDoor

/- Layer 13 (journal): the document's SameEntry, of entries that are alike. -/
namespace Go.Proofs.YtbhhjnbomhkdmaaGreatDoor
open Go.RowKit
set_option linter.unusedVariables false

section
variable {o : Oper} {a : Act} {W : World} {K : Act → World → Prop} {Q : Exit → Act → World → Prop}
theorem f_fldEnt {x : Operand} {g : Nat} (ho : o.op = .fieldAddr 27 x 1) (hx : a.eval x = .pointer (some ⟨g, 0, none⟩)) (h : K (a.put o.dst (.pointer (some ⟨g, 1, none⟩))) W) : o.wp Tryz.prog a W K Q :=
 wp_valF (v := .pointer (some ⟨g, 1, none⟩)) (by unfold execOp; simp only [ho, hx]; go_simp) h
theorem f_loadOps {x : Operand} {p k : Nat} {s : Option Addr} {n c : Nat} (ho : o.op = .load 25 x) (hx : a.eval x = .pointer (some ⟨p, k, none⟩)) (hc : W.cell? ⟨p, k, none⟩ = some (.slice s n c)) (h : K (a.put o.dst (.slice s n c)) W) : o.wp Tryz.prog a W K Q :=
 wp_valF (v := .slice s n c) (by unfold execOp; simp only [ho, hx]; simp [hc, go_sem]) h
theorem f_idxOp {x y : Operand} {g off n c b : Nat} (ho : o.op = .indexAddr 25 x y) (hx : a.eval x = .slice (some ⟨g, off, none⟩) n c) (hy : a.eval y = .int .i64 (b : Int)) (hb : b < n) (h : K (a.put o.dst (.pointer (some ⟨g, off + b * 21, none⟩))) W) : o.wp Tryz.prog a W K Q :=
 wp_valF (v := .pointer (some ⟨g, off + b * 21, none⟩)) (by
  have h1 : (0 : Int) ≤ (b : Int) := by omega
  have h2 : (b : Int) < (n : Int) := by omega
  unfold execOp; simp only [ho, hx, hy]; go_simp) h
end
section
variable {o : Oper} {a : Act} {W : World} {K : Act → World → Prop} {Q : Exit → Act → World → Prop}
theorem f_mv {x : Operand} {v : Value} (ho : o.op = .move x) (hx : a.eval x = v) (h : K (a.put o.dst v) W) : o.wp Tryz.prog a W K Q :=
 wp_valF (v := v) (by unfold execOp; simp only [ho, hx]; rfl) h
end
theorem OpsAt.range {w : World} {ao : Option Addr} {l : List OV} (h : OpsAt w ao l) {b off : Nat} (e : ao = some ⟨b, off, none⟩) (k : Nat) (hk : k < l.length) : w.rangeAt b (off + k * 21) l[k].v.toList := by
 obtain ⟨b', off', e', h'⟩ := h.at k hk
 rw [e] at e'
 simp only [Option.some.injEq, Addr.mk.injEq, and_true] at e'
 obtain ⟨rfl, rfl⟩ := e'
 exact h'

set_option maxRecDepth 100000 in
set_option maxHeartbeats 4000000 in
theorem sameE_calls (i : Int) (ao bo : Option Addr) (ca cb : Nat) (la lb : List OV) (w : World) (hl : la.length ≤ 140737488355328) (he : ops lb = ops la) (ht : ∀ x ∈ la, x.o.svc.tags.length ≤ 140737488355328) (ha : OpsAt w ao la) (hb : OpsAt w bo lb) :
  Calls Tryz.prog 8 #[.agg #[.int .u64 i, .slice ao la.length ca], .agg #[.int .u64 i, .slice bo lb.length cb]] w fun e w' => e = .returned (.bool true) ∧ Below w.heap.size w w' := by
 have hll : lb.length = la.length := by
  have := congrArg List.length he
  simpa [ops] using this
 obtain ⟨n, Hn⟩ : ∃ x, Hid (x = la.length) := ⟨_, rfl⟩
 have HQ : Hid (∀ k, k < n → ∃ b off b' off' y z, ao = some ⟨b, off, none⟩ ∧ bo = some ⟨b', off', none⟩ ∧ (∀ W, Below w.heap.size w W → W.rangeAt b (off + k * 21) (OV.v y).toList) ∧ (∀ W, Below w.heap.size w W → W.rangeAt b' (off' + k * 21) (OV.v z).toList) ∧ (∀ W, Below w.heap.size w W → Calls Tryz.prog 24 #[.agg (OV.v y), .agg (OV.v z)] W fun e w' => e = .returned (.bool true) ∧ Below W.heap.size W w')) := by
  intro k hk
  have hka : k < la.length := by rw [← Hn.out]; exact hk
  have hkb : k < lb.length := by rw [hll]; exact hka
  obtain ⟨b, off, e1, -⟩ := ha.at k hka
  obtain ⟨b', off', e2, -⟩ := hb.at k hkb
  have hz : (lb[k]'hkb).o = (la[k]'hka).o := by
   have h1 := ops_at la k hka
   have h2 := ops_at lb k hkb
   rw [he, h1] at h2
   exact (Option.some.inj h2).symm
  refine ⟨b, off, b', off', la[k]'hka, lb[k]'hkb, e1, e2, fun W hW => (ha.below hW).range e1 k hka, fun W hW => (hb.below hW).range e2 k hkb, fun W hW => ?_⟩
  have := rsameOp_calls (la[k]'hka).o (lb[k]'hkb).o (la[k]'hka).ta (lb[k]'hkb).ta (la[k]'hka).tc (lb[k]'hkb).tc W (ht _ (List.getElem_mem hka)) (by rw [hz]; exact ht _ (List.getElem_mem hka)) ((ha.below hW).tags _ (List.getElem_mem hka)) ((hb.below hW).tags _ (List.getElem_mem hkb))
  rw [show sameO (la[k]'hka).o (lb[k]'hkb).o = true from (sameO_iff _ _).2 hz.symm] at this
  exact this
 rw [hll, ← Hn.out]
 have hn : n ≤ 140737488355328 := by rw [Hn.out]; exact hl
 clear hl he ht ha hb hll Hn
 obtain ⟨w2, Hw2⟩ : ∃ x, Hid (x = (w.alloc (.cells #[.int .u64 i, .slice ao n ca] 27)).alloc (.cells #[.int .u64 i, .slice bo n cb] 27)) := ⟨_, rfl⟩
 have hz : (w.alloc (.cells #[.int .u64 i, .slice ao n ca] 27)).heap.size = w.heap.size + 1 := size_new _ _
 have HX : Hid (Blk w2 w.heap.size #[.int .u64 i, .slice ao n ca] 27) := by rw [Hw2.out]; exact (Blk.new _ _ _).alloc _
 have HY : Hid (Blk w2 (w.heap.size + 1) #[.int .u64 i, .slice bo n cb] 27) := by rw [Hw2.out, ← hz]; exact Blk.new _ _ _
 have HB : Hid (Below w.heap.size w w2) := by rw [Hw2.out]; exact (below_new w _).alloc (by rw [hz]; omega) _
 clear hz
 have x0 := HX.out.cell 0 rfl
 have x1 := HX.out.cell 1 rfl
 have y0 := HY.out.cell 0 rfl
 have y1 := HY.out.cell 1 rfl
 go_enter Tryz.func8, Tryz.ntmps8
 go_upto_region 1 with fail
 rw [← Hw2.out]
 clear Hw2
 go_wp2
 clear x0 x1 y0 y1
 go_loopw [23] (fun i' wr => ∃ k : Nat, k ≤ n ∧ i' = .int .i64 k ∧ Hid (Below w2.heap.size w2 wr)) (fun i' _ => n - (intOf i').toNat)
 case atStart => exact ⟨0, Nat.zero_le _, rfl, Below.refl _ _⟩
 case round =>
  obtain ⟨k, hk, rfl, HBr⟩ := hrel
  by_cases hlt : k < n
  ·obtain ⟨b, off, b', off', y, z, rfl, rfl, hr1, hr2, hcc⟩ := HQ.out k hlt
   have HBw : Hid (∀ W, Below wr.heap.size wr W → Below w.heap.size w W) := fun W hW => HB.out.trans ((HBr.out.trans (hW.mono HBr.out.size)).mono HB.out.size)
   have HR1 : Hid (∀ W, Below wr.heap.size wr W → W.rangeAt b (off + k * 21) (OV.v y).toList) := fun W hW => hr1 W (HBw.out W hW)
   have HR2 : Hid (∀ W, Below wr.heap.size wr W → W.rangeAt b' (off' + k * 21) (OV.v z).toList) := fun W hW => hr2 W (HBw.out W hW)
   have HC : Hid (∀ W, Below wr.heap.size wr W → Calls Tryz.prog 24 #[.agg (OV.v y), .agg (OV.v z)] W fun e w' => e = .returned (.bool true) ∧ Below W.heap.size W w') := fun W hW => hcc W (HBw.out W hW)
   have HX2 : Hid (Blk wr w.heap.size #[.int .u64 i, .slice (some ⟨b, off, none⟩) n ca] 27) := HX.out.below HBr.out
   have HY2 : Hid (Blk wr (w.heap.size + 1) #[.int .u64 i, .slice (some ⟨b', off', none⟩) n cb] 27) := HY.out.below HBr.out
   clear hr1 hr2 hcc
   go_upto_region 6 with fail
   refine wp_region_inv 11 (fun j v W => match j with
    | 0 => v = .pointer (some ⟨w.heap.size, 1, none⟩)
    | 1 => v = .slice (some ⟨b, off, none⟩) n ca
    | 2 => v = .int .i64 (k : Int)
    | 3 => v = .pointer (some ⟨b, off + k * 21, none⟩)
    | 4 => v = .agg (OV.v y)
    | 5 => v = .pointer (some ⟨w.heap.size + 1, 1, none⟩)
    | 6 => v = .slice (some ⟨b', off', none⟩) n cb
    | 7 => v = .int .i64 (k : Int)
    | 8 => v = .pointer (some ⟨b', off' + k * 21, none⟩)
    | 9 => v = .agg (OV.v z)
    | 10 => v = .bool true
    | _ => False) (by kernel_rfl) (by kernel_rfl) (by kernel_rfl) [some 26, some 27, some 28, some 29, some 30, some 31, some 32, some 33, some 34, some 35, some 36] (by kernel_rfl) ?mono ?hop ?tail
   case mono =>
    intro j v W W' h hb
    match j, h with
    | 0, h => exact h
    | 1, h => exact h
    | 2, h => exact h
    | 3, h => exact h
    | 4, h => exact h
    | 5, h => exact h
    | 6, h => exact h
    | 7, h => exact h
    | 8, h => exact h
    | 9, h => exact h
    | 10, h => exact h
   case hop =>
    intro j o hi ho a W hB hs hd
    match j, hi, ho, hd with
    | 0, _, ho, hd =>
     obtain rfl := Option.some.inj ho
     exact f_fldEnt (x := .tmp 2) rfl ((hs 2 (by kernel_rfl)).trans rfl) ⟨_, rfl, rfl, Below.refl _ _⟩
    | 1, _, ho, hd =>
     obtain rfl := Option.some.inj ho
     exact f_loadOps (x := .tmp 26) rfl (hd 0 26 (by kernel_rfl) (by kernel_rfl)) ((HX2.out.below hB).cell 1 rfl) ⟨_, rfl, rfl, Below.refl _ _⟩
    | 2, _, ho, hd =>
     obtain rfl := Option.some.inj ho
     exact f_mv (x := .tmp 5) rfl ((hs 5 (by kernel_rfl)).trans rfl) ⟨_, rfl, rfl, Below.refl _ _⟩
    | 3, _, ho, hd =>
     obtain rfl := Option.some.inj ho
     exact f_idxOp (x := .tmp 27) (y := .tmp 28) rfl (hd 1 27 (by kernel_rfl) (by kernel_rfl)) (hd 2 28 (by kernel_rfl) (by kernel_rfl)) hlt ⟨_, rfl, rfl, Below.refl _ _⟩
    | 4, _, ho, hd =>
     obtain rfl := Option.some.inj ho
     exact wp_load_ov (x := .tmp 29) (y := y) rfl (hd 3 29 (by kernel_rfl) (by kernel_rfl)) (HR1.out W hB) ⟨_, rfl, rfl, Below.refl _ _⟩
    | 5, _, ho, hd =>
     obtain rfl := Option.some.inj ho
     exact f_fldEnt (x := .tmp 3) rfl ((hs 3 (by kernel_rfl)).trans rfl) ⟨_, rfl, rfl, Below.refl _ _⟩
    | 6, _, ho, hd =>
     obtain rfl := Option.some.inj ho
     exact f_loadOps (x := .tmp 31) rfl (hd 5 31 (by kernel_rfl) (by kernel_rfl)) ((HY2.out.below hB).cell 1 rfl) ⟨_, rfl, rfl, Below.refl _ _⟩
    | 7, _, ho, hd =>
     obtain rfl := Option.some.inj ho
     exact f_mv (x := .tmp 5) rfl ((hs 5 (by kernel_rfl)).trans rfl) ⟨_, rfl, rfl, Below.refl _ _⟩
    | 8, _, ho, hd =>
     obtain rfl := Option.some.inj ho
     exact f_idxOp (x := .tmp 32) (y := .tmp 33) rfl (hd 6 32 (by kernel_rfl) (by kernel_rfl)) (hd 7 33 (by kernel_rfl) (by kernel_rfl)) hlt ⟨_, rfl, rfl, Below.refl _ _⟩
    | 9, _, ho, hd =>
     obtain rfl := Option.some.inj ho
     exact wp_load_ov (x := .tmp 34) (y := z) rfl (hd 8 34 (by kernel_rfl) (by kernel_rfl)) (HR2.out W hB) ⟨_, rfl, rfl, Below.refl _ _⟩
    | 10, _, ho, hd =>
     obtain rfl := Option.some.inj ho
     refine wp_callF (f := 24) (vals := #[.agg (OV.v y), .agg (OV.v z)]) rfl (map2 (hd 4 30 (by kernel_rfl) (by kernel_rfl)) (hd 9 35 (by kernel_rfl) (by kernel_rfl))) (by go_simp) ?_
     exact (HC.out W hB).mono fun e w' ⟨he, hb⟩ => ⟨_, he, _, rfl, rfl, hb⟩
   case tail =>
    intro vs W hB hR
    have r0 : vs 0 = .pointer (some ⟨w.heap.size, 1, none⟩) := hR 0 (by decide)
    have r1 : vs 1 = .slice (some ⟨b, off, none⟩) n ca := hR 1 (by decide)
    have r2 : vs 2 = .int .i64 (k : Int) := hR 2 (by decide)
    have r3 : vs 3 = .pointer (some ⟨b, off + k * 21, none⟩) := hR 3 (by decide)
    have r4 : vs 4 = .agg (OV.v y) := hR 4 (by decide)
    have r5 : vs 5 = .pointer (some ⟨w.heap.size + 1, 1, none⟩) := hR 5 (by decide)
    have r6 : vs 6 = .slice (some ⟨b', off', none⟩) n cb := hR 6 (by decide)
    have r7 : vs 7 = .int .i64 (k : Int) := hR 7 (by decide)
    have r8 : vs 8 = .pointer (some ⟨b', off' + k * 21, none⟩) := hR 8 (by decide)
    have r9 : vs 9 = .agg (OV.v z) := hR 9 (by decide)
    have r10 : vs 10 = .bool true := hR 10 (by decide)
    have HBW : Hid (Below w2.heap.size w2 W) := HBr.out.trans (hB.mono HBr.out.size)
    clear hR hB
    simp only [putL, put_lit, List.setIfInBounds_toArray, List.set_cons_succ, List.set_cons_zero, List.drop_succ_cons, List.drop_zero]
    rw [r0, r1, r2, r3, r4, r5, r6, r7, r8, r9, r10]
    clear r0 r1 r2 r3 r4 r5 r6 r7 r8 r9 r10 HR1 HR2 HC HX2 HY2 HBw HBr
    go_wp2
    go_roundw
    case rel => exact ⟨k + 1, by omega, by go_num, HBW⟩
    case measure => simp [intOf]; omega
  ·go_wp2
   go_ret
   exact ⟨rfl, HB.out.trans (HBr.out.mono HB.out.size)⟩
end Go.Proofs.YtbhhjnbomhkdmaaGreatDoor
