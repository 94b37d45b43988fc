import Derived.Test.YthgcnmilaifkoaaGreatDoorJEqN
import Derived.Test.YthgcnmilaifkoaaGreatDoorJPay
import Derived.Test.YthgcnmilaifkoaaGreatDoorRcCopyS
/- Layer 13 (journal): sameOp. -/
namespace Go.Proofs.YthgcnmilaifkoaaGreatDoor
open Go.RowKit
set_option linter.unusedVariables false
set_option linter.unusedSimpArgs false

set_option maxRecDepth 100000 in
set_option maxHeartbeats 4000000 in
theorem jsameOp_calls (a b : Opp) (ta tb : Option Addr) (ca cb : Nat) (w : World) (hla : a.svc.tags.length ≤ 140737488355328) (hlb : b.svc.tags.length ≤ 140737488355328) (ha : CellsAt w ta (a.svc.tags.map Value.string)) (hb : CellsAt w tb (b.svc.tags.map Value.string)) :
  Calls Tryz.prog 53 #[.agg (a.v (.slice ta a.svc.tags.length ca)), .agg (b.v (.slice tb b.svc.tags.length cb))] w fun e w' => e = .returned (.bool (sameO a b)) ∧ Below w.heap.size w w' := by
 obtain ⟨S, HSd⟩ : ∃ x, Hid (x = sameS a.svc b.svc) := ⟨_, rfl⟩
 obtain ⟨N, HNd⟩ : ∃ x, Hid (x = sameN a.node b.node) := ⟨_, rfl⟩
 obtain ⟨C, HCd⟩ : ∃ x, Hid (x = sameC a.chk b.chk) := ⟨_, rfl⟩
 have HT : Hid (∀ w', Below w.heap.size w w' → Calls Tryz.prog 71 #[.agg (a.svc.v (.slice ta a.svc.tags.length ca)), .agg (b.svc.v (.slice tb b.svc.tags.length cb))] w' fun e w'' => e = .returned (.bool S) ∧ Below w'.heap.size w' w'') := fun w' h => by rw [HSd.out]; exact jsameService_calls a.svc b.svc ta tb ca cb w' hla hlb (ha.below h) (hb.below h)
 have hN : ∀ W : World, (binOp .eql 43 (.agg a.node.v) (.agg b.node.v)).run Tryz.prog W = .ok (.bool N) W := fun W => by rw [HNd.out]; exact run_eql_node a.node b.node W
 have hC : ∀ W : World, (binOp .eql 45 (.agg a.chk.v) (.agg b.chk.v)).run Tryz.prog W = .ok (.bool C) W := fun W => by rw [HCd.out]; exact run_eql_chk a.chk b.chk W
 have hg1 := guard_nd
 have hg2 := guard_ck
 clear ha hb hla hlb
 obtain ⟨R, HR⟩ : ∃ x, Hid (x = sameO a b) := ⟨_, rfl⟩
 have HRE : Hid (sameO a b = ((a.kind == b.kind) && N && S && C && (a.cas == b.cas) && (a.want == b.want))) := by show _ = _; rw [HNd.out, HSd.out, HCd.out]; rfl
 rw [HRE.out] at HR
 rw [HRE.out, ← HR.out]
 clear HRE HNd HSd HCd
 obtain ⟨ak, ⟨an1, an2, an3, an4⟩, ⟨as1, as2, as3, as4, at_, as6, as7⟩, ⟨ac1, ac2, ac3, ac4, ac5, ac6, ac7⟩, ab, aw⟩ := a
 obtain ⟨bk, ⟨bn1, bn2, bn3, bn4⟩, ⟨bs1, bs2, bs3, bs4, bt_, bs6, bs7⟩, ⟨bc1, bc2, bc3, bc4, bc5, bc6, bc7⟩, bb, bw⟩ := b
 simp only [Opp.v, Sp.v, Nd.v, Ck.v] at *
 obtain ⟨la, Hla⟩ : ∃ x, Hid (x = at_.length) := ⟨_, rfl⟩
 obtain ⟨lb, Hlb⟩ : ∃ x, Hid (x = bt_.length) := ⟨_, rfl⟩
 rw [← Hla.out, ← Hlb.out] at HT ⊢
 clear Hla Hlb
 obtain ⟨w2, Hw2⟩ : ∃ w2, Hid (w2 = (w.alloc (.cells #[.int .i64 ak, .string an1, .string an2, .int .u64 an3, .int .u64 an4, .string as1, .string as2, .string as3, .int .i64 as4, .slice ta la ca, .int .u64 as6, .int .u64 as7, .string ac1, .string ac2, .string ac3, .int .i64 ac4, .string ac5, .int .u64 ac6, .int .u64 ac7, .bool ab, .int .u64 aw] 47)).alloc (.cells #[.int .i64 bk, .string bn1, .string bn2, .int .u64 bn3, .int .u64 bn4, .string bs1, .string bs2, .string bs3, .int .i64 bs4, .slice tb lb cb, .int .u64 bs6, .int .u64 bs7, .string bc1, .string bc2, .string bc3, .int .i64 bc4, .string bc5, .int .u64 bc6, .int .u64 bc7, .bool bb, .int .u64 bw] 47)) := ⟨_, rfl⟩
 have hz : (w.alloc (.cells #[.int .i64 ak, .string an1, .string an2, .int .u64 an3, .int .u64 an4, .string as1, .string as2, .string as3, .int .i64 as4, .slice ta la ca, .int .u64 as6, .int .u64 as7, .string ac1, .string ac2, .string ac3, .int .i64 ac4, .string ac5, .int .u64 ac6, .int .u64 ac7, .bool ab, .int .u64 aw] 47)).heap.size = w.heap.size + 1 := size_new _ _
 have HX : Hid (Blk w2 w.heap.size #[.int .i64 ak, .string an1, .string an2, .int .u64 an3, .int .u64 an4, .string as1, .string as2, .string as3, .int .i64 as4, .slice ta la ca, .int .u64 as6, .int .u64 as7, .string ac1, .string ac2, .string ac3, .int .i64 ac4, .string ac5, .int .u64 ac6, .int .u64 ac7, .bool ab, .int .u64 aw] 47) := by rw [Hw2.out]; exact (Blk.new _ _ _).alloc _
 have HY : Hid (Blk w2 (w.heap.size + 1) #[.int .i64 bk, .string bn1, .string bn2, .int .u64 bn3, .int .u64 bn4, .string bs1, .string bs2, .string bs3, .int .i64 bs4, .slice tb lb cb, .int .u64 bs6, .int .u64 bs7, .string bc1, .string bc2, .string bc3, .int .i64 bc4, .string bc5, .int .u64 bc6, .int .u64 bc7, .bool bb, .int .u64 bw] 47) := by rw [Hw2.out, ← hz]; exact Blk.new _ _ _
 have HB : Hid (Below w.heap.size w w2) := by rw [Hw2.out]; exact (below_new w _).alloc (by rw [hz]; omega) _
 clear hz
 go_enter Tryz.func53, Tryz.ntmps53
 go_upto_region 1 with fail
 rw [← Hw2.out]
 clear Hw2
 have x0 := HX.out.cell 0 rfl
 have y0 := HY.out.cell 0 rfl
 have x1 := HX.out.cell 1 rfl
 have y1 := HY.out.cell 1 rfl
 have x2 := HX.out.cell 2 rfl
 have y2 := HY.out.cell 2 rfl
 have x3 := HX.out.cell 3 rfl
 have y3 := HY.out.cell 3 rfl
 have x4 := HX.out.cell 4 rfl
 have y4 := HY.out.cell 4 rfl
 have x5 := HX.out.cell 5 rfl
 have y5 := HY.out.cell 5 rfl
 have x6 := HX.out.cell 6 rfl
 have y6 := HY.out.cell 6 rfl
 have x7 := HX.out.cell 7 rfl
 have y7 := HY.out.cell 7 rfl
 have x8 := HX.out.cell 8 rfl
 have y8 := HY.out.cell 8 rfl
 have x9 := HX.out.cell 9 rfl
 have y9 := HY.out.cell 9 rfl
 have x10 := HX.out.cell 10 rfl
 have y10 := HY.out.cell 10 rfl
 have x11 := HX.out.cell 11 rfl
 have y11 := HY.out.cell 11 rfl
 cases q0 : (ak == bk) with
 | false =>
  have HF : Hid (R = false) := by
   show _ = _
   rw [HR.out]
   simp only [q0, Bool.true_and, Bool.and_true, Bool.false_and, Bool.and_false, Bool.and_self]
  clear HR
  go_wp2
  go_ret
  exact ⟨by rw [HF.out]; rfl, HB.out⟩
 | true =>
  cases q1 : N with
  | false =>
   have HF : Hid (R = false) := by
    show _ = _
    rw [HR.out]
    simp only [q0, q1, Bool.true_and, Bool.and_true, Bool.false_and, Bool.and_false, Bool.and_self]
   subst q1
   clear HR
   go_wp2
   go_ret
   exact ⟨by rw [HF.out]; rfl, HB.out⟩
  | true =>
   go_wp2_with fail
   clear x0 y0 x1 y1 x2 y2 x3 y3 x4 y4 x5 y5 x6 y6 x7 y7 x8 y8 x9 y9 x10 y10 x11 y11
   refine (HT.out w2 HB.out).mono ?_
   rintro e w3 ⟨rfl, hb3⟩
   have x12 := (HX.out.below hb3).cell 12 rfl
   have y12 := (HY.out.below hb3).cell 12 rfl
   have x13 := (HX.out.below hb3).cell 13 rfl
   have y13 := (HY.out.below hb3).cell 13 rfl
   have x14 := (HX.out.below hb3).cell 14 rfl
   have y14 := (HY.out.below hb3).cell 14 rfl
   have x15 := (HX.out.below hb3).cell 15 rfl
   have y15 := (HY.out.below hb3).cell 15 rfl
   have x16 := (HX.out.below hb3).cell 16 rfl
   have y16 := (HY.out.below hb3).cell 16 rfl
   have x17 := (HX.out.below hb3).cell 17 rfl
   have y17 := (HY.out.below hb3).cell 17 rfl
   have x18 := (HX.out.below hb3).cell 18 rfl
   have y18 := (HY.out.below hb3).cell 18 rfl
   have x19 := (HX.out.below hb3).cell 19 rfl
   have y19 := (HY.out.below hb3).cell 19 rfl
   have x20 := (HX.out.below hb3).cell 20 rfl
   have y20 := (HY.out.below hb3).cell 20 rfl
   have HB3 : Hid (Below w.heap.size w w3) := HB.out.trans (hb3.mono HB.out.size)
   clear hb3 HX HY HB HT
   cases q2 : S with
   | false =>
    have HF : Hid (R = false) := by
     show _ = _
     rw [HR.out]
     simp only [q0, q1, q2, Bool.true_and, Bool.and_true, Bool.false_and, Bool.and_false, Bool.and_self]
    subst q2
    clear HR
    go_wp2
    go_ret
    exact ⟨by rw [HF.out]; rfl, HB3.out⟩
   | true =>
    cases q3 : C with
    | false =>
     have HF : Hid (R = false) := by
      show _ = _
      rw [HR.out]
      simp only [q0, q1, q2, q3, Bool.true_and, Bool.and_true, Bool.false_and, Bool.and_false, Bool.and_self]
     subst q3
     clear HR
     go_wp2
     go_ret
     exact ⟨by rw [HF.out]; rfl, HB3.out⟩
    | true =>
     cases q4 : (ab == bb) with
     | false =>
      have HF : Hid (R = false) := by
       show _ = _
       rw [HR.out]
       simp only [q0, q1, q2, q3, q4, Bool.true_and, Bool.and_true, Bool.false_and, Bool.and_false, Bool.and_self]
      clear HR
      go_wp2
      go_ret
      exact ⟨by rw [HF.out]; rfl, HB3.out⟩
     | true =>
      cases q5 : (aw == bw) with
      | false =>
       have HF : Hid (R = false) := by
        show _ = _
        rw [HR.out]
        simp only [q0, q1, q2, q3, q4, q5, Bool.true_and, Bool.and_true, Bool.false_and, Bool.and_false, Bool.and_self]
       clear HR
       go_wp2
       go_ret
       exact ⟨by rw [HF.out]; rfl, HB3.out⟩
      | true =>
       have HF : Hid (R = true) := by
        show _ = _
        rw [HR.out]
        simp only [q0, q1, q2, q3, q4, q5, Bool.true_and, Bool.and_true, Bool.false_and, Bool.and_false, Bool.and_self]
       clear HR
       go_wp2
       go_ret
       exact ⟨by rw [HF.out]; rfl, HB3.out⟩
end Go.Proofs.YthgcnmilaifkoaaGreatDoor

/- Layer 13 (journal): a list of operations in memory. -/
namespace Go.Proofs.YthgcnmilaifkoaaGreatDoor
open Go.RowKit
set_option linter.unusedVariables false

structure OV where
 o : Opp
 ta : Option Addr
 tc : Nat
def OV.v (x : OV) : Array Value := x.o.v (.slice x.ta x.o.svc.tags.length x.tc)
def ocs (l : List OV) : List Value := l.flatMap fun x => x.v.toList
def ops (l : List OV) : List Opp := l.map (·.o)
theorem ov_one (x : OV) : x.v.all (·.oneCell') = true := by simp [OV.v, Opp.v, Value.oneCell']
theorem ocs_length (l : List OV) : (ocs l).length = l.length * 21 := flat_length _ 21 (fun _ => rfl) l
structure OpsAt (w : World) (ao : Option Addr) (l : List OV) : Prop where
 cells : CellsAt w ao (ocs l)
 tags : ∀ x ∈ l, CellsAt w x.ta (x.o.svc.tags.map Value.string)
theorem OpsAt.below {w w' : World} {ao : Option Addr} {l : List OV} (h : OpsAt w ao l) (hb : Below w.heap.size w w') : OpsAt w' ao l := ⟨h.cells.below hb, fun x hx => (h.tags x hx).below hb⟩
theorem OpsAt.at {w : World} {ao : Option Addr} {l : List OV} (h : OpsAt w ao l) (k : Nat) (hk : k < l.length) : ∃ b off, ao = some ⟨b, off, none⟩ ∧ w.rangeAt b (off + k * 21) l[k].v.toList := by
 obtain ⟨b, off, ha, hc⟩ := h.cells (flat_ne _ 21 (fun _ => rfl) (by decide) hk)
 refine ⟨b, off, ha, fun j u hj => ?_⟩
 have hj21 : j < 21 := (List.getElem?_eq_some_iff.1 hj).1
 have := hc (k * 21 + j) u (by
  unfold ocs
  rw [flat_at (fun x : OV => x.v.toList) 21 (fun _ => rfl) l k j l[k] (by simp [hk]) hj21]
  exact hj)
 rw [show off + k * 21 + j = off + (k * 21 + j) by omega]
 exact this
theorem ops_at (l : List OV) (k : Nat) (hk : k < l.length) : (ops l)[k]? = some l[k].o := by simp [ops, hk]
theorem ops_take (l : List OV) (k : Nat) (hk : k < l.length) : ops (l.take (k + 1)) = ops (l.take k) ++ [l[k].o] := by
 rw [list_take_snoc l k hk]
 unfold ops
 rw [List.map_append]
 rfl
theorem opsB_snoc (l : List Opp) (o : Opp) : opsB (l ++ [o]) = opsB l ++ opB o := by simp [opsB]
theorem wp_load_ov {op : Oper} {a : Act} {w : World} {b o : Nat} {y : OV} {K : Act → World → Prop} {Q : Exit → Act → World → Prop} {x : Operand} (ho : op.op = .load 47 x) (hx : a.eval x = .pointer (some ⟨b, o, none⟩)) (hc : w.rangeAt b o y.v.toList) (h : K (a.put op.dst (.agg y.v)) w) : op.wp Tryz.prog a w K Q :=
 wp_load_mid 47 x ho b o hx y.v.toList _ hc Tryz.underlying47 rfl info_op h

theorem opB_le {o : Opp} (h : Snd o) : (opB o).length ≤ 1231 := by
 have hc : (casB o).length ≤ 9 := by
  unfold casB
  split
  ·simp [big_length]
  ·simp
 have hb : (bodyB o).length ≤ 1219 := by
  cases h with
  | node n a b x hx h1 h2 => simp [bodyB, txtsB, txtB_length]; omega
  | svc n i m p t b x hx h1 h2 h3 h4 h5 h6 h7 =>
   have h8 := txtsB_take_le t t.length 63 h7
   rw [List.take_length] at h8
   have h9 : t.length * 64 ≤ 16 * 64 := Nat.mul_le_mul_right _ h6
   have e : (bodyB ⟨2, nodeZ, ⟨n, i, m, p, t, 0, 0⟩, chkZ, b, x⟩).length = (txtsB [n, i, m]).length + 2 + 1 + (txtsB t).length := by
    show (svcB ⟨n, i, m, p, t, 0, 0⟩).length = _
    simp [svcB, big_length]
    omega
   rw [e]
   simp [txtsB, txtB_length] at h8 ⊢
   omega
  | chk n i m p t b x hx h1 h2 h3 h4 h5 h6 =>
   have e : (bodyB ⟨3, nodeZ, svcZ, ⟨n, i, m, p, t, 0, 0⟩, b, x⟩).length = (txtsB [n, i, m]).length + 1 + (txtsB [t]).length := by
    show (chkB ⟨n, i, m, p, t, 0, 0⟩).length = _
    simp [chkB]
    omega
   rw [e]
   simp [txtsB, txtB_length]
   omega
  | dnode n b x hx h1 => simp [bodyB, txtsB, txtB_length]; omega
  | dsvc n i b x hx h1 h2 => simp [bodyB, txtsB, txtB_length]; omega
  | dchk n i b x hx h1 h2 => simp [bodyB, txtsB, txtB_length]; omega
 simp only [opB, List.length_append, List.length_cons]
 omega
theorem opsB_le : ∀ (l : List Opp), (∀ o ∈ l, Snd o) → (opsB l).length ≤ l.length * 1231
 | [], _ => by simp [opsB]
 | o :: l, h => by
  have ih := opsB_le l fun x hx => h x (List.mem_cons_of_mem _ hx)
  have h1 := opB_le (h o (List.mem_cons_self ..))
  have e : opsB (o :: l) = opB o ++ opsB l := by simp [opsB]
  rw [e, List.length_append, List.length_cons, Nat.succ_mul]
  omega
theorem soundB_all {l : List Opp} (h : soundB l = true) : 1 ≤ l.length ∧ l.length ≤ 64 ∧ ∀ o ∈ l, Snd o := by
 simp only [soundB, Bool.and_eq_true, decide_eq_true_eq, List.all_eq_true] at h
 exact ⟨h.1.1, h.1.2, fun o ho => snd_shape (h.2 o ho)⟩
theorem payB_le {i : Int} {l : List Opp} (h : soundB l = true) : (payB i l).length ≤ 78793 := by
 obtain ⟨_, h2, h3⟩ := soundB_all h
 have := opsB_le l h3
 simp only [payB, List.length_append, big_length, List.length_cons, List.length_nil]
 have : l.length * 1231 ≤ 64 * 1231 := Nat.mul_le_mul_right _ h2
 omega
end Go.Proofs.YthgcnmilaifkoaaGreatDoor

/- Layer 9 (records): FixOp, a node. -/
namespace Go.Proofs.YthgcnmilaifkoaaGreatDoor
open Go.RowKit
set_option linter.unusedVariables false

set_option maxRecDepth 100000 in
set_option maxHeartbeats 8000000 in
theorem fixOpa1_false (o : Opp) (hk : o.kind = 1) (hcas : o.cas = false) (ta : Option Addr) (tc : Nat) (w : World) (hs : o.small) (hc : CellsAt w ta (o.svc.tags.map Value.string)) (hv : Vs w) :
  Calls Tryz.prog 52 #[.agg (o.v (.slice ta o.svc.tags.length tc))] w fun e w' => OppA w (oppF o) (oppE o) e w' := by
 obtain ⟨hn1, hn2, hsv, hck⟩ := hs
 have HSV : Hid (Sp.small o.svc) := hsv
 have HCK : Hid (Ck.small o.chk) := hck
 have HC : Hid (CellsAt w ta (o.svc.tags.map Value.string)) := hc
 have HV : Hid (Vs w) := hv
 clear hsv hck hc hv
 obtain ⟨ne, Hne⟩ : ∃ ne, Hid (ne = nodeE o.node) := ⟨_, rfl⟩
 have HE : Hid (oppE o = ne) := by rw [Hid, Hne.out]; unfold oppE; rw [if_pos hk]
 obtain ⟨fx, Hfx⟩ : ∃ fx, Hid (fx = fixN o.node) := ⟨_, rfl⟩
 have HFy : Hid (ne = 0 → oppF o = ⟨1, fx, svcZ, chkZ, false, 0⟩) := fun h => by unfold oppF; rw [if_pos (HE.out.trans h)]; unfold oppN wantF; rw [if_pos hk, hk, hcas, Hfx.out]; rfl
 have HFn : Hid (¬ ne = 0 → oppF o = oppZ) := fun h => by unfold oppF; rw [if_neg (fun e => h (HE.out.symm.trans e))]
 have HCl : Hid (∀ w, Vs w → Calls Tryz.prog 66 #[.agg o.node.v] w fun e w' => e = .returned (.tuple #[.agg fx.v, .int .i64 ne]) ∧ Below w.heap.size w w') := fun w hv => by rw [Hfx.out, Hne.out]; exact fixNode_calls o.node w hn1 hn2 hv
 rw [HE.out]
 clear Hne HE Hfx HSV HCK HC
 obtain ⟨kd, ⟨nn, na, n3, n4⟩, ⟨sn, si, sm, sp, tg, s6, s7⟩, ⟨cn, ci, cs, ct, ce, c6, c7⟩, cas, wt⟩ := o
 obtain ⟨g1, g2, g3, g4⟩ := fx
 simp only [Opp.v, Nd.v] at *
 subst hk hcas
 generalize tg.length = tl at *
 obtain ⟨b1, b2, b3, b4⟩ := three_new w (.cells (o21 1 nn na n3 n4 sn si sm sp (.slice ta tl tc) s6 s7 cn ci cs ct ce c6 c7 false wt) 47) (.cells z21 47) (.cells (o21 1 ⟨#[]⟩ ⟨#[]⟩ 0 0 ⟨#[]⟩ ⟨#[]⟩ ⟨#[]⟩ 0 (.slice none 0 0) 0 0 ⟨#[]⟩ ⟨#[]⟩ ⟨#[]⟩ 0 ⟨#[]⟩ 0 0 false 0) 47)
 obtain ⟨w3, Hw3⟩ : ∃ w3, Hid (w3 = ((w.alloc (.cells (o21 1 nn na n3 n4 sn si sm sp (.slice ta tl tc) s6 s7 cn ci cs ct ce c6 c7 false wt) 47)).alloc (.cells z21 47)).alloc (.cells (o21 1 ⟨#[]⟩ ⟨#[]⟩ 0 0 ⟨#[]⟩ ⟨#[]⟩ ⟨#[]⟩ 0 (.slice none 0 0) 0 0 ⟨#[]⟩ ⟨#[]⟩ ⟨#[]⟩ 0 ⟨#[]⟩ 0 0 false 0) 47)) := ⟨_, rfl⟩
 have HA3 : Hid (Blk w3 w.heap.size (o21 1 nn na n3 n4 sn si sm sp (.slice ta tl tc) s6 s7 cn ci cs ct ce c6 c7 false wt) 47) := by rw [Hw3.out]; exact b1
 have HR3 : Hid (Blk w3 (w.heap.size + 1) z21 47) := by rw [Hw3.out]; exact b2
 have HF3 : Hid (Blk w3 (w.heap.size + 1 + 1) (o21 1 ⟨#[]⟩ ⟨#[]⟩ 0 0 ⟨#[]⟩ ⟨#[]⟩ ⟨#[]⟩ 0 (.slice none 0 0) 0 0 ⟨#[]⟩ ⟨#[]⟩ ⟨#[]⟩ 0 ⟨#[]⟩ 0 0 false 0) 47) := by rw [Hw3.out]; exact b3
 have HB3 : Hid (Below w.heap.size w w3) := by rw [Hw3.out]; exact b4
 clear b1 b2 b3 b4
 go_enter Tryz.func52, Tryz.ntmps52
 iterate 36 go_step
 refine wp_store_op rfl ?_ rfl rfl rfl rfl (by simp [Value.oneCell']) ?_
 ·simp only [size_new]
 go_upto_region 8 with fail
 rw [← Hw3.out]
 clear Hw3
 iterate 5 go_step
 refine wp_get_part (n := 4) (l := [.string nn, .string na, .int .u64 n3, .int .u64 n4]) rfl HA3.out rfl rfl Tryz.underlying43 rfl size_node ?_
 go_wp2_with fail
 refine (HCl.out w3 (HV.out.stay HB3.out)).mono ?_
 rintro e w4 ⟨rfl, hb4⟩
 have HR4 : Hid (Blk w4 (w.heap.size + 1) z21 47) := HR3.out.below hb4
 have HF4 : Hid (Blk w4 (w.heap.size + 1 + 1) (o21 1 ⟨#[]⟩ ⟨#[]⟩ 0 0 ⟨#[]⟩ ⟨#[]⟩ ⟨#[]⟩ 0 (.slice none 0 0) 0 0 ⟨#[]⟩ ⟨#[]⟩ ⟨#[]⟩ 0 ⟨#[]⟩ 0 0 false 0) 47) := HF3.out.below hb4
 have HB4 : Hid (Below w.heap.size w w4) := HB3.out.trans (hb4.mono HB3.out.size)
 have HR5 : Hid (Blk (putC w4 (w.heap.size + 1 + 1) 1 [.string g1, .string g2, .int .u64 g3, .int .u64 g4]) (w.heap.size + 1) z21 47) := putC_other (by omega) [.string g1, .string g2, .int .u64 g3, .int .u64 g4] w4 1 HR4.out
 have HF5 : Hid (Blk (putC w4 (w.heap.size + 1 + 1) 1 [.string g1, .string g2, .int .u64 g3, .int .u64 g4]) (w.heap.size + 1 + 1) (o21 1 g1 g2 g3 g4 ⟨#[]⟩ ⟨#[]⟩ ⟨#[]⟩ 0 (.slice none 0 0) 0 0 ⟨#[]⟩ ⟨#[]⟩ ⟨#[]⟩ 0 ⟨#[]⟩ 0 0 false 0) 47) := putC_mid [.string g1, .string g2, .int .u64 g3, .int .u64 g4] w4 1 _ HF4.out (by simp)
 have HB5 : Hid (Below w.heap.size w (putC w4 (w.heap.size + 1 + 1) 1 [.string g1, .string g2, .int .u64 g3, .int .u64 g4])) := putC_below [.string g1, .string g2, .int .u64 g3, .int .u64 g4] w4 1 HB4.out (by omega)
 clear hb4 HA3 HR3 HF3 HB3 HCl HR4 HB4
 dsimp only
 iterate 14 go_step
 refine wp_put_part (l := [.string g1, .string g2, .int .u64 g3, .int .u64 g4]) rfl HF4.out rfl rfl (by simp) size_node (by simp [Value.oneCell']) ?_
 obtain ⟨w5, Hw5⟩ : ∃ w5, Hid (w5 = (putC w4 (w.heap.size + 1 + 1) 1 [.string g1, .string g2, .int .u64 g3, .int .u64 g4])) := ⟨_, rfl⟩
 rw [← Hw5.out] at HR5 HF5 HB5 ⊢
 clear Hw5
 clear HF4
 by_cases h0 : ne = 0
 ·have HQ : Hid (_ = (⟨1, ⟨g1, g2, g3, g4⟩, svcZ, chkZ, false, 0⟩ : Opp)) := HFy.out h0
  have q : (ne != 0) = false := by simpa using h0
  have H0 : Hid (0 = ne) := h0.symm
  have HF : Hid (OppA w ⟨1, ⟨g1, g2, g3, g4⟩, svcZ, chkZ, false, 0⟩ ne (.returned (.tuple #[.agg (o21 1 g1 g2 g3 g4 ⟨#[]⟩ ⟨#[]⟩ ⟨#[]⟩ 0 (.slice none 0 0) 0 0 ⟨#[]⟩ ⟨#[]⟩ ⟨#[]⟩ 0 ⟨#[]⟩ 0 0 false 0), .int .i64 0])) (w5.setRow (w.heap.size + 1) (o21 1 g1 g2 g3 g4 ⟨#[]⟩ ⟨#[]⟩ ⟨#[]⟩ 0 (.slice none 0 0) 0 0 ⟨#[]⟩ ⟨#[]⟩ ⟨#[]⟩ 0 ⟨#[]⟩ 0 0 false 0))) := ⟨.slice none 0 0, by rw [← H0.out]; rfl, World.ownsRow_nil _ _ _ _, below_setRow HB5.out (by omega) _⟩
  have HLd : Hid ((loadVar 47 ⟨(w.heap.size + 1), 0, none⟩).run Tryz.prog (w5.setRow (w.heap.size + 1) (o21 1 g1 g2 g3 g4 ⟨#[]⟩ ⟨#[]⟩ ⟨#[]⟩ 0 (.slice none 0 0) 0 0 ⟨#[]⟩ ⟨#[]⟩ ⟨#[]⟩ 0 ⟨#[]⟩ 0 0 false 0)) = .ok (.agg (o21 1 g1 g2 g3 g4 ⟨#[]⟩ ⟨#[]⟩ ⟨#[]⟩ 0 (.slice none 0 0) 0 0 ⟨#[]⟩ ⟨#[]⟩ ⟨#[]⟩ 0 ⟨#[]⟩ 0 0 false 0)) (w5.setRow (w.heap.size + 1) (o21 1 g1 g2 g3 g4 ⟨#[]⟩ ⟨#[]⟩ ⟨#[]⟩ 0 (.slice none 0 0) 0 0 ⟨#[]⟩ ⟨#[]⟩ ⟨#[]⟩ 0 ⟨#[]⟩ 0 0 false 0))) := load_op (blk_setRow HR5.out _) rfl
  clear h0 HFy HFn H0 HB5
  go_upto_region 21 with fail
  iterate 2 go_step
  refine wp_get_op rfl HF5.out rfl rfl ?_
  iterate 2 go_step
  refine wp_put_op rfl HR5.out rfl rfl rfl rfl (by simp [Value.oneCell']) ?_
  go_wp2
  rw [HQ.out]
  exact ret_box (g := (w.heap.size + 1)) (w := (w5.setRow (w.heap.size + 1) (o21 1 g1 g2 g3 g4 ⟨#[]⟩ ⟨#[]⟩ ⟨#[]⟩ 0 (.slice none 0 0) 0 0 ⟨#[]⟩ ⟨#[]⟩ ⟨#[]⟩ 0 ⟨#[]⟩ 0 0 false 0))) (e := .int .i64 0) rfl rfl rfl rfl HLd.out HF.out
 ·have HQ : Hid (_ = oppZ) := HFn.out h0
  have q : (ne != 0) = true := by simpa using h0
  have HF : Hid (OppA w oppZ ne (.returned (.tuple #[.agg z21, .int .i64 ne])) (w5.setRow (w.heap.size + 1) z21)) := ⟨.slice none 0 0, rfl, World.ownsRow_nil _ _ _ _, below_setRow HB5.out (by omega) _⟩
  have HLd : Hid ((loadVar 47 ⟨(w.heap.size + 1), 0, none⟩).run Tryz.prog (w5.setRow (w.heap.size + 1) z21) = .ok (.agg z21) (w5.setRow (w.heap.size + 1) z21)) := load_op (blk_setRow HR5.out _) rfl
  clear HFy HFn HB5
  go_upto_region 20 with fail
  iterate 8 go_step
  refine wp_put_op rfl HR5.out rfl rfl rfl rfl (by simp [Value.oneCell']) ?_
  go_wp2
  rw [HQ.out]
  exact ret_box (g := (w.heap.size + 1)) (w := (w5.setRow (w.heap.size + 1) z21)) (e := .int .i64 ne) rfl rfl rfl rfl HLd.out HF.out
set_option maxRecDepth 100000 in
set_option maxHeartbeats 8000000 in
theorem fixOpa1_true (o : Opp) (hk : o.kind = 1) (hcas : o.cas = true) (ta : Option Addr) (tc : Nat) (w : World) (hs : o.small) (hc : CellsAt w ta (o.svc.tags.map Value.string)) (hv : Vs w) :
  Calls Tryz.prog 52 #[.agg (o.v (.slice ta o.svc.tags.length tc))] w fun e w' => OppA w (oppF o) (oppE o) e w' := by
 obtain ⟨hn1, hn2, hsv, hck⟩ := hs
 have HSV : Hid (Sp.small o.svc) := hsv
 have HCK : Hid (Ck.small o.chk) := hck
 have HC : Hid (CellsAt w ta (o.svc.tags.map Value.string)) := hc
 have HV : Hid (Vs w) := hv
 clear hsv hck hc hv
 obtain ⟨ne, Hne⟩ : ∃ ne, Hid (ne = nodeE o.node) := ⟨_, rfl⟩
 have HE : Hid (oppE o = ne) := by rw [Hid, Hne.out]; unfold oppE; rw [if_pos hk]
 obtain ⟨fx, Hfx⟩ : ∃ fx, Hid (fx = fixN o.node) := ⟨_, rfl⟩
 have HFy : Hid (ne = 0 → oppF o = ⟨1, fx, svcZ, chkZ, true, o.want⟩) := fun h => by unfold oppF; rw [if_pos (HE.out.trans h)]; unfold oppN wantF; rw [if_pos hk, hk, hcas, Hfx.out]; rfl
 have HFn : Hid (¬ ne = 0 → oppF o = oppZ) := fun h => by unfold oppF; rw [if_neg (fun e => h (HE.out.symm.trans e))]
 have HCl : Hid (∀ w, Vs w → Calls Tryz.prog 66 #[.agg o.node.v] w fun e w' => e = .returned (.tuple #[.agg fx.v, .int .i64 ne]) ∧ Below w.heap.size w w') := fun w hv => by rw [Hfx.out, Hne.out]; exact fixNode_calls o.node w hn1 hn2 hv
 rw [HE.out]
 clear Hne HE Hfx HSV HCK HC
 obtain ⟨kd, ⟨nn, na, n3, n4⟩, ⟨sn, si, sm, sp, tg, s6, s7⟩, ⟨cn, ci, cs, ct, ce, c6, c7⟩, cas, wt⟩ := o
 obtain ⟨g1, g2, g3, g4⟩ := fx
 simp only [Opp.v, Nd.v] at *
 subst hk hcas
 generalize tg.length = tl at *
 obtain ⟨b1, b2, b3, b4⟩ := three_new w (.cells (o21 1 nn na n3 n4 sn si sm sp (.slice ta tl tc) s6 s7 cn ci cs ct ce c6 c7 true wt) 47) (.cells z21 47) (.cells (o21 1 ⟨#[]⟩ ⟨#[]⟩ 0 0 ⟨#[]⟩ ⟨#[]⟩ ⟨#[]⟩ 0 (.slice none 0 0) 0 0 ⟨#[]⟩ ⟨#[]⟩ ⟨#[]⟩ 0 ⟨#[]⟩ 0 0 true wt) 47)
 obtain ⟨w3, Hw3⟩ : ∃ w3, Hid (w3 = ((w.alloc (.cells (o21 1 nn na n3 n4 sn si sm sp (.slice ta tl tc) s6 s7 cn ci cs ct ce c6 c7 true wt) 47)).alloc (.cells z21 47)).alloc (.cells (o21 1 ⟨#[]⟩ ⟨#[]⟩ 0 0 ⟨#[]⟩ ⟨#[]⟩ ⟨#[]⟩ 0 (.slice none 0 0) 0 0 ⟨#[]⟩ ⟨#[]⟩ ⟨#[]⟩ 0 ⟨#[]⟩ 0 0 true wt) 47)) := ⟨_, rfl⟩
 have HA3 : Hid (Blk w3 w.heap.size (o21 1 nn na n3 n4 sn si sm sp (.slice ta tl tc) s6 s7 cn ci cs ct ce c6 c7 true wt) 47) := by rw [Hw3.out]; exact b1
 have HR3 : Hid (Blk w3 (w.heap.size + 1) z21 47) := by rw [Hw3.out]; exact b2
 have HF3 : Hid (Blk w3 (w.heap.size + 1 + 1) (o21 1 ⟨#[]⟩ ⟨#[]⟩ 0 0 ⟨#[]⟩ ⟨#[]⟩ ⟨#[]⟩ 0 (.slice none 0 0) 0 0 ⟨#[]⟩ ⟨#[]⟩ ⟨#[]⟩ 0 ⟨#[]⟩ 0 0 true wt) 47) := by rw [Hw3.out]; exact b3
 have HB3 : Hid (Below w.heap.size w w3) := by rw [Hw3.out]; exact b4
 clear b1 b2 b3 b4
 go_enter Tryz.func52, Tryz.ntmps52
 iterate 36 go_step
 refine wp_store_op rfl ?_ rfl rfl rfl rfl (by simp [Value.oneCell']) ?_
 ·simp only [size_new]
 go_upto_region 8 with fail
 rw [← Hw3.out]
 clear Hw3
 iterate 5 go_step
 refine wp_get_part (n := 4) (l := [.string nn, .string na, .int .u64 n3, .int .u64 n4]) rfl HA3.out rfl rfl Tryz.underlying43 rfl size_node ?_
 go_wp2_with fail
 refine (HCl.out w3 (HV.out.stay HB3.out)).mono ?_
 rintro e w4 ⟨rfl, hb4⟩
 have HR4 : Hid (Blk w4 (w.heap.size + 1) z21 47) := HR3.out.below hb4
 have HF4 : Hid (Blk w4 (w.heap.size + 1 + 1) (o21 1 ⟨#[]⟩ ⟨#[]⟩ 0 0 ⟨#[]⟩ ⟨#[]⟩ ⟨#[]⟩ 0 (.slice none 0 0) 0 0 ⟨#[]⟩ ⟨#[]⟩ ⟨#[]⟩ 0 ⟨#[]⟩ 0 0 true wt) 47) := HF3.out.below hb4
 have HB4 : Hid (Below w.heap.size w w4) := HB3.out.trans (hb4.mono HB3.out.size)
 have HR5 : Hid (Blk (putC w4 (w.heap.size + 1 + 1) 1 [.string g1, .string g2, .int .u64 g3, .int .u64 g4]) (w.heap.size + 1) z21 47) := putC_other (by omega) [.string g1, .string g2, .int .u64 g3, .int .u64 g4] w4 1 HR4.out
 have HF5 : Hid (Blk (putC w4 (w.heap.size + 1 + 1) 1 [.string g1, .string g2, .int .u64 g3, .int .u64 g4]) (w.heap.size + 1 + 1) (o21 1 g1 g2 g3 g4 ⟨#[]⟩ ⟨#[]⟩ ⟨#[]⟩ 0 (.slice none 0 0) 0 0 ⟨#[]⟩ ⟨#[]⟩ ⟨#[]⟩ 0 ⟨#[]⟩ 0 0 true wt) 47) := putC_mid [.string g1, .string g2, .int .u64 g3, .int .u64 g4] w4 1 _ HF4.out (by simp)
 have HB5 : Hid (Below w.heap.size w (putC w4 (w.heap.size + 1 + 1) 1 [.string g1, .string g2, .int .u64 g3, .int .u64 g4])) := putC_below [.string g1, .string g2, .int .u64 g3, .int .u64 g4] w4 1 HB4.out (by omega)
 clear hb4 HA3 HR3 HF3 HB3 HCl HR4 HB4
 dsimp only
 iterate 14 go_step
 refine wp_put_part (l := [.string g1, .string g2, .int .u64 g3, .int .u64 g4]) rfl HF4.out rfl rfl (by simp) size_node (by simp [Value.oneCell']) ?_
 obtain ⟨w5, Hw5⟩ : ∃ w5, Hid (w5 = (putC w4 (w.heap.size + 1 + 1) 1 [.string g1, .string g2, .int .u64 g3, .int .u64 g4])) := ⟨_, rfl⟩
 rw [← Hw5.out] at HR5 HF5 HB5 ⊢
 clear Hw5
 clear HF4
 by_cases h0 : ne = 0
 ·have HQ : Hid (_ = (⟨1, ⟨g1, g2, g3, g4⟩, svcZ, chkZ, true, wt⟩ : Opp)) := HFy.out h0
  have q : (ne != 0) = false := by simpa using h0
  have H0 : Hid (0 = ne) := h0.symm
  have HF : Hid (OppA w ⟨1, ⟨g1, g2, g3, g4⟩, svcZ, chkZ, true, wt⟩ ne (.returned (.tuple #[.agg (o21 1 g1 g2 g3 g4 ⟨#[]⟩ ⟨#[]⟩ ⟨#[]⟩ 0 (.slice none 0 0) 0 0 ⟨#[]⟩ ⟨#[]⟩ ⟨#[]⟩ 0 ⟨#[]⟩ 0 0 true wt), .int .i64 0])) (w5.setRow (w.heap.size + 1) (o21 1 g1 g2 g3 g4 ⟨#[]⟩ ⟨#[]⟩ ⟨#[]⟩ 0 (.slice none 0 0) 0 0 ⟨#[]⟩ ⟨#[]⟩ ⟨#[]⟩ 0 ⟨#[]⟩ 0 0 true wt))) := ⟨.slice none 0 0, by rw [← H0.out]; rfl, World.ownsRow_nil _ _ _ _, below_setRow HB5.out (by omega) _⟩
  have HLd : Hid ((loadVar 47 ⟨(w.heap.size + 1), 0, none⟩).run Tryz.prog (w5.setRow (w.heap.size + 1) (o21 1 g1 g2 g3 g4 ⟨#[]⟩ ⟨#[]⟩ ⟨#[]⟩ 0 (.slice none 0 0) 0 0 ⟨#[]⟩ ⟨#[]⟩ ⟨#[]⟩ 0 ⟨#[]⟩ 0 0 true wt)) = .ok (.agg (o21 1 g1 g2 g3 g4 ⟨#[]⟩ ⟨#[]⟩ ⟨#[]⟩ 0 (.slice none 0 0) 0 0 ⟨#[]⟩ ⟨#[]⟩ ⟨#[]⟩ 0 ⟨#[]⟩ 0 0 true wt)) (w5.setRow (w.heap.size + 1) (o21 1 g1 g2 g3 g4 ⟨#[]⟩ ⟨#[]⟩ ⟨#[]⟩ 0 (.slice none 0 0) 0 0 ⟨#[]⟩ ⟨#[]⟩ ⟨#[]⟩ 0 ⟨#[]⟩ 0 0 true wt))) := load_op (blk_setRow HR5.out _) rfl
  clear h0 HFy HFn H0 HB5
  go_upto_region 21 with fail
  iterate 2 go_step
  refine wp_get_op rfl HF5.out rfl rfl ?_
  iterate 2 go_step
  refine wp_put_op rfl HR5.out rfl rfl rfl rfl (by simp [Value.oneCell']) ?_
  go_wp2
  rw [HQ.out]
  exact ret_box (g := (w.heap.size + 1)) (w := (w5.setRow (w.heap.size + 1) (o21 1 g1 g2 g3 g4 ⟨#[]⟩ ⟨#[]⟩ ⟨#[]⟩ 0 (.slice none 0 0) 0 0 ⟨#[]⟩ ⟨#[]⟩ ⟨#[]⟩ 0 ⟨#[]⟩ 0 0 true wt))) (e := .int .i64 0) rfl rfl rfl rfl HLd.out HF.out
 ·have HQ : Hid (_ = oppZ) := HFn.out h0
  have q : (ne != 0) = true := by simpa using h0
  have HF : Hid (OppA w oppZ ne (.returned (.tuple #[.agg z21, .int .i64 ne])) (w5.setRow (w.heap.size + 1) z21)) := ⟨.slice none 0 0, rfl, World.ownsRow_nil _ _ _ _, below_setRow HB5.out (by omega) _⟩
  have HLd : Hid ((loadVar 47 ⟨(w.heap.size + 1), 0, none⟩).run Tryz.prog (w5.setRow (w.heap.size + 1) z21) = .ok (.agg z21) (w5.setRow (w.heap.size + 1) z21)) := load_op (blk_setRow HR5.out _) rfl
  clear HFy HFn HB5
  go_upto_region 20 with fail
  iterate 8 go_step
  refine wp_put_op rfl HR5.out rfl rfl rfl rfl (by simp [Value.oneCell']) ?_
  go_wp2
  rw [HQ.out]
  exact ret_box (g := (w.heap.size + 1)) (w := (w5.setRow (w.heap.size + 1) z21)) (e := .int .i64 ne) rfl rfl rfl rfl HLd.out HF.out
end Go.Proofs.YthgcnmilaifkoaaGreatDoor
