import Derived.Test.YtbhhjnbomhkdmaaGreatDoorJPay
import Derived.Test.YtbhhjnbomhkdmaaGreatDoorRcCopyS
import Derived.Test.YtbhhjnbomhkdmaaGreatDoorJRop
import Derived.Test.YtbhhjnbomhkdmaaGreatDoorSGenB
import Derived.BigQuiet
import Derived.Deep.QuietTactic
import Derived.Laws.StructEq
/- Layer 13 (journal): a list of operations in memory. -/
namespace Go.Proofs.YtbhhjnbomhkdmaaGreatDoor
open Go.RowKit
set_option linter.unusedVariables false

structure OV where
 o : Opp
 ta : Option Addr
 tc : Nat
def OV.v (x : OV) : Array Value := x.o.v (.slice x.ta x.o.svc.tags.length x.tc)
def ocs (l : List OV) : List Value := l.flatMap fun x => x.v.toList
def ops (l : List OV) : List Opp := l.map (·.o)
theorem ov_one (x : OV) : x.v.all (·.oneCell') = true := by simp [OV.v, Opp.v, Value.oneCell']
structure OpsAt (w : World) (ao : Option Addr) (l : List OV) : Prop where
 cells : CellsAt w ao (ocs l)
 tags : ∀ x ∈ l, CellsAt w x.ta (x.o.svc.tags.map Value.string)
theorem OpsAt.below {w w' : World} {ao : Option Addr} {l : List OV} (h : OpsAt w ao l) (hb : Below w.heap.size w w') : OpsAt w' ao l := ⟨h.cells.below hb, fun x hx => (h.tags x hx).below hb⟩
theorem OpsAt.at {w : World} {ao : Option Addr} {l : List OV} (h : OpsAt w ao l) (k : Nat) (hk : k < l.length) : ∃ b off, ao = some ⟨b, off, none⟩ ∧ w.rangeAt b (off + k * 21) l[k].v.toList := by
 obtain ⟨b, off, ha, hc⟩ := h.cells (flat_ne _ 21 (fun _ => rfl) (by decide) hk)
 refine ⟨b, off, ha, fun j u hj => ?_⟩
 have hj21 : j < 21 := (List.getElem?_eq_some_iff.1 hj).1
 have := hc (k * 21 + j) u (by
  unfold ocs
  rw [flat_at (fun x : OV => x.v.toList) 21 (fun _ => rfl) l k j l[k] (by simp [hk]) hj21]
  exact hj)
 rw [show off + k * 21 + j = off + (k * 21 + j) by omega]
 exact this
theorem ops_at (l : List OV) (k : Nat) (hk : k < l.length) : (ops l)[k]? = some l[k].o := by simp [ops, hk]
theorem ops_take (l : List OV) (k : Nat) (hk : k < l.length) : ops (l.take (k + 1)) = ops (l.take k) ++ [l[k].o] := by
 rw [list_take_snoc l k hk]
 unfold ops
 rw [List.map_append]
 rfl
theorem opsB_snoc (l : List Opp) (o : Opp) : opsB (l ++ [o]) = opsB l ++ opB o := by simp [opsB]
theorem wp_load_ov {op : Oper} {a : Act} {w : World} {b o : Nat} {y : OV} {K : Act → World → Prop} {Q : Exit → Act → World → Prop} {x : Operand} (ho : op.op = .load 54 x) (hx : a.eval x = .pointer (some ⟨b, o, none⟩)) (hc : w.rangeAt b o y.v.toList) (h : K (a.put op.dst (.agg y.v)) w) : op.wp Tryz.prog a w K Q :=
 wp_load_mid 54 x ho b o hx y.v.toList _ hc Tryz.underlying54 rfl info_op h

theorem opB_le {o : Opp} (h : Snd o) : (opB o).length ≤ 1231 := by
 have hc : (casB o).length ≤ 9 := by
  unfold casB
  split
  ·simp [big_length]
  ·simp
 have hb : (bodyB o).length ≤ 1219 := by
  cases h with
  | node n a b x hx h1 h2 => simp [bodyB, txtsB, txtB_length]; omega
  | svc n i m p t b x hx h1 h2 h3 h4 h5 h6 h7 =>
   have h8 := txtsB_take_le t t.length 63 h7
   rw [List.take_length] at h8
   have h9 : t.length * 64 ≤ 16 * 64 := Nat.mul_le_mul_right _ h6
   have e : (bodyB ⟨2, nodeZ, ⟨n, i, m, p, t, 0, 0⟩, chkZ, b, x⟩).length = (txtsB [n, i, m]).length + 2 + 1 + (txtsB t).length := by
    show (svcB ⟨n, i, m, p, t, 0, 0⟩).length = _
    simp [svcB, big_length]
    omega
   rw [e]
   simp [txtsB, txtB_length] at h8 ⊢
   omega
  | chk n i m p t b x hx h1 h2 h3 h4 h5 h6 =>
   have e : (bodyB ⟨3, nodeZ, svcZ, ⟨n, i, m, p, t, 0, 0⟩, b, x⟩).length = (txtsB [n, i, m]).length + 1 + (txtsB [t]).length := by
    show (chkB ⟨n, i, m, p, t, 0, 0⟩).length = _
    simp [chkB]
    omega
   rw [e]
   simp [txtsB, txtB_length]
   omega
  | dnode n b x hx h1 => simp [bodyB, txtsB, txtB_length]; omega
  | dsvc n i b x hx h1 h2 => simp [bodyB, txtsB, txtB_length]; omega
  | dchk n i b x hx h1 h2 => simp [bodyB, txtsB, txtB_length]; omega
 simp only [opB, List.length_append, List.length_cons]
 omega
theorem opsB_le : ∀ (l : List Opp), (∀ o ∈ l, Snd o) → (opsB l).length ≤ l.length * 1231
 | [], _ => by simp [opsB]
 | o :: l, h => by
  have ih := opsB_le l fun x hx => h x (List.mem_cons_of_mem _ hx)
  have h1 := opB_le (h o (List.mem_cons_self ..))
  have e : opsB (o :: l) = opB o ++ opsB l := by simp [opsB]
  rw [e, List.length_append, List.length_cons, Nat.succ_mul]
  omega
theorem soundB_all {l : List Opp} (h : soundB l = true) : 1 ≤ l.length ∧ l.length ≤ 64 ∧ ∀ o ∈ l, Snd o := by
 simp only [soundB, Bool.and_eq_true, decide_eq_true_eq, List.all_eq_true] at h
 exact ⟨h.1.1, h.1.2, fun o ho => snd_shape (h.2 o ho)⟩
theorem payB_le {i : Int} {l : List Opp} (h : soundB l = true) : (payB i l).length ≤ 78793 := by
 obtain ⟨_, h2, h3⟩ := soundB_all h
 have := opsB_le l h3
 simp only [payB, List.length_append, big_length, List.length_cons, List.length_nil]
 have : l.length * 1231 ≤ 64 * 1231 := Nat.mul_le_mul_right _ h2
 omega
end Go.Proofs.YtbhhjnbomhkdmaaGreatDoor

/- Layer 13 (journal): what was written is read back, plain. -/
namespace Go.Proofs.YtbhhjnbomhkdmaaGreatDoor
open Go.RowKit
set_option linter.unusedVariables false

theorem tkB_app (a r : List UInt8) (b : Bool) (k : Nat) (h : a.length = k) : tkB k (a ++ r, b) = a := by
 unfold tkB
 rw [if_pos (by simp; omega)]
 exact List.take_left' h
theorem tkS_app (a r : List UInt8) (b : Bool) (k : Nat) (h : a.length = k) : tkS k (a ++ r, b) = (r, b) := by
 unfold tkS
 rw [if_pos (by simp; omega)]
 simp only
 rw [List.drop_left' h]
theorem byteOf_nat (n : Nat) (h : n < 256) : (byteOf (n : Int)).toNat = n := by
 have := byteOf_val (n : Int)
 omega
theorem sml_app (c : UInt8) (r : List UInt8) (b : Bool) : smlB (c :: r, b) = c.toNat ∧ tkS 1 (c :: r, b) = (r, b) := by
 have h1 := tkB_app [c] r b 1 rfl
 have h2 := tkS_app [c] r b 1 rfl
 refine ⟨?_, h2⟩
 unfold smlB
 rw [show (c :: r, b) = ([c] ++ r, b) from rfl, h1]
 simp [unbig]
theorem txt_app (t : ByteArray) (r : List UInt8) (b : Bool) (h : t.size ≤ 255) : txt (txtB t ++ r, b) = t ∧ txS (txtB t ++ r, b) = (r, b) := by
 have e : txtB t ++ r = byteOf t.size :: (t.data.toList ++ r) := by simp [txtB]
 obtain ⟨h1, h2⟩ := sml_app (byteOf t.size) (t.data.toList ++ r) b
 rw [byteOf_nat t.size (by omega)] at h1
 have hl : t.data.toList.length = t.size := by simp
 constructor
 ·unfold txt txB
  rw [e, h1, h2, tkB_app _ _ _ _ hl]
 ·unfold txS
  rw [e, h1, h2, tkS_app _ _ _ _ hl]
theorem txsP_app : ∀ (ts : List ByteArray) (r : List UInt8) (b : Bool), (∀ t ∈ ts, t.size ≤ 255) → txsP ts.length (txtsB ts ++ r, b) = (ts, (r, b)) := by
 have key : ∀ (n : Nat) (ts : List ByteArray) (r : List UInt8) (b : Bool), ts.length = n → (∀ t ∈ ts, t.size ≤ 255) → txsP n (txtsB ts ++ r, b) = (ts, (r, b)) := by
  intro n
  induction n with
  | zero =>
   intro ts r b hl _
   obtain rfl := List.eq_nil_of_length_eq_zero hl
   simp [txsP, txtsB]
  | succ n ih =>
   intro ts r b hl h
   rcases List.eq_nil_or_concat ts with rfl | ⟨us, t, rfl⟩
   ·simp at hl
   ·rw [List.concat_eq_append] at *
    have hu : us.length = n := by simp at hl; omega
    have e : txtsB (us ++ [t]) ++ r = txtsB us ++ (txtB t ++ r) := by rw [txtsB_snoc, List.append_assoc]
    have h1 := ih us (txtB t ++ r) b hu fun x hx => h x (List.mem_append_left _ hx)
    obtain ⟨h2, h3⟩ := txt_app t r b (h t (by simp))
    simp only [txsP]
    rw [e, h1]
    simp only
    have h4 : (⟨(txB (txtB t ++ r, b)).toArray⟩ : ByteArray) = t := h2
    rw [h4, h3]
 exact fun ts r b h => key ts.length ts r b rfl h
theorem textsP_app (ts : List ByteArray) (r : List UInt8) (b : Bool) (hn : ts.length ≤ 255) (h : ∀ t ∈ ts, t.size ≤ 255) : textsP (byteOf ts.length :: (txtsB ts ++ r), b) = (ts, (r, b)) := by
 obtain ⟨h1, h2⟩ := sml_app (byteOf ts.length) (txtsB ts ++ r) b
 rw [byteOf_nat ts.length (by omega)] at h1
 unfold textsP
 rw [h1, h2]
 exact txsP_app ts r b h
theorem num_app (k : Nat) (n : Int) (r : List UInt8) (b : Bool) (h0 : 0 ≤ n) (h1 : n < 256 ^ k) : ((unbig (tkB k (big k n ++ r, b)) : Nat) : Int) = n ∧ tkS k (big k n ++ r, b) = (r, b) :=
 ⟨by rw [tkB_app _ _ _ _ (big_length k n)]; exact unbig_big k n h0 h1, tkS_app _ _ _ _ (big_length k n)⟩
theorem casP_app (o : Opp) (r : List UInt8) (b : Bool) (hr : 0 ≤ o.want ∧ o.want ≤ 18446744073709551615) (hw : o.cas = false → o.want = 0) : (casP (casB o ++ r, b)).1.1 = o.cas ∧ ((casP (casB o ++ r, b)).1.2 : Int) = o.want ∧ (casP (casB o ++ r, b)).2 = (r, b) := by
 cases hc : o.cas with
 | false =>
  have e : casB o ++ r = 0 :: r := by unfold casB; rw [hc]; rfl
  obtain ⟨h1, h2⟩ := sml_app 0 r b
  have e2 : casP (casB o ++ r, b) = ((false, 0), (r, b)) := by
   unfold casP
   rw [e, h1, h2]
   rfl
  rw [e2, hw hc]
  exact ⟨rfl, rfl, rfl⟩
 | true =>
  have e : casB o ++ r = 1 :: (big 8 o.want ++ r) := by unfold casB; rw [hc]; rfl
  obtain ⟨h1, h2⟩ := sml_app 1 (big 8 o.want ++ r) b
  obtain ⟨h3, h4⟩ := num_app 8 o.want r b hr.1 (by omega)
  have e2 : casP (casB o ++ r, b) = ((true, unbig (tkB 8 (big 8 o.want ++ r, b))), (r, b)) := by
   unfold casP
   rw [e, h1, h2, h4]
   rfl
  rw [e2]
  exact ⟨rfl, h3, rfl⟩
theorem opP_app {o : Opp} (h : Snd o) (hr : 0 ≤ o.want ∧ o.want ≤ 18446744073709551615) (r : List UInt8) (b : Bool) : opP (opB o ++ r, b) = (o, (r, b)) := by
 have hw : o.cas = false → o.want = 0 := by cases h <;> assumption
 have hk : 1 ≤ o.kind ∧ o.kind ≤ 6 := by cases h <;> exact ⟨by simp, by simp⟩
 have e : opB o ++ r = byteOf o.kind :: (casB o ++ (bodyB o ++ r)) := by simp [opB]
 obtain ⟨h1, h2⟩ := sml_app (byteOf o.kind) (casB o ++ (bodyB o ++ r)) b
 have hkv : ((byteOf o.kind).toNat : Int) = o.kind := by rw [byteOf_val]; omega
 obtain ⟨c1, c2, c3⟩ := casP_app o (bodyB o ++ r) b hr hw
 unfold opP
 rw [e]
 simp only
 rw [h1, h2, c3, c1, c2, hkv]
 cases h with
 | node n a bb x hx g1 g2 =>
  have eb : bodyB ⟨1, ⟨n, a, 0, 0⟩, svcZ, chkZ, bb, x⟩ ++ r = txtB n ++ (txtB a ++ r) := by simp [bodyB, txtsB]
  obtain ⟨t1, t2⟩ := txt_app n (txtB a ++ r) b (by omega)
  obtain ⟨t3, t4⟩ := txt_app a r b (by omega)
  rw [eb, t1, t2, t3, t4]
  rfl
 | svc n i m p t bb x hx g1 g2 g3 g4 g5 g6 g7 =>
  have eb : bodyB ⟨2, nodeZ, ⟨n, i, m, p, t, 0, 0⟩, chkZ, bb, x⟩ ++ r = txtB n ++ (txtB i ++ (txtB m ++ (big 2 p ++ (byteOf t.length :: (txtsB t ++ r))))) := by
   show svcB ⟨n, i, m, p, t, 0, 0⟩ ++ r = _
   simp [svcB, txtsB]
  obtain ⟨t1, t2⟩ := txt_app n (txtB i ++ (txtB m ++ (big 2 p ++ (byteOf t.length :: (txtsB t ++ r))))) b (by omega)
  obtain ⟨t3, t4⟩ := txt_app i (txtB m ++ (big 2 p ++ (byteOf t.length :: (txtsB t ++ r)))) b (by omega)
  obtain ⟨t5, t6⟩ := txt_app m (big 2 p ++ (byteOf t.length :: (txtsB t ++ r))) b (by omega)
  obtain ⟨t7, t8⟩ := num_app 2 p (byteOf t.length :: (txtsB t ++ r)) b (by omega) (by omega)
  have t9 := textsP_app t r b (by omega) fun y hy => by have := g7 y hy; omega
  rw [eb, t1, t2, t3, t4, t5, t6, t7, t8, t9]
  rfl
 | chk n i m p t bb x hx g1 g2 g3 g4 g5 g6 =>
  have eb : bodyB ⟨3, nodeZ, svcZ, ⟨n, i, m, p, t, 0, 0⟩, bb, x⟩ ++ r = txtB n ++ (txtB i ++ (txtB m ++ (byteOf p :: (txtB t ++ r)))) := by
   show chkB ⟨n, i, m, p, t, 0, 0⟩ ++ r = _
   simp [chkB, txtsB]
  obtain ⟨t1, t2⟩ := txt_app n (txtB i ++ (txtB m ++ (byteOf p :: (txtB t ++ r)))) b (by omega)
  obtain ⟨t3, t4⟩ := txt_app i (txtB m ++ (byteOf p :: (txtB t ++ r))) b (by omega)
  obtain ⟨t5, t6⟩ := txt_app m (byteOf p :: (txtB t ++ r)) b (by omega)
  obtain ⟨t7, t8⟩ := sml_app (byteOf p) (txtB t ++ r) b
  have t7' : ((byteOf p).toNat : Int) = p := by rw [byteOf_val]; omega
  obtain ⟨t9, t10⟩ := txt_app t r b (by omega)
  rw [eb, t1, t2, t3, t4, t5, t6, t7, t8, t7', t9, t10]
  rfl
 | dnode n bb x hx g1 =>
  have eb : bodyB ⟨4, ⟨n, ⟨#[]⟩, 0, 0⟩, svcZ, chkZ, bb, x⟩ ++ r = txtB n ++ r := by simp [bodyB, txtsB]
  obtain ⟨t1, t2⟩ := txt_app n r b (by omega)
  rw [eb, t1, t2]
  rfl
 | dsvc n i bb x hx g1 g2 =>
  have eb : bodyB ⟨5, nodeZ, ⟨n, i, ⟨#[]⟩, 0, [], 0, 0⟩, chkZ, bb, x⟩ ++ r = txtB n ++ (txtB i ++ r) := by simp [bodyB, txtsB]
  obtain ⟨t1, t2⟩ := txt_app n (txtB i ++ r) b (by omega)
  obtain ⟨t3, t4⟩ := txt_app i r b (by omega)
  rw [eb, t1, t2, t3, t4]
  rfl
 | dchk n i bb x hx g1 g2 =>
  have eb : bodyB ⟨6, nodeZ, svcZ, ⟨n, i, ⟨#[]⟩, 0, ⟨#[]⟩, 0, 0⟩, bb, x⟩ ++ r = txtB n ++ (txtB i ++ r) := by simp [bodyB, txtsB]
  obtain ⟨t1, t2⟩ := txt_app n (txtB i ++ r) b (by omega)
  obtain ⟨t3, t4⟩ := txt_app i r b (by omega)
  rw [eb, t1, t2, t3, t4]
  rfl
/-- n operations, one behind the other. -/
def opsP : Nat → Rd → List Opp × Rd
 | 0, s => ([], s)
 | n + 1, s => ((opsP n s).1 ++ [(opP (opsP n s).2).1], (opP (opsP n s).2).2)
theorem opsP_app : ∀ (n : Nat) (os : List Opp) (r : List UInt8) (b : Bool), os.length = n → (∀ o ∈ os, Snd o) → (∀ o ∈ os, 0 ≤ o.want ∧ o.want ≤ 18446744073709551615) → opsP n (opsB os ++ r, b) = (os, (r, b)) := by
 intro n
 induction n with
 | zero =>
  intro os r b hl _ _
  obtain rfl := List.eq_nil_of_length_eq_zero hl
  simp [opsP, opsB]
 | succ n ih =>
  intro os r b hl h hr
  rcases List.eq_nil_or_concat os with rfl | ⟨us, t, rfl⟩
  ·simp at hl
  ·rw [List.concat_eq_append] at *
   have hu : us.length = n := by simp at hl; omega
   have e : opsB (us ++ [t]) ++ r = opsB us ++ (opB t ++ r) := by simp [opsB]
   have h1 := ih us (opB t ++ r) b hu (fun x hx => h x (List.mem_append_left _ hx)) (fun x hx => hr x (List.mem_append_left _ hx))
   have h2 := opP_app (h t (by simp)) (hr t (by simp)) r b
   simp only [opsP]
   rw [e, h1]
   simp only
   rw [h2]
/-- The entry that readPayload reads. -/
def readI (p : List UInt8) : Nat := unbig (tkB 8 (p, false))
def readN (p : List UInt8) : Nat := smlB (tkS 8 (p, false))
def readO (p : List UInt8) : List Opp × Rd := opsP (readN p) (tkS 1 (tkS 8 (p, false)))
def readOk (p : List UInt8) : Bool := !(readO p).2.2 && decide ((readO p).2.1.length = 0) && soundB (readO p).1
theorem read_back {i : Int} {os : List Opp} (h0 : 0 ≤ i) (h1 : i ≤ 18446744073709551615) (hs : soundB os = true) (hr : ∀ o ∈ os, 0 ≤ o.want ∧ o.want ≤ 18446744073709551615) : (readI (payB i os) : Int) = i ∧ (readO (payB i os)).1 = os ∧ readOk (payB i os) = true := by
 obtain ⟨g1, g2, g3⟩ := soundB_all hs
 have e : payB i os = big 8 i ++ (byteOf os.length :: (opsB os ++ [])) := by simp [payB]
 obtain ⟨a1, a2⟩ := num_app 8 i (byteOf os.length :: (opsB os ++ [])) false h0 (by omega)
 obtain ⟨b1, b2⟩ := sml_app (byteOf os.length) (opsB os ++ []) false
 rw [byteOf_nat os.length (by omega)] at b1
 have c := opsP_app os.length os [] false rfl g3 hr
 have hO : readO (payB i os) = (os, ([], false)) := by
  unfold readO readN
  rw [e, a2, b1, b2]
  exact c
 refine ⟨?_, by rw [hO], ?_⟩
 ·unfold readI
  rw [e]
  exact a1
 ·unfold readOk
  rw [hO]
  simp [hs]
end Go.Proofs.YtbhhjnbomhkdmaaGreatDoor

/- Layer 9 (records): the document's CopyOp. -/
namespace Go.Proofs.YtbhhjnbomhkdmaaGreatDoor
open Go.RowKit
set_option linter.unusedVariables false

end Go.Proofs.YtbhhjnbomhkdmaaGreatDoor

/- Layer 13 (journal): the document's CopyOps and Copy. -/
namespace Go.Proofs.YtbhhjnbomhkdmaaGreatDoor
open Go.RowKit
set_option linter.unusedVariables false

theorem info_opz : (Tryz.prog.info? 54).map (fun i => (i.zero, i.size, i.bytes)) = some (some (.agg (oppZ.v (.slice none 0 0))), 21, 256) := by kernel_rfl
/-- The tags of an operation lie in memory of their own. -/
def TagO (w : World) (B : Nat) (x : OV) : Prop := w.ownsRow B 9 1 (.slice x.ta x.o.svc.tags.length x.tc) x.o.svc.tags.length (x.o.svc.tags.map Value.string)
/-- A list of operations in memory of its own. -/
structure OwnO (w : World) (B : Nat) (v : Value) (l : List OV) : Prop where
 row : w.ownsRow B 54 21 v l.length (ocs l)
 tags : ∀ x ∈ l, TagO w B x
theorem OwnO.below {w w' : World} {B : Nat} {v : Value} {l : List OV} (h : OwnO w B v l) (hb : Below w.heap.size w w') : OwnO w' B v l := ⟨row_below h.row hb, fun x hx => row_below (h.tags x hx) hb⟩
theorem OwnO.shape {w : World} {B : Nat} {v : Value} {l : List OV} (h : OwnO w B v l) : ∃ ao cap, v = .slice ao l.length cap := by
 obtain ⟨ao, cap, e, _⟩ := row_forms h.row
 exact ⟨ao, cap, e⟩
theorem OwnO.at {w : World} {B : Nat} {ao : Option Addr} {cap : Nat} {l : List OV} (h : OwnO w B (.slice ao l.length cap) l) : OpsAt w ao l := ⟨row_cells h.row, fun x hx => row_cells (h.tags x hx)⟩
theorem ocs_snoc (l : List OV) (x : OV) : ocs (l ++ [x]) = ocs l ++ x.v.toList := by simp [ocs]
theorem ocs_one (x : OV) : ∀ u ∈ x.v.toList, u.oneCell' = true := by
 intro u hu
 have := Array.all_eq_true_iff_forall_mem.1 (ov_one x) u (by simpa using hu)
 exact this
theorem OwnO.push {w w' : World} {B : Nat} {v v' : Value} {l : List OV} {x : OV} (h : OwnO w B v l) (hx : TagO w B x) (hr : w'.ownsRow B 54 21 v' (l.length + 1) (ocs l ++ x.v.toList)) (hg : Grew w w' v v') : OwnO w' B v' (l ++ [x]) := by
 refine ⟨by rw [ocs_snoc, List.length_append]; exact hr, fun y hy => ?_⟩
 have key : ∀ y, TagO w B y → TagO w' B y := fun y hy => row_grew hy hg (rows_ne hy h.row (by decide))
 rcases List.mem_append.1 hy with hy | hy
 ·exact key y (h.tags y hy)
 ·simp at hy
  subst hy
  exact key y hx

set_option maxRecDepth 100000 in
set_option maxHeartbeats 1000000 in
theorem wp_slice_ov {o : Oper} {a : Act} {W : World} {K : Act → World → Prop} {Q : Exit → Act → World → Prop} {x : Operand} {z : OV} (ho : o.op = .buildSlice 25 1 #[(0, x)]) (hx : a.eval x = .agg z.v) (h : K (a.put o.dst (.slice (some ⟨W.heap.size, 0, none⟩) 1 1)) (W.alloc (.cells z.v 54))) : o.wp Tryz.prog a W K Q := by
 have hr : (execOp a.eval o).run Tryz.prog W = .ok (.value (.slice (some ⟨W.heap.size, 0, none⟩) 1 1)) (W.alloc (.cells z.v 54)) := by
  obtain ⟨⟨kd, ⟨nn, na, n3, n4⟩, ⟨sn, si, sm, sp, tg, s6, s7⟩, ⟨cn, ci, cs, ct, ce, c6, c7⟩, cas, wt⟩, ta, tc⟩ := z
  simp only [OV.v, Opp.v] at hx ⊢
  generalize tg.length = tl at *
  unfold execOp
  simp only [ho, List.map_toArray, List.map_cons, List.map_nil, hx]
  go_simp
 unfold Oper.wp
 rw [hr]
 exact h

end Go.Proofs.YtbhhjnbomhkdmaaGreatDoor

/- Layer 13 (journal): the document's Copy. -/
namespace Go.Proofs.YtbhhjnbomhkdmaaGreatDoor
open Go.RowKit
set_option linter.unusedVariables false

theorem load_ent {w : World} {g : Nat} {cs : Array Value} (h : Blk w g cs 27) (hs : cs.size = 2) : (loadVar 27 ⟨g, 0, none⟩).run Tryz.prog w = .ok (.agg cs) w :=
 run_loadVar_row (P := Tryz.prog) w g 27 27 cs (0, 0) _ h Tryz.underlying27 rfl (by rw [show (Tryz.prog.info? 27).map (·.size) = some 2 from by kernel_rfl, hs])
end Go.Proofs.YtbhhjnbomhkdmaaGreatDoor

/- Layer 13 (journal): slices.Equal of texts. -/
namespace Go.Proofs.YtbhhjnbomhkdmaaGreatDoor
open Go.RowKit
set_option linter.unusedVariables false
set_option linter.unusedSimpArgs false

theorem txt_no {l m : List ByteArray} {k : Nat} (h1 : k < l.length) (h2 : k < m.length) (h : l[k] ≠ m[k]) : decide (l = m) = false := by
 rw [decide_eq_false_iff_not]
 intro e
 subst e
 exact h rfl
theorem txt_yes {l m : List ByteArray} (hl : l.length = m.length) (h : ∀ i (h1 : i < l.length) (h2 : i < m.length), l[i] = m[i]) : l = m := List.ext_getElem hl fun i h1 h2 => h i h1 h2

set_option maxRecDepth 100000 in
set_option maxHeartbeats 1000000 in
theorem equalT_calls (ao bo : Option Addr) (ca cb : Nat) (l m : List ByteArray) (w : World) (hl : l.length ≤ 140737488355328) (hm : m.length ≤ 140737488355328) (ha : CellsAt w ao (l.map Value.string)) (hb : CellsAt w bo (m.map Value.string)) :
  Calls Tryz.prog 92 #[.slice ao l.length ca, .slice bo m.length cb] w fun e w' => e = .returned (.bool (decide (l = m))) ∧ ∃ n, w' = w.drewN n := by
 obtain ⟨R, HR⟩ : ∃ R, Hid (R = decide (l = m)) := ⟨_, rfl⟩
 rw [← HR.out]
 by_cases hlen : l.length = m.length
 ·have hq : ((l.length : Int) != (m.length : Int)) = false := by simp; omega
  obtain ⟨n, Hn⟩ : ∃ n, Hid (n = m.length) := ⟨_, rfl⟩
  rw [← Hn.out] at hlen hm hq ⊢
  obtain ⟨n', Hn'⟩ : ∃ n', Hid (n' = l.length) := ⟨_, rfl⟩
  rw [← Hn'.out] at hlen hl hq ⊢
  subst hlen
  go_enter Tryz.func92, Tryz.ntmps92
  go_wp2
  go_loopw [13] (fun i wr => ∃ k : Nat, k ≤ n' ∧ i = .int .i64 k ∧ Hid (∀ j (h1 : j < l.length) (h2 : j < m.length), j < k → l[j] = m[j]) ∧ ∃ q, wr = w.drewN q) (fun i _ => n' - (intOf i).toNat)
  case atStart => exact ⟨0, Nat.zero_le _, rfl, fun _ _ _ h => absurd h (Nat.not_lt_zero _), 0, rfl⟩
  case round =>
   obtain ⟨k, hk, rfl, HS, hdq⟩ := hrel
   have HQ : Hid (∃ q, wr = w.drewN q) := hdq
   have hbw : Below w.heap.size w wr := by obtain ⟨q, rfl⟩ := hdq; exact below_draws w q
   have HQ2 : Hid (∀ n, ∃ q, wr.drewN n = w.drewN q) := by intro n; obtain ⟨q, rfl⟩ := hdq; exact ⟨_, World.drewN_drewN _ _ _⟩
   clear hdq
   by_cases hlt : k < n'
   ·have k1 : k < l.length := by rw [← Hn'.out]; exact hlt
    have k2 : k < m.length := by rw [← Hn.out]; exact hlt
    obtain ⟨b, off, rfl, hc⟩ := (ha.below hbw).str k k1
    obtain ⟨b2, off2, rfl, hc2⟩ := (hb.below hbw).str k k2
    obtain ⟨c, Hc⟩ : ∃ c, Hid (c = l[k]'k1) := ⟨_, rfl⟩
    obtain ⟨d, Hd⟩ : ∃ d, Hid (d = m[k]'k2) := ⟨_, rfl⟩
    rw [← Hc.out] at hc
    rw [← Hd.out] at hc2
    by_cases he : c = d
    ·have HS2 : Hid (∀ j (h1 : j < l.length) (h2 : j < m.length), j < k + 1 → l[j] = m[j]) := by
      intro j h1 h2 h3
      by_cases hj : j = k
      ·subst hj
       have := Hc.out.symm.trans (he.trans Hd.out)
       exact this
      ·exact HS.out j h1 h2 (by omega)
     clear Hc Hd HS k1 k2
     subst he
     have hqq : (c.toList == c.toList) = true := beq_self_eq_true _
     go_wp2_with fail
     go_quiet (fail)
     go_wp2
     go_roundw
     case rel => exact ⟨k + 1, by omega, by go_num, HS2, HQ2.out _⟩
     case measure => simp [intOf]; omega
    ·have HF : Hid (R = false) := by
      show _ = _
      rw [HR.out]
      exact txt_no k1 k2 (by rw [← Hc.out, ← Hd.out]; exact he)
     have hqq : (c.toList == d.toList) = false := by rw [beq_toList]; simpa using he
     clear Hc Hd HS k1 k2
     go_wp2_with fail
     go_quiet (fail)
     go_wp2
     go_ret
     exact ⟨by rw [HF.out]; rfl, HQ2.out _⟩
   ·have HT : Hid (R = true) := by
     show _ = _
     rw [HR.out, decide_eq_true_eq]
     exact txt_yes (by rw [← Hn.out, ← Hn'.out]) fun j h1 h2 => HS.out j h1 h2 (by rw [← Hn'.out] at h1; omega)
    go_wp2
    go_ret
    exact ⟨by rw [HT.out]; rfl, HQ.out⟩
 ·have HF : Hid (R = false) := by
   show _ = _
   rw [HR.out, decide_eq_false_iff_not]
   intro e
   subst e
   exact hlen rfl
  have hq : ((l.length : Int) != (m.length : Int)) = true := by simp; omega
  obtain ⟨n, Hn⟩ : ∃ n, Hid (n = m.length) := ⟨_, rfl⟩
  obtain ⟨n', Hn'⟩ : ∃ n', Hid (n' = l.length) := ⟨_, rfl⟩
  rw [← Hn.out] at hq ⊢
  rw [← Hn'.out] at hq ⊢
  clear hlen
  go_enter Tryz.func92, Tryz.ntmps92
  go_wp2
  go_ret
  exact ⟨by rw [HF.out]; rfl, 0, rfl⟩
end Go.Proofs.YtbhhjnbomhkdmaaGreatDoor

/- Layer 13 (journal): sameService. -/
namespace Go.Proofs.YtbhhjnbomhkdmaaGreatDoor
open Go.RowKit
set_option linter.unusedVariables false
set_option linter.unusedSimpArgs false

set_option maxRecDepth 100000 in
set_option maxHeartbeats 2000000 in
theorem jsameService_calls (a b : Sp) (ta tb : Option Addr) (ca cb : Nat) (w : World) (hla : a.tags.length ≤ 140737488355328) (hlb : b.tags.length ≤ 140737488355328) (ha : CellsAt w ta (a.tags.map Value.string)) (hb : CellsAt w tb (b.tags.map Value.string)) :
  Calls Tryz.prog 81 #[.agg (a.v (.slice ta a.tags.length ca)), .agg (b.v (.slice tb b.tags.length cb))] w fun e w' => e = .returned (.bool (sameS a b)) ∧ Below w.heap.size w w' := by
 have HT : Hid (∀ w', Below w.heap.size w w' → Calls Tryz.prog 92 #[.slice ta a.tags.length ca, .slice tb b.tags.length cb] w' fun e w'' => e = .returned (.bool (decide (a.tags = b.tags))) ∧ ∃ n, w'' = w'.drewN n) := fun w' h => equalT_calls ta tb ca cb a.tags b.tags w' hla hlb (ha.below h) (hb.below h)
 clear ha hb hla hlb
 obtain ⟨R, HR⟩ : ∃ x, Hid (x = sameS a b) := ⟨_, rfl⟩
 rw [← HR.out]
 obtain ⟨an, ai, am, ap, at_, ax, ay⟩ := a
 obtain ⟨bn, bi, bm, bp, bt_, bx, by_⟩ := b
 simp only [Sp.v] at *
 obtain ⟨la, Hla⟩ : ∃ x, Hid (x = at_.length) := ⟨_, rfl⟩
 obtain ⟨lb, Hlb⟩ : ∃ x, Hid (x = bt_.length) := ⟨_, rfl⟩
 rw [← Hla.out, ← Hlb.out] at HT ⊢
 clear Hla Hlb
 obtain ⟨w2, Hw2⟩ : ∃ w2, Hid (w2 = (w.alloc (.cells #[.string an, .string ai, .string am, .int .i64 ap, .slice ta la ca, .int .u64 ax, .int .u64 ay] 48)).alloc (.cells #[.string bn, .string bi, .string bm, .int .i64 bp, .slice tb lb cb, .int .u64 bx, .int .u64 by_] 48)) := ⟨_, rfl⟩
 have hz : (w.alloc (.cells #[.string an, .string ai, .string am, .int .i64 ap, .slice ta la ca, .int .u64 ax, .int .u64 ay] 48)).heap.size = w.heap.size + 1 := size_new _ _
 have HX : Hid (Blk w2 w.heap.size #[.string an, .string ai, .string am, .int .i64 ap, .slice ta la ca, .int .u64 ax, .int .u64 ay] 48) := by rw [Hw2.out]; exact (Blk.new _ _ _).alloc _
 have HY : Hid (Blk w2 (w.heap.size + 1) #[.string bn, .string bi, .string bm, .int .i64 bp, .slice tb lb cb, .int .u64 bx, .int .u64 by_] 48) := by rw [Hw2.out, ← hz]; exact Blk.new _ _ _
 have HB : Hid (Below w.heap.size w w2) := by rw [Hw2.out]; exact (below_new w _).alloc (by rw [hz]; omega) _
 clear hz
 go_enter Tryz.func81, Tryz.ntmps81
 go_upto_region 1 with fail
 rw [← Hw2.out]
 clear Hw2
 have x0 := HX.out.cell 0 rfl
 have y0 := HY.out.cell 0 rfl
 have x1 := HX.out.cell 1 rfl
 have y1 := HY.out.cell 1 rfl
 have x2 := HX.out.cell 2 rfl
 have y2 := HY.out.cell 2 rfl
 have x3 := HX.out.cell 3 rfl
 have y3 := HY.out.cell 3 rfl
 have x4 := HX.out.cell 4 rfl
 have y4 := HY.out.cell 4 rfl
 have x5 := HX.out.cell 5 rfl
 have y5 := HY.out.cell 5 rfl
 have x6 := HX.out.cell 6 rfl
 have y6 := HY.out.cell 6 rfl
 cases q0 : (an.toList == bn.toList) with
 | false =>
  have d0 : decide (an = bn) = false := by rw [← beq_toList]; exact q0
  have HF : Hid (R = false) := by
   show _ = _
   rw [HR.out]
   simp only [sameS, d0, Bool.true_and, Bool.and_true, Bool.false_and, Bool.and_false]
  clear HR d0
  go_wp2
  go_ret
  exact ⟨by rw [HF.out]; rfl, HB.out⟩
 | true =>
  have d0 : decide (an = bn) = true := by rw [← beq_toList]; exact q0
  cases q1 : (ai.toList == bi.toList) with
  | false =>
   have d1 : decide (ai = bi) = false := by rw [← beq_toList]; exact q1
   have HF : Hid (R = false) := by
    show _ = _
    rw [HR.out]
    simp only [sameS, d0, d1, Bool.true_and, Bool.and_true, Bool.false_and, Bool.and_false]
   clear HR d0 d1
   go_wp2
   go_ret
   exact ⟨by rw [HF.out]; rfl, HB.out⟩
  | true =>
   have d1 : decide (ai = bi) = true := by rw [← beq_toList]; exact q1
   cases q2 : (am.toList == bm.toList) with
   | false =>
    have d2 : decide (am = bm) = false := by rw [← beq_toList]; exact q2
    have HF : Hid (R = false) := by
     show _ = _
     rw [HR.out]
     simp only [sameS, d0, d1, d2, Bool.true_and, Bool.and_true, Bool.false_and, Bool.and_false]
    clear HR d0 d1 d2
    go_wp2
    go_ret
    exact ⟨by rw [HF.out]; rfl, HB.out⟩
   | true =>
    have d2 : decide (am = bm) = true := by rw [← beq_toList]; exact q2
    cases q3 : (ap == bp) with
    | false =>
     have d3 := q3
     have HF : Hid (R = false) := by
      show _ = _
      rw [HR.out]
      simp only [sameS, d0, d1, d2, d3, Bool.true_and, Bool.and_true, Bool.false_and, Bool.and_false]
     clear HR d0 d1 d2 d3
     go_wp2
     go_ret
     exact ⟨by rw [HF.out]; rfl, HB.out⟩
    | true =>
     have d3 := q3
     go_wp2_with fail
     clear x0 y0 x1 y1 x2 y2 x3 y3 x4 y4 x5 y5 x6 y6
     refine (HT.out w2 HB.out).mono ?_
     rintro e w3 ⟨rfl, hd⟩
     have hb3 : Below w2.heap.size w2 w3 := by obtain ⟨n, rfl⟩ := hd; exact below_draws _ _
     clear hd
     have x5 := (HX.out.below hb3).cell 5 rfl
     have y5 := (HY.out.below hb3).cell 5 rfl
     have x6 := (HX.out.below hb3).cell 6 rfl
     have y6 := (HY.out.below hb3).cell 6 rfl
     have HB3 : Hid (Below w.heap.size w w3) := HB.out.trans (hb3.mono HB.out.size)
     clear hb3 HX HY HB HT
     cases d4 : decide (at_ = bt_) with
     | false =>
      have HF : Hid (R = false) := by
       show _ = _
       rw [HR.out]
       simp only [sameS, d0, d1, d2, d3, d4, Bool.true_and, Bool.and_true, Bool.false_and, Bool.and_false]
      clear HR
      go_wp2
      go_ret
      exact ⟨by rw [HF.out]; rfl, HB3.out⟩
     | true =>
      cases q5 : (ax == bx) with
      | false =>
       have d5 := q5
       have HF : Hid (R = false) := by
        show _ = _
        rw [HR.out]
        simp only [sameS, d0, d1, d2, d3, d4, d5, Bool.true_and, Bool.and_true, Bool.false_and, Bool.and_false]
       clear HR d0 d1 d2 d3 d5
       go_wp2
       go_ret
       exact ⟨by rw [HF.out]; rfl, HB3.out⟩
      | true =>
       have d5 := q5
       cases q6 : (ay == by_) with
       | false =>
        have d6 := q6
        have HF : Hid (R = false) := by
         show _ = _
         rw [HR.out]
         simp only [sameS, d0, d1, d2, d3, d4, d5, d6, Bool.true_and, Bool.and_true, Bool.false_and, Bool.and_false]
        clear HR d0 d1 d2 d3 d5 d6
        go_wp2
        go_ret
        exact ⟨by rw [HF.out]; rfl, HB3.out⟩
       | true =>
        have d6 := q6
        have HF : Hid (R = true) := by
         show _ = _
         rw [HR.out]
         simp only [sameS, d0, d1, d2, d3, d4, d5, d6, Bool.and_self]
        clear HR
        go_wp2
        go_ret
        exact ⟨by rw [HF.out]; rfl, HB3.out⟩
end Go.Proofs.YtbhhjnbomhkdmaaGreatDoor

/- Layer 13 (journal): == of nodes and of checks. -/
namespace Go.Proofs.YtbhhjnbomhkdmaaGreatDoor
open Go.RowKit
set_option linter.unusedVariables false
set_option linter.unusedSimpArgs false

theorem txt_dec (a b : ByteArray) : decide (a = b) = decide (a.toList = b.toList) := by
 rw [← beq_toList]
 by_cases h : a.toList = b.toList <;> simp [h]
set_option maxRecDepth 100000 in
theorem run_eql_node (a b : Nd) (w : World) : (binOp .eql 50 (.agg a.v) (.agg b.v)).run Tryz.prog w = .ok (.bool (sameN a b)) w := by
 obtain ⟨a1, a2, a3, a4⟩ := a
 obtain ⟨b1, b2, b3, b4⟩ := b
 have h : (Op.equalIn 10000 50 (.agg #[.string a1, .string a2, .int .u64 a3, .int .u64 a4]) (.agg #[.string b1, .string b2, .int .u64 b3, .int .u64 b4])).run Tryz.prog w = .ok (sameN ⟨a1, a2, a3, a4⟩ ⟨b1, b2, b3, b4⟩) w := by
  have u9 := Tryz.underlying9
  have a9 := Tryz.isAgg9
  have u42 := Tryz.underlying24
  have a42 := Tryz.isAgg24
  have hS : Tryz.prog.underlying 50 = some (.struct (Tryz.prog.fieldsOf 50)) := by kernel_rfl
  have hp : Tryz.prog.stoodInHeld 50 = false := by kernel_rfl
  rw [show (10000 : Nat) = 9999 + 1 from rfl, run_equalIn_agg w 9999 50 _ _ hS hp]
  simp only [Program.fieldsOf, Tryz.underlying50]
  go_simp
  simp only [sameN, txt_dec]
  by_cases h1 : a1.toList = b1.toList <;> by_cases h2 : a2.toList = b2.toList <;> by_cases h3 : a3 = b3 <;> by_cases h4 : a4 = b4 <;> simp [h1, h2, h3, h4]
 show (binOp .eql 50 (.agg #[.string a1, .string a2, .int .u64 a3, .int .u64 a4]) (.agg #[.string b1, .string b2, .int .u64 b3, .int .u64 b4])).run Tryz.prog w = _
 rw [run_eql_struct, h]; rfl
set_option maxRecDepth 100000 in
theorem run_eql_chk (a b : Ck) (w : World) : (binOp .eql 52 (.agg a.v) (.agg b.v)).run Tryz.prog w = .ok (.bool (sameC a b)) w := by
 obtain ⟨a1, a2, a3, a4, a5, a6, a7⟩ := a
 obtain ⟨b1, b2, b3, b4, b5, b6, b7⟩ := b
 have h : (Op.equalIn 10000 52 (.agg #[.string a1, .string a2, .string a3, .int .i64 a4, .string a5, .int .u64 a6, .int .u64 a7]) (.agg #[.string b1, .string b2, .string b3, .int .i64 b4, .string b5, .int .u64 b6, .int .u64 b7])).run Tryz.prog w = .ok (sameC ⟨a1, a2, a3, a4, a5, a6, a7⟩ ⟨b1, b2, b3, b4, b5, b6, b7⟩) w := by
  have u3 := Tryz.underlying3
  have a3' := Tryz.isAgg3
  have u9 := Tryz.underlying9
  have a9 := Tryz.isAgg9
  have u42 := Tryz.underlying24
  have a42 := Tryz.isAgg24
  have hS : Tryz.prog.underlying 52 = some (.struct (Tryz.prog.fieldsOf 52)) := by kernel_rfl
  have hp : Tryz.prog.stoodInHeld 52 = false := by kernel_rfl
  rw [show (10000 : Nat) = 9999 + 1 from rfl, run_equalIn_agg w 9999 52 _ _ hS hp]
  simp only [Program.fieldsOf, Tryz.underlying52]
  go_simp
  simp only [sameC, txt_dec]
  by_cases h1 : a1.toList = b1.toList <;> by_cases h2 : a2.toList = b2.toList <;> by_cases h3 : a3.toList = b3.toList <;> by_cases h4 : a4 = b4 <;> by_cases h5 : a5.toList = b5.toList <;> by_cases h6 : a6 = b6 <;> by_cases h7 : a7 = b7 <;> simp [h1, h2, h3, h4, h5, h6, h7]
 show (binOp .eql 52 (.agg #[.string a1, .string a2, .string a3, .int .i64 a4, .string a5, .int .u64 a6, .int .u64 a7]) (.agg #[.string b1, .string b2, .string b3, .int .i64 b4, .string b5, .int .u64 b6, .int .u64 b7])).run Tryz.prog w = _
 rw [run_eql_struct, h]; rfl
theorem guard_nd : Tryz.prog.eqGuardType Tryz.prog.depth 50 = false := by kernel_rfl
theorem guard_ck : Tryz.prog.eqGuardType Tryz.prog.depth 52 = false := by kernel_rfl
end Go.Proofs.YtbhhjnbomhkdmaaGreatDoor
