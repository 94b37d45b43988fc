/- Layer 13 (journal): a list of operations in memory. -/
import Derived.Test.YtmkohdepgfahnaaGreatDoorJPay
import Derived.Test.YtmkohdepgfahnaaGreatDoorRcOpL
namespace Go.Proofs.YtmkohdepgfahnaaGreatDoor
open Go.RowKit
set_option linter.unusedVariables false

structure OV where
  o : Opp
  ta : Option Addr
  tc : Nat
def OV.v (x : OV) : Array Value := x.o.v (.slice x.ta x.o.svc.tags.length x.tc)
def ocs (l : List OV) : List Value := l.flatMap fun x => x.v.toList
def ops (l : List OV) : List Opp := l.map (·.o)
theorem ov_size (x : OV) : x.v.size = 21 := rfl
theorem ov_one (x : OV) : x.v.all (·.oneCell') = true := by simp [OV.v, Opp.v, Value.oneCell']
theorem ocs_length (l : List OV) : (ocs l).length = l.length * 21 := flat_length _ 21 (fun _ => rfl) l
structure OpsAt (w : World) (ao : Option Addr) (l : List OV) : Prop where
  cells : CellsAt w ao (ocs l)
  tags : ∀ x ∈ l, CellsAt w x.ta (x.o.svc.tags.map Value.string)
theorem OpsAt.below {w w' : World} {ao : Option Addr} {l : List OV} (h : OpsAt w ao l) (hb : Below w.heap.size w w') : OpsAt w' ao l := ⟨h.cells.below hb, fun x hx => (h.tags x hx).below hb⟩
theorem OpsAt.at {w : World} {ao : Option Addr} {l : List OV} (h : OpsAt w ao l) (k : Nat) (hk : k < l.length) : ∃ b off, ao = some ⟨b, off, none⟩ ∧ w.rangeAt b (off + k * 21) l[k].v.toList := by
  obtain ⟨b, off, ha, hc⟩ := h.cells (flat_ne _ 21 (fun _ => rfl) (by decide) hk)
  refine ⟨b, off, ha, fun j u hj => ?_⟩
  have hj21 : j < 21 := (List.getElem?_eq_some_iff.1 hj).1
  have := hc (k * 21 + j) u (by
    unfold ocs
    rw [flat_at (fun x : OV => x.v.toList) 21 (fun _ => rfl) l k j l[k] (by simp [hk]) hj21]
    exact hj)
  rw [show off + k * 21 + j = off + (k * 21 + j) by omega]
  exact this
theorem ops_at (l : List OV) (k : Nat) (hk : k < l.length) : (ops l)[k]? = some l[k].o := by simp [ops, hk]
theorem ops_take (l : List OV) (k : Nat) (hk : k < l.length) : ops (l.take (k + 1)) = ops (l.take k) ++ [l[k].o] := by
  rw [list_take_snoc l k hk]
  unfold ops
  rw [List.map_append]
  rfl
theorem opsB_snoc (l : List Opp) (o : Opp) : opsB (l ++ [o]) = opsB l ++ opB o := by simp [opsB]
theorem mid_op : (Tryz.prog.info? 55).map (·.size) = some 21 := info_op
theorem wp_load_ov {op : Oper} {a : Act} {w : World} {b o : Nat} {y : OV} {K : Act → World → Prop} {Q : Exit → Act → World → Prop} {x : Operand} (ho : op.op = .load 55 x) (hx : a.eval x = .pointer (some ⟨b, o, none⟩)) (hc : w.rangeAt b o y.v.toList) (h : K (a.put op.dst (.agg y.v)) w) : op.wp Tryz.prog a w K Q :=
  wp_load_mid 55 x ho b o hx y.v.toList _ hc Tryz.underlying55 rfl info_op h

theorem txtB_le (s : ByteArray) (h : s.size ≤ 200) : (txtB s).length ≤ 201 := by rw [txtB_length]; omega
theorem opB_le {o : Opp} (h : Snd o) : (opB o).length ≤ 1231 := by
  have hc : (casB o).length ≤ 9 := by
    unfold casB
    split
    · simp [big_length]
    · simp
  have hb : (bodyB o).length ≤ 1219 := by
    cases h with
    | node n a b x hx h1 h2 => simp [bodyB, txtsB, txtB_length]; omega
    | svc n i m p t b x hx h1 h2 h3 h4 h5 h6 h7 =>
      have h8 := txtsB_take_le t t.length 63 h7
      rw [List.take_length] at h8
      have h9 : t.length * 64 ≤ 16 * 64 := Nat.mul_le_mul_right _ h6
      have e : (bodyB ⟨2, nodeZ, ⟨n, i, m, p, t, 0, 0⟩, chkZ, b, x⟩).length = (txtsB [n, i, m]).length + 2 + 1 + (txtsB t).length := by
        show (svcB ⟨n, i, m, p, t, 0, 0⟩).length = _
        simp [svcB, big_length]
        omega
      rw [e]
      simp [txtsB, txtB_length] at h8 ⊢
      omega
    | chk n i m p t b x hx h1 h2 h3 h4 h5 h6 =>
      have e : (bodyB ⟨3, nodeZ, svcZ, ⟨n, i, m, p, t, 0, 0⟩, b, x⟩).length = (txtsB [n, i, m]).length + 1 + (txtsB [t]).length := by
        show (chkB ⟨n, i, m, p, t, 0, 0⟩).length = _
        simp [chkB]
        omega
      rw [e]
      simp [txtsB, txtB_length]
      omega
    | dnode n b x hx h1 => simp [bodyB, txtsB, txtB_length]; omega
    | dsvc n i b x hx h1 h2 => simp [bodyB, txtsB, txtB_length]; omega
    | dchk n i b x hx h1 h2 => simp [bodyB, txtsB, txtB_length]; omega
  simp only [opB, List.length_append, List.length_cons]
  omega
theorem opsB_le : ∀ (l : List Opp), (∀ o ∈ l, Snd o) → (opsB l).length ≤ l.length * 1231
  | [], _ => by simp [opsB]
  | o :: l, h => by
    have ih := opsB_le l fun x hx => h x (List.mem_cons_of_mem _ hx)
    have h1 := opB_le (h o (List.mem_cons_self ..))
    have e : opsB (o :: l) = opB o ++ opsB l := by simp [opsB]
    rw [e, List.length_append, List.length_cons, Nat.succ_mul]
    omega
theorem soundB_all {l : List Opp} (h : soundB l = true) : 1 ≤ l.length ∧ l.length ≤ 64 ∧ ∀ o ∈ l, Snd o := by
  simp only [soundB, Bool.and_eq_true, decide_eq_true_eq, List.all_eq_true] at h
  exact ⟨h.1.1, h.1.2, fun o ho => snd_shape (h.2 o ho)⟩
theorem payB_le {i : Int} {l : List Opp} (h : soundB l = true) : (payB i l).length ≤ 78793 := by
  obtain ⟨_, h2, h3⟩ := soundB_all h
  have := opsB_le l h3
  simp only [payB, List.length_append, big_length, List.length_cons, List.length_nil]
  have : l.length * 1231 ≤ 64 * 1231 := Nat.mul_le_mul_right _ h2
  omega
end Go.Proofs.YtmkohdepgfahnaaGreatDoor
