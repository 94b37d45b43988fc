import Derived.Test.YtieonnnlhhdfpaaGreatDoorRcOpL
import Derived.Test.YtieonnnlhhdfpaaGreatDoorJNum
import Derived.Deep.RegionHeldLaw
import Derived.Test.YtieonnnlhhdfpaaGreatDoorSGenB
import Derived.Deep.QuietTactic
import Derived.BigQuiet
/- Layer 13 (journal): a list of operations in memory. -/
namespace Go.Proofs.YtieonnnlhhdfpaaGreatDoor
open Go.RowKit
set_option linter.unusedVariables false

structure OV where
  o : Opp
  ta : Option Addr
  tc : Nat
def OV.v (x : OV) : Array Value := x.o.v (.slice x.ta x.o.svc.tags.length x.tc)
def ocs (l : List OV) : List Value := l.flatMap fun x => x.v.toList
def ops (l : List OV) : List Opp := l.map (·.o)
theorem ov_size (x : OV) : x.v.size = 21 := rfl
theorem ov_one (x : OV) : x.v.all (·.oneCell') = true := by simp [OV.v, Opp.v, Value.oneCell']
theorem ocs_length (l : List OV) : (ocs l).length = l.length * 21 := flat_length _ 21 (fun _ => rfl) l
structure OpsAt (w : World) (ao : Option Addr) (l : List OV) : Prop where
  cells : CellsAt w ao (ocs l)
  tags : ∀ x ∈ l, CellsAt w x.ta (x.o.svc.tags.map Value.string)
theorem OpsAt.below {w w' : World} {ao : Option Addr} {l : List OV} (h : OpsAt w ao l) (hb : Below w.heap.size w w') : OpsAt w' ao l := ⟨h.cells.below hb, fun x hx => (h.tags x hx).below hb⟩
theorem OpsAt.at {w : World} {ao : Option Addr} {l : List OV} (h : OpsAt w ao l) (k : Nat) (hk : k < l.length) : ∃ b off, ao = some ⟨b, off, none⟩ ∧ w.rangeAt b (off + k * 21) l[k].v.toList := by
  obtain ⟨b, off, ha, hc⟩ := h.cells (flat_ne _ 21 (fun _ => rfl) (by decide) hk)
  refine ⟨b, off, ha, fun j u hj => ?_⟩
  have hj21 : j < 21 := (List.getElem?_eq_some_iff.1 hj).1
  have := hc (k * 21 + j) u (by
    unfold ocs
    rw [flat_at (fun x : OV => x.v.toList) 21 (fun _ => rfl) l k j l[k] (by simp [hk]) hj21]
    exact hj)
  rw [show off + k * 21 + j = off + (k * 21 + j) by omega]
  exact this
theorem ops_at (l : List OV) (k : Nat) (hk : k < l.length) : (ops l)[k]? = some l[k].o := by simp [ops, hk]
theorem ops_take (l : List OV) (k : Nat) (hk : k < l.length) : ops (l.take (k + 1)) = ops (l.take k) ++ [l[k].o] := by
  rw [list_take_snoc l k hk]
  unfold ops
  rw [List.map_append]
  rfl
theorem opsB_snoc (l : List Opp) (o : Opp) : opsB (l ++ [o]) = opsB l ++ opB o := by simp [opsB]
theorem mid_op : (Tryz.prog.info? 58).map (·.size) = some 21 := info_op
theorem wp_load_ov {op : Oper} {a : Act} {w : World} {b o : Nat} {y : OV} {K : Act → World → Prop} {Q : Exit → Act → World → Prop} {x : Operand} (ho : op.op = .load 58 x) (hx : a.eval x = .pointer (some ⟨b, o, none⟩)) (hc : w.rangeAt b o y.v.toList) (h : K (a.put op.dst (.agg y.v)) w) : op.wp Tryz.prog a w K Q :=
  wp_load_mid 58 x ho b o hx y.v.toList _ hc Tryz.underlying58 rfl info_op h

theorem txtB_le (s : ByteArray) (h : s.size ≤ 200) : (txtB s).length ≤ 201 := by rw [txtB_length]; omega
theorem opB_le {o : Opp} (h : Snd o) : (opB o).length ≤ 1231 := by
  have hc : (casB o).length ≤ 9 := by
    unfold casB
    split
    · simp [big_length]
    · simp
  have hb : (bodyB o).length ≤ 1219 := by
    cases h with
    | node n a b x hx h1 h2 => simp [bodyB, txtsB, txtB_length]; omega
    | svc n i m p t b x hx h1 h2 h3 h4 h5 h6 h7 =>
      have h8 := txtsB_take_le t t.length 63 h7
      rw [List.take_length] at h8
      have h9 : t.length * 64 ≤ 16 * 64 := Nat.mul_le_mul_right _ h6
      have e : (bodyB ⟨2, nodeZ, ⟨n, i, m, p, t, 0, 0⟩, chkZ, b, x⟩).length = (txtsB [n, i, m]).length + 2 + 1 + (txtsB t).length := by
        show (svcB ⟨n, i, m, p, t, 0, 0⟩).length = _
        simp [svcB, big_length]
        omega
      rw [e]
      simp [txtsB, txtB_length] at h8 ⊢
      omega
    | chk n i m p t b x hx h1 h2 h3 h4 h5 h6 =>
      have e : (bodyB ⟨3, nodeZ, svcZ, ⟨n, i, m, p, t, 0, 0⟩, b, x⟩).length = (txtsB [n, i, m]).length + 1 + (txtsB [t]).length := by
        show (chkB ⟨n, i, m, p, t, 0, 0⟩).length = _
        simp [chkB]
        omega
      rw [e]
      simp [txtsB, txtB_length]
      omega
    | dnode n b x hx h1 => simp [bodyB, txtsB, txtB_length]; omega
    | dsvc n i b x hx h1 h2 => simp [bodyB, txtsB, txtB_length]; omega
    | dchk n i b x hx h1 h2 => simp [bodyB, txtsB, txtB_length]; omega
  simp only [opB, List.length_append, List.length_cons]
  omega
theorem opsB_le : ∀ (l : List Opp), (∀ o ∈ l, Snd o) → (opsB l).length ≤ l.length * 1231
  | [], _ => by simp [opsB]
  | o :: l, h => by
    have ih := opsB_le l fun x hx => h x (List.mem_cons_of_mem _ hx)
    have h1 := opB_le (h o (List.mem_cons_self ..))
    have e : opsB (o :: l) = opB o ++ opsB l := by simp [opsB]
    rw [e, List.length_append, List.length_cons, Nat.succ_mul]
    omega
theorem soundB_all {l : List Opp} (h : soundB l = true) : 1 ≤ l.length ∧ l.length ≤ 64 ∧ ∀ o ∈ l, Snd o := by
  simp only [soundB, Bool.and_eq_true, decide_eq_true_eq, List.all_eq_true] at h
  exact ⟨h.1.1, h.1.2, fun o ho => snd_shape (h.2 o ho)⟩
theorem payB_le {i : Int} {l : List Opp} (h : soundB l = true) : (payB i l).length ≤ 78793 := by
  obtain ⟨_, h2, h3⟩ := soundB_all h
  have := opsB_le l h3
  simp only [payB, List.length_append, big_length, List.length_cons, List.length_nil]
  have : l.length * 1231 ≤ 64 * 1231 := Nat.mul_le_mul_right _ h2
  omega
end Go.Proofs.YtieonnnlhhdfpaaGreatDoor

/- Layer 13 (journal): the document's Big. -/
namespace Go.Proofs.YtieonnnlhhdfpaaGreatDoor
open Go.RowKit
set_option linter.unusedVariables false

theorem made_u8 (n : Nat) : (madeCells (Value.int .u8 0).cells n).toList = bs (List.replicate n (0 : UInt8)) := by
  apply List.ext_getElem
  · simp [madeCells, bs]
  · intro i h1 h2
    simp [madeCells, bs, Value.cells, Nat.mod_one]
theorem set_rep (k : Nat) (c : UInt8) (suf : List UInt8) : (List.replicate (k + 1) 0 ++ suf).set k c = List.replicate k 0 ++ (c :: suf) := by
  rw [List.replicate_succ', List.append_assoc, List.set_append_right _ _ (by simp)]
  simp
set_option maxRecDepth 100000 in
set_option maxHeartbeats 1000000 in
theorem rbig_calls (X : Int) (n : Nat) (w : World) (h0 : 0 ≤ X) (h1 : X ≤ 18446744073709551615) (hn : n = 1 ∨ n = 2 ∨ n = 4 ∨ n = 8) :
    Calls Tryz.prog 28 #[.int .u64 X, .int .i64 (n : Int)] w fun e w' => ∃ c, e = .returned (.slice (some ⟨w.heap.size, 0, none⟩) n c) ∧ Own w' w.heap.size (.slice (some ⟨w.heap.size, 0, none⟩) n c) (big n X) ∧ Below w.heap.size w w' := by
  have hn8 : n ≤ 8 := by omega
  have hn1 : 1 ≤ n := by omega
  obtain ⟨i0, hi, hb⟩ := Option.map_eq_some_iff.1 info_u8
  simp only [Prod.mk.injEq] at hb
  obtain ⟨hz0, hz1, hz2⟩ := hb
  obtain ⟨M, HM⟩ : ∃ M, Hid (M = madeCells (Value.int .u8 0).cells n) := ⟨_, rfl⟩
  have hmake : (Instr.makeSlice 28 (.int .i64 (n : Int)) (.int .i64 (n : Int))).run Tryz.prog w = .ok (.slice (some ⟨w.heap.size, 0, none⟩) n n) (w.alloc (.cells M 5)) := by
    have h := run_make (P := Tryz.prog) w 28 5 i0 (.int .u8 0) Tryz.underlying28 hi hz0 .i64 .i64 (n : Int) (n : Int) (by omega) (by omega) (by rw [hz2]; omega) (by omega)
    rw [HM.out]
    simpa [hz1] using h
  have HO : Hid (Own (w.alloc (.cells M 5)) w.heap.size (.slice (some ⟨w.heap.size, 0, none⟩) n n) (List.replicate n 0)) := by
    have hMl : M.toList = bs (List.replicate n (0 : UInt8)) := by rw [HM.out]; exact made_u8 n
    have hMs : M.size = n := by rw [← Array.length_toList, hMl, bs_length, List.length_replicate]
    refine ⟨by rw [bs_length, Nat.mul_one], .inr ⟨w.heap.size, n, M, by rw [List.length_replicate], Nat.le_refl _, heap_alloc_new w _, by rw [List.length_replicate]; exact Nat.le_refl _, by unfold maxLen; omega, by rw [hMs, Nat.mul_one], ?_⟩⟩
    rw [List.take_of_length_le (by rw [Array.length_toList, hMs, List.length_replicate]; omega), hMl]
  clear HM hi hz0 hz1 hz2 hn
  obtain ⟨w1, Hw1⟩ : ∃ x, Hid (x = w.alloc (.cells M 5)) := ⟨_, rfl⟩
  have HB : Hid (Below w.heap.size w w1) := by rw [Hw1.out]; exact below_new w _
  rw [← Hw1.out] at hmake HO
  clear Hw1
  go_enter Tryz.func28, Tryz.ntmps28
  go_wp2
  clear hmake
  go_loopw [0, 6] (fun x i wr => ∃ (k : Nat) (q : Int) (suf : List UInt8), k ≤ n ∧ i = .int .i64 ((k : Int) - 1) ∧ x = .int .u64 q ∧ 0 ≤ q ∧ q ≤ 18446744073709551615 ∧ Hid (suf.length = n - k) ∧ Hid (big n X = big k q ++ suf) ∧ Hid (Own wr w.heap.size (.slice (some ⟨w.heap.size, 0, none⟩) n n) (List.replicate k 0 ++ suf)) ∧ Hid (Below w.heap.size w wr)) (fun _ i _ => (intOf i + 1).toNat)
  case atStart => exact ⟨n, X, [], Nat.le_refl _, rfl, rfl, h0, h1, by simp [Hid], by simp [Hid], by rw [List.append_nil]; exact HO, HB⟩
  case round =>
    obtain ⟨k, q, suf, hk, rfl, rfl, hq0, hq1, HSL, HE, HO2, HB2⟩ := hrel
    by_cases hlt : 0 < k
    · obtain ⟨j, rfl⟩ : ∃ j, k = j + 1 := ⟨k - 1, by omega⟩
      have ej : (((j + 1 : Nat) : Int) - 1) = (j : Int) := by omega
      rw [ej]
      have hjn : j < n := by omega
      have HL : Hid ((List.replicate (j + 1) 0 ++ suf).length = n) := by
        show _ = _
        rw [List.length_append, List.length_replicate, HSL.out]
        omega
      obtain ⟨c0, f0⟩ := HO2.out.at HL.out j hjn
      have hw : IntKind.u8.wrap (q % 256) = ((byteOf q).toNat : Int) := by
        rw [byteOf_val]
        show (q % 256) % 256 = _
        omega
      have HO3 : Hid (Own (wr.setCell ⟨w.heap.size, j, none⟩ (.int .u8 ((byteOf q).toNat : Int))) w.heap.size (.slice (some ⟨w.heap.size, 0, none⟩) n n) (List.replicate j 0 ++ (byteOf q :: suf))) := by
        have := HO2.out.stored HL.out j (byteOf q)
        rw [set_rep] at this
        exact this
      have HB3 : Hid (Below w.heap.size w (wr.setCell ⟨w.heap.size, j, none⟩ (.int .u8 ((byteOf q).toNat : Int)))) := HB2.out.setCell (p := ⟨w.heap.size, j, none⟩) (Nat.le_refl _) _
      have HE3 : Hid (big n X = big j (q / 256) ++ (byteOf q :: suf)) := by
        show _ = _
        rw [HE.out]
        simp [big]
      go_wp2
      go_roundw
      case rel => exact ⟨j, q / 256, byteOf q :: suf, by omega, by go_num, by go_num, by omega, by omega, by show _ = _; rw [List.length_cons, HSL.out]; omega, HE3, HO3, HB3⟩
      case measure => simp [intOf]
    · obtain rfl : k = 0 := by omega
      have HF : Hid (Own wr w.heap.size (.slice (some ⟨w.heap.size, 0, none⟩) n n) (big n X)) := by
        have := HO2.out
        rw [HE.out]
        exact this
      go_wp2
      go_ret
      exact ⟨n, rfl, HF.out, HB2.out⟩
end Go.Proofs.YtieonnnlhhdfpaaGreatDoor

/- Layer 13 (journal): append of bytes as one step of a region that draws its order. -/
namespace Go.Proofs.YtieonnnlhhdfpaaGreatDoor
open Go.RowKit
set_option linter.unusedVariables false

theorem step_append_u8 {ops : Array Oper} {o : Oper} {a : Act} {K : Act → World → Prop} {Q : Exit → Act → World → Prop} {E : Prop} (W : World) (hgd : o.guard = none) (s x : Operand)
    (ho : o.op = .call { callee := .builtin .append, args := #[s, x], argTypes := #[28, 28] })
    (B : Nat) (v : Value) (l : List UInt8) (hs : a.eval s = v) (hown : Own W B v l) (ad : Addr) (m c : Nat) (news : List UInt8) (hx : a.eval x = .slice (some ad) m c) (hm : news.length = m) (hnews : ∀ j u, (bs news)[j]? = some u → W.cell? (ad.add j) = some u)
    (hlen : l.length + m ≤ 140737488355328) (hB : B ≤ W.heap.size)
    (h : ∀ v' w', Own w' B v' (l ++ news) → Grew W w' v v' → K (a.put o.dst v') w') :
    if Region.wanted o (yielded ops a.tmps) = true then Oper.wp Tryz.prog o a W K Q else E := by
  have hw : Region.wanted o (yielded ops a.tmps) = true := by simp [Region.wanted, hgd]
  rw [if_pos hw]
  obtain ⟨i0, hi, hz0, hz1, hz2⟩ := info_parts info_u8
  subst hm
  obtain ⟨v', w', hr, h2, h3, _⟩ := run_append_grew (P := Tryz.prog) W B 28 o.type 5 i0 (.int .u8 0) 1 1 Tryz.underlying28 hi hz0 hz1 hz2 rfl (by decide) v l.length (bs l) hown ad news.length c (bs news) (by simp [bs]) hnews (bs_one _) (by unfold maxLen; omega) (by omega) hB
  unfold Oper.wp execOp
  simp only [ho, resolve, invoke, builtin, Sem.run_bind, Sem.run_pure, Result.andThen_ok, List.map_toArray, List.map_cons, List.map_nil, hs, hx, hr]
  refine h v' w' ?_ h3
  unfold Own
  rw [bs_append, List.length_append]
  exact h2
end Go.Proofs.YtieonnnlhhdfpaaGreatDoor

/- append of a slice that lies anywhere. -/
namespace Go.Proofs.YtieonnnlhhdfpaaGreatDoor
open Go.RowKit
set_option linter.unusedVariables false

theorem run_append_none (t ty e : TypeId) (i : TypeInfo) (ht : Tryz.prog.underlying t = some (.slice e)) (hi : Tryz.prog.info? e = some i) (w : World) (base : Option Addr) (n cap c : Nat) (h : n ≤ cap) :
    (Builtin.append_ #[t, t] ty #[.slice base n cap, .slice none 0 c]).run Tryz.prog w = .ok (.slice base n cap) w := by
  cases base <;> simp [Builtin.append_, run_underlying ht, sizeOf, typeInfo, hi, Builtin.lenOf, h, Builtin.firstCells, storeCells]
/-- append(s, x...), x anywhere, or none. -/
theorem append_src (W : World) {ops : Array Oper} {rest : List Oper} {o : Oper} {a : Act} {Q : Exit → Act → World → Prop} (hgd : o.guard = none) (s x : Operand) (t e : TypeId) (z : Value) (size bytes : Nat)
    (ht : Tryz.prog.underlying t = some (.slice e)) (hi : (Tryz.prog.info? e).map (fun i => (i.zero, i.size, i.bytes)) = some (some z, size, bytes)) (hzs : z.cells.size = size) (hsz : 0 < size)
    (ho : o.op = .call { callee := .builtin .append, args := #[s, x], argTypes := #[t, t] })
    (B : Nat) (v : Value) (n : Nat) (l : List Value) (hs : a.eval s = v) (hown : W.ownsRow B e size v n l) (ao : Option Addr) (m c : Nat) (news : List Value) (hx : a.eval x = .slice ao m c) (hl : news.length = m * size) (hc : CellsAt W ao news) (h1 : ∀ u ∈ news, u.oneCell' = true)
    (h63 : n + m ≤ maxLen) (hlen : (n + m) * bytes ≤ 140737488355328) (hB : B ≤ W.heap.size)
    (h : ∀ v' w', w'.ownsRow B e size v' (n + m) (l ++ news) → Grew W w' v v' → wpList Tryz.prog ops Q rest (a.put o.dst v') w') : wpList Tryz.prog ops Q (o :: rest) a W := by
  obtain ⟨i0, hi0, hb⟩ := Option.map_eq_some_iff.1 hi
  simp only [Prod.mk.injEq] at hb
  obtain ⟨hz0, hz1, hz2⟩ := hb
  cases ao with
  | none =>
    have h0 : news = [] := by
      cases news with
      | nil => rfl
      | cons u us =>
        obtain ⟨b, off, e, _⟩ := hc (by simp)
        cases e
    subst h0
    have hm : m = 0 := by
      rcases Nat.eq_zero_or_pos m with h | h
      · exact h
      · have := Nat.mul_pos h hsz
        rw [← hl] at this
        exact absurd this (by simp)
    subst hm
    obtain ⟨vo, vc, rfl, _⟩ := row_forms hown
    have hnc : n ≤ vc := by
      rcases hown.2 with ⟨e, h0⟩ | ⟨g, cap, cur, e, _, _, hnc, _⟩
      · omega
      · simp only [Value.slice.injEq] at e
        obtain ⟨_, _, rfl⟩ := e
        exact hnc
    refine wpList_plain hgd fun K hK => ?_
    have hr := run_append_none t o.type e i0 ht hi0 W vo n vc c hnc
    unfold Oper.wp execOp
    simp only [ho, resolve, invoke, builtin, Sem.run_bind, Sem.run_pure, Result.andThen_ok, List.map_toArray, List.map_cons, List.map_nil, hs, hx, hr]
    exact hK _ _ (h _ W (by simpa using hown) (Grew.refl _ _))
  | some ad =>
    refine wpList_append_grew W hgd s x t ho B e i0 z size bytes ht hi0 hz0 hz1 hz2 hzs hsz v n l hs hown ad m c news hx hl ?_ h1 h63 hlen hB (fun v' w' h1 h2 _ => h v' w' h1 h2)
    intro j u hj
    obtain ⟨b, off, e, hcc⟩ := hc (by intro e; rw [e] at hj; simp at hj)
    obtain rfl := Option.some.inj e
    rw [Addr.add_lit]
    exact hcc j u hj
end Go.Proofs.YtieonnnlhhdfpaaGreatDoor

/- The document's SameTexts, of like lists. -/
namespace Go.Proofs.YtieonnnlhhdfpaaGreatDoor
open Go.RowKit
set_option linter.unusedVariables false

set_option maxRecDepth 100000 in
set_option maxHeartbeats 1000000 in
theorem sameTexts_calls (ao bo : Option Addr) (c d : Nat) (xs : List ByteArray) (w : World) (hl : xs.length ≤ 8796093022208) (ha : CellsAt w ao (xs.map Value.string)) (hb : CellsAt w bo (xs.map Value.string)) :
    Calls Tryz.prog 64 #[.slice ao xs.length c, .slice bo xs.length d] w fun e w' => e = .returned (.bool true) ∧ Below w.heap.size w w' := by
  have HA : Hid (CellsAt w ao (xs.map Value.string)) := ha
  have HC : Hid (CellsAt w bo (xs.map Value.string)) := hb
  clear ha hb
  obtain ⟨n, hn⟩ : ∃ n, n = xs.length := ⟨_, rfl⟩
  have HN : Hid (n = xs.length) := hn
  rw [← hn] at hl ⊢
  clear hn
  have q1 : ((n : Int) == (n : Int)) = true := beq_self_eq_true _
  go_enter Tryz.func64, Tryz.ntmps64
  go_wp2
  go_loopw [5] (fun i wr => ∃ k : Nat, k ≤ n ∧ i = .int .i64 k ∧ Hid (Below w.heap.size w wr)) (fun i _ => n - (intOf i).toNat)
  case atStart => exact ⟨0, Nat.zero_le _, rfl, Below.refl _ _⟩
  case round =>
    obtain ⟨k, hk, rfl, HB⟩ := hrel
    by_cases hlt : k < n
    · have hlt' : k < xs.length := by rw [← HN.out]; exact hlt
      obtain ⟨ab, af, rfl, c0⟩ := (HA.out.below HB.out).str k hlt'
      obtain ⟨bb, bf, rfl, c1⟩ := (HC.out.below HB.out).str k hlt'
      have hi1 : (k : Int) < (n : Int) := by omega
      have hi0 : (0 : Int) ≤ (k : Int) := by omega
      have hi2 : (0 : Int) ≤ (k : Int) ∧ (k : Int) < (n : Int) := ⟨hi0, hi1⟩
      generalize xs[k] = x at *
      have q2 : (x.toList == x.toList) = true := beq_self_eq_true _
      go_wp2
      go_quiet (fail)
      go_wp2
      go_roundw
      case rel => exact ⟨k + 1, by omega, by go_num, by first | exact HB | exact below_drewN HB.out _⟩
      case measure => simp [intOf]; omega
    · go_wp2
      go_ret
      exact ⟨rfl, HB.out⟩
end Go.Proofs.YtieonnnlhhdfpaaGreatDoor
