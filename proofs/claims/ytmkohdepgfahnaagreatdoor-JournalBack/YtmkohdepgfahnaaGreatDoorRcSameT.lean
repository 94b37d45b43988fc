import Derived.Test.YtmkohdepgfahnaaGreatDoorRwLowR
import Derived.Deep.RegionHeldLaw
import Derived.Test.YtmkohdepgfahnaaGreatDoorRcOpD
import Derived.Deep.WholeRow
import Derived.Laws.CopyOwn
import Derived.Deep.MidRow
import Derived.Test.YtmkohdepgfahnaaGreatDoorSGenB
import Derived.Deep.QuietTactic
import Derived.BigQuiet
/- Layer 13 (journal): append of bytes as one step of a region that draws its order. -/
namespace Go.Proofs.YtmkohdepgfahnaaGreatDoor
open Go.RowKit
set_option linter.unusedVariables false

theorem step_append_u8 {ops : Array Oper} {o : Oper} {a : Act} {K : Act → World → Prop} {Q : Exit → Act → World → Prop} {E : Prop} (W : World) (hgd : o.guard = none) (s x : Operand)
    (ho : o.op = .call { callee := .builtin .append, args := #[s, x], argTypes := #[23, 23] })
    (B : Nat) (v : Value) (l : List UInt8) (hs : a.eval s = v) (hown : Own W B v l) (ad : Addr) (m c : Nat) (news : List UInt8) (hx : a.eval x = .slice (some ad) m c) (hm : news.length = m) (hnews : ∀ j u, (bs news)[j]? = some u → W.cell? (ad.add j) = some u)
    (hlen : l.length + m ≤ 140737488355328) (hB : B ≤ W.heap.size)
    (h : ∀ v' w', Own w' B v' (l ++ news) → Grew W w' v v' → K (a.put o.dst v') w') :
    if Region.wanted o (yielded ops a.tmps) = true then Oper.wp Tryz.prog o a W K Q else E := by
  have hw : Region.wanted o (yielded ops a.tmps) = true := by simp [Region.wanted, hgd]
  rw [if_pos hw]
  obtain ⟨i0, hi, hz0, hz1, hz2⟩ := info_parts info_u8
  subst hm
  obtain ⟨v', w', hr, h2, h3, _⟩ := run_append_grew (P := Tryz.prog) W B 23 o.type 5 i0 (.int .u8 0) 1 1 Tryz.underlying23 hi hz0 hz1 hz2 rfl (by decide) v l.length (bs l) hown ad news.length c (bs news) (by simp [bs]) hnews (bs_one _) (by unfold maxLen; omega) (by omega) hB
  unfold Oper.wp execOp
  simp only [ho, resolve, invoke, builtin, Sem.run_bind, Sem.run_pure, Result.andThen_ok, List.map_toArray, List.map_cons, List.map_nil, hs, hx, hr]
  refine h v' w' ?_ h3
  unfold Own
  rw [bs_append, List.length_append]
  exact h2
end Go.Proofs.YtmkohdepgfahnaaGreatDoor

/- Layer 9 (records): an operation's 21 cells stored and read as one. -/
namespace Go.Proofs.YtmkohdepgfahnaaGreatDoor
open Go.RowKit

theorem wp_store_op {op : Oper} {a : Act} {w : World} {g : Nat} {K : Act → World → Prop} {Q : Exit → Act → World → Prop} {x y : Operand} {c c' : Array Value} (ho : op.op = .store 55 x y) (hg : g = w.heap.size) (hx : a.eval x = .pointer (some ⟨g, 0, none⟩)) (hy : a.eval y = .agg c') (hs : c.size = 21) (hs' : c'.size = 21) (h1 : c'.all (·.oneCell') = true)
    (h : K (a.put op.dst undef) (w.alloc (.cells c' 55))) : op.wp Tryz.prog a (w.alloc (.cells c 55)) K Q := by
  subst hg
  exact wp_store_row 55 x y ho w.heap.size c' hx hy 55 c (heap_alloc_last w _) (by rw [info_op, hs']) (by rw [hs, hs']) h1 (by rw [World.setRow_alloc_new]; exact h)
theorem wp_put_op {op : Oper} {a : Act} {w : World} {g : Nat} {K : Act → World → Prop} {Q : Exit → Act → World → Prop} {x y : Operand} {c c' : Array Value} (ho : op.op = .store 55 x y) (hb : Blk w g c 55) (hx : a.eval x = .pointer (some ⟨g, 0, none⟩)) (hy : a.eval y = .agg c') (hs : c.size = 21) (hs' : c'.size = 21) (h1 : c'.all (·.oneCell') = true)
    (h : K (a.put op.dst undef) (w.setRow g c')) : op.wp Tryz.prog a w K Q :=
  wp_store_row 55 x y ho g c' hx hy 55 c hb (by rw [info_op, hs']) (by rw [hs, hs']) h1 h
theorem wp_get_op {op : Oper} {a : Act} {w : World} {g : Nat} {K : Act → World → Prop} {Q : Exit → Act → World → Prop} {x : Operand} {c : Array Value} (ho : op.op = .load 55 x) (hb : Blk w g c 55) (hx : a.eval x = .pointer (some ⟨g, 0, none⟩)) (hs : c.size = 21)
    (h : K (a.put op.dst (.agg c)) w) : op.wp Tryz.prog a w K Q :=
  wp_load_row 55 x ho g hx 55 c (0, 0) _ hb Tryz.underlying55 rfl (by rw [info_op, hs]) h
theorem Blk.put {w : World} {g : Nat} {c : Array Value} {T : TypeId} (h : Blk w g c T) (i : Nat) (v : Value) : Blk (w.setCell ⟨g, i, none⟩ v) g (c.setIfInBounds i v) T := Lib.heap_setCell_same h v
theorem putC_mid {g : Nat} {T : TypeId} : ∀ (l : List Value) (w : World) (i : Nat) (cs : Array Value), Blk w g cs T → i + l.length ≤ cs.size → Blk (putC w g i l) g (cs.toList.take i ++ l ++ cs.toList.drop (i + l.length)).toArray T
  | [], w, i, cs, h, _ => by
    have e : (cs.toList.take i ++ [] ++ cs.toList.drop (i + ([] : List Value).length)).toArray = cs := by
      rw [List.append_nil, List.length_nil, Nat.add_zero, List.take_append_drop]
    rw [e]
    exact h
  | v :: l, w, i, cs, h, hl => by
    simp only [List.length_cons] at hl
    have h1 : Blk (w.setCell ⟨g, i, none⟩ v) g (cs.setIfInBounds i v) T := Lib.heap_setCell_same h v
    have h2 := putC_mid l (w.setCell ⟨g, i, none⟩ v) (i + 1) (cs.setIfInBounds i v) h1 (by rw [Array.size_setIfInBounds]; omega)
    have e : (cs.setIfInBounds i v).toList.take (i + 1) ++ l ++ (cs.setIfInBounds i v).toList.drop (i + 1 + l.length) = cs.toList.take i ++ v :: l ++ cs.toList.drop (i + (v :: l).length) := by
      rw [Array.toList_setIfInBounds, List.take_succ_eq_append_getElem (by rw [List.length_set, Array.length_toList]; omega), List.take_set_of_le (Nat.le_refl _), List.drop_set_of_lt (by omega), List.length_cons, show i + 1 + l.length = i + (l.length + 1) by omega]
      simp
    rw [e] at h2
    exact h2
theorem blk_setRow {w : World} {g : Nat} {c : Array Value} {T : TypeId} (h : Blk w g c T) (c' : Array Value) : Blk (w.setRow g c') g c' T := setRow_heap w g c c' T (0, 0) h
theorem setCells_putC (g : Nat) : ∀ (l : List Value) (o : Nat) (w : World), w.setCells g o l = putC w g o l
  | [], _, _ => rfl
  | _ :: l, o, _ => setCells_putC g l (o + 1) _
theorem wp_get_part {op : Oper} {a : Act} {w : World} {g o n : Nat} {K : Act → World → Prop} {Q : Exit → Act → World → Prop} {x : Operand} {T U : TypeId} {C : Array Value} {l : List Value} {d : TypeDesc} (ho : op.op = .load T x) (hb : Blk w g C U) (hx : a.eval x = .pointer (some ⟨g, o, none⟩)) (hl : (C.toList.drop o).take n = l)
    (hu : Tryz.prog.underlying T = some d) (hd : d.isRow = true) (hi : (Tryz.prog.info? T).map (·.size) = some l.length) (h : K (a.put op.dst (.agg l.toArray)) w) : op.wp Tryz.prog a w K Q :=
  wp_load_mid T x ho g o hx l d (fun j v hv => hb.cell (o + j) (by
    rw [← hl, List.getElem?_take] at hv
    split at hv
    · rw [List.getElem?_drop, Array.getElem?_toList] at hv
      exact hv
    · cases hv)) hu hd hi h
theorem wp_put_part {op : Oper} {a : Act} {w : World} {g o : Nat} {K : Act → World → Prop} {Q : Exit → Act → World → Prop} {x y : Operand} {T U : TypeId} {C : Array Value} {l : List Value} (ho : op.op = .store T x y) (hb : Blk w g C U) (hx : a.eval x = .pointer (some ⟨g, o, none⟩)) (hy : a.eval y = .agg l.toArray)
    (hl : o + l.length ≤ C.size) (hi : (Tryz.prog.info? T).map (·.size) = some l.length) (h1 : l.toArray.all (·.oneCell') = true) (h : K (a.put op.dst undef) (putC w g o l)) : op.wp Tryz.prog a w K Q := by
  refine wp_store_mid T x y ho g o l.toArray hx hy ?_ hi h1 ?_
  · intro j hj
    have hj' : o + j < C.size := by
      have : j < l.length := hj
      omega
    exact ⟨by rw [hb.cell (o + j) (Array.getElem?_eq_getElem hj')]; rfl, hb.open _⟩
  · rw [setCells_putC]
    exact h
theorem size_node : (Tryz.prog.info? 48).map (·.size) = some 4 := by kernel_rfl
theorem size_svc : (Tryz.prog.info? 51).map (·.size) = some 7 := by kernel_rfl
theorem size_chk : (Tryz.prog.info? 53).map (·.size) = some 7 := by kernel_rfl
theorem row_setRow {w : World} {B g : Nat} {e T : TypeId} {size : Nat} {v : Value} {n : Nat} {xs : List Value} {cs : Array Value} (hg : Blk w g cs T) (hT : T ≠ e) (h : w.ownsRow B e size v n xs) (c' : Array Value) : (w.setRow g c').ownsRow B e size v n xs := by
  refine ⟨h.1, ?_⟩
  rcases h.2 with h1 | ⟨g', cap, cur, h1, h2, h3, h4⟩
  · exact .inl h1
  · refine .inr ⟨g', cap, cur, h1, h2, ?_, h4⟩
    rw [setRow_other _ _ _ _ (fun e' => ?_)]
    · exact h3
    · subst e'
      have hg' : w.heap[g']? = some (.cells cs T) := hg
      rw [h3] at hg'
      injection hg' with hg'
      injection hg' with _ hg'
      exact hT hg'.symm
end Go.Proofs.YtmkohdepgfahnaaGreatDoor

/- append of a slice that lies anywhere. -/
namespace Go.Proofs.YtmkohdepgfahnaaGreatDoor
open Go.RowKit
set_option linter.unusedVariables false

theorem run_append_none (t ty e : TypeId) (i : TypeInfo) (ht : Tryz.prog.underlying t = some (.slice e)) (hi : Tryz.prog.info? e = some i) (w : World) (base : Option Addr) (n cap c : Nat) (h : n ≤ cap) :
    (Builtin.append_ #[t, t] ty #[.slice base n cap, .slice none 0 c]).run Tryz.prog w = .ok (.slice base n cap) w := by
  cases base <;> simp [Builtin.append_, run_underlying ht, sizeOf, typeInfo, hi, Builtin.lenOf, h, Builtin.firstCells, storeCells]
/-- append(s, x...), x anywhere, or none. -/
theorem append_src (W : World) {ops : Array Oper} {rest : List Oper} {o : Oper} {a : Act} {Q : Exit → Act → World → Prop} (hgd : o.guard = none) (s x : Operand) (t e : TypeId) (z : Value) (size bytes : Nat)
    (ht : Tryz.prog.underlying t = some (.slice e)) (hi : (Tryz.prog.info? e).map (fun i => (i.zero, i.size, i.bytes)) = some (some z, size, bytes)) (hzs : z.cells.size = size) (hsz : 0 < size)
    (ho : o.op = .call { callee := .builtin .append, args := #[s, x], argTypes := #[t, t] })
    (B : Nat) (v : Value) (n : Nat) (l : List Value) (hs : a.eval s = v) (hown : W.ownsRow B e size v n l) (ao : Option Addr) (m c : Nat) (news : List Value) (hx : a.eval x = .slice ao m c) (hl : news.length = m * size) (hc : CellsAt W ao news) (h1 : ∀ u ∈ news, u.oneCell' = true)
    (h63 : n + m ≤ maxLen) (hlen : (n + m) * bytes ≤ 140737488355328) (hB : B ≤ W.heap.size)
    (h : ∀ v' w', w'.ownsRow B e size v' (n + m) (l ++ news) → Grew W w' v v' → wpList Tryz.prog ops Q rest (a.put o.dst v') w') : wpList Tryz.prog ops Q (o :: rest) a W := by
  obtain ⟨i0, hi0, hb⟩ := Option.map_eq_some_iff.1 hi
  simp only [Prod.mk.injEq] at hb
  obtain ⟨hz0, hz1, hz2⟩ := hb
  cases ao with
  | none =>
    have h0 : news = [] := by
      cases news with
      | nil => rfl
      | cons u us =>
        obtain ⟨b, off, e, _⟩ := hc (by simp)
        cases e
    subst h0
    have hm : m = 0 := by
      rcases Nat.eq_zero_or_pos m with h | h
      · exact h
      · have := Nat.mul_pos h hsz
        rw [← hl] at this
        exact absurd this (by simp)
    subst hm
    obtain ⟨vo, vc, rfl, _⟩ := row_forms hown
    have hnc : n ≤ vc := by
      rcases hown.2 with ⟨e, h0⟩ | ⟨g, cap, cur, e, _, _, hnc, _⟩
      · omega
      · simp only [Value.slice.injEq] at e
        obtain ⟨_, _, rfl⟩ := e
        exact hnc
    refine wpList_plain hgd fun K hK => ?_
    have hr := run_append_none t o.type e i0 ht hi0 W vo n vc c hnc
    unfold Oper.wp execOp
    simp only [ho, resolve, invoke, builtin, Sem.run_bind, Sem.run_pure, Result.andThen_ok, List.map_toArray, List.map_cons, List.map_nil, hs, hx, hr]
    exact hK _ _ (h _ W (by simpa using hown) (Grew.refl _ _))
  | some ad =>
    refine wpList_append_grew W hgd s x t ho B e i0 z size bytes ht hi0 hz0 hz1 hz2 hzs hsz v n l hs hown ad m c news hx hl ?_ h1 h63 hlen hB (fun v' w' h1 h2 _ => h v' w' h1 h2)
    intro j u hj
    obtain ⟨b, off, e, hcc⟩ := hc (by intro e; rw [e] at hj; simp at hj)
    obtain rfl := Option.some.inj e
    rw [Addr.add_lit]
    exact hcc j u hj
end Go.Proofs.YtmkohdepgfahnaaGreatDoor

/- The document's SameTexts, of like lists. -/
namespace Go.Proofs.YtmkohdepgfahnaaGreatDoor
open Go.RowKit
set_option linter.unusedVariables false

set_option maxRecDepth 100000 in
set_option maxHeartbeats 1000000 in
theorem sameTexts_calls (ao bo : Option Addr) (c d : Nat) (xs : List ByteArray) (w : World) (hl : xs.length ≤ 8796093022208) (ha : CellsAt w ao (xs.map Value.string)) (hb : CellsAt w bo (xs.map Value.string)) :
    Calls Tryz.prog 58 #[.slice ao xs.length c, .slice bo xs.length d] w fun e w' => e = .returned (.bool true) ∧ Below w.heap.size w w' := by
  have HA : Hid (CellsAt w ao (xs.map Value.string)) := ha
  have HC : Hid (CellsAt w bo (xs.map Value.string)) := hb
  clear ha hb
  obtain ⟨n, hn⟩ : ∃ n, n = xs.length := ⟨_, rfl⟩
  have HN : Hid (n = xs.length) := hn
  rw [← hn] at hl ⊢
  clear hn
  have q1 : ((n : Int) == (n : Int)) = true := beq_self_eq_true _
  go_enter Tryz.func58, Tryz.ntmps58
  go_wp2
  go_loopw [5] (fun i wr => ∃ k : Nat, k ≤ n ∧ i = .int .i64 k ∧ Hid (Below w.heap.size w wr)) (fun i _ => n - (intOf i).toNat)
  case atStart => exact ⟨0, Nat.zero_le _, rfl, Below.refl _ _⟩
  case round =>
    obtain ⟨k, hk, rfl, HB⟩ := hrel
    by_cases hlt : k < n
    · have hlt' : k < xs.length := by rw [← HN.out]; exact hlt
      obtain ⟨ab, af, rfl, c0⟩ := (HA.out.below HB.out).str k hlt'
      obtain ⟨bb, bf, rfl, c1⟩ := (HC.out.below HB.out).str k hlt'
      have hi1 : (k : Int) < (n : Int) := by omega
      have hi0 : (0 : Int) ≤ (k : Int) := by omega
      have hi2 : (0 : Int) ≤ (k : Int) ∧ (k : Int) < (n : Int) := ⟨hi0, hi1⟩
      generalize xs[k] = x at *
      have q2 : (x.toList == x.toList) = true := beq_self_eq_true _
      go_wp2
      go_quiet (fail)
      go_wp2
      go_roundw
      case rel => exact ⟨k + 1, by omega, by go_num, by first | exact HB | exact below_drewN HB.out _⟩
      case measure => simp [intOf]; omega
    · go_wp2
      go_ret
      exact ⟨rfl, HB.out⟩
end Go.Proofs.YtmkohdepgfahnaaGreatDoor
