import Derived.Test.YtmkohdepgfahnaaGreatDoorKLaw
import Derived.Deep.RegionHeldLaw
import Derived.Test.YtmkohdepgfahnaaGreatDoorRcOpD
import Derived.Deep.WholeRow
import Derived.Laws.CopyOwn
import Derived.Deep.MidRow
/- Layer 13 (journal): append of bytes as one step of a region that draws its order. -/
namespace Go.Proofs.YtmkohdepgfahnaaGreatDoor
open Go.RowKit
set_option linter.unusedVariables false

theorem step_append_u8 {ops : Array Oper} {o : Oper} {a : Act} {K : Act → World → Prop} {Q : Exit → Act → World → Prop} {E : Prop} (W : World) (hgd : o.guard = none) (s x : Operand)
    (ho : o.op = .call { callee := .builtin .append, args := #[s, x], argTypes := #[23, 23] })
    (B : Nat) (v : Value) (l : List UInt8) (hs : a.eval s = v) (hown : Own W B v l) (ad : Addr) (m c : Nat) (news : List UInt8) (hx : a.eval x = .slice (some ad) m c) (hm : news.length = m) (hnews : ∀ j u, (bs news)[j]? = some u → W.cell? (ad.add j) = some u)
    (hlen : l.length + m ≤ 140737488355328) (hB : B ≤ W.heap.size)
    (h : ∀ v' w', Own w' B v' (l ++ news) → Grew W w' v v' → K (a.put o.dst v') w') :
    if Region.wanted o (yielded ops a.tmps) = true then Oper.wp Tryz.prog o a W K Q else E := by
  have hw : Region.wanted o (yielded ops a.tmps) = true := by simp [Region.wanted, hgd]
  rw [if_pos hw]
  obtain ⟨i0, hi, hz0, hz1, hz2⟩ := info_parts info_u8
  subst hm
  obtain ⟨v', w', hr, h2, h3, _⟩ := run_append_grew (P := Tryz.prog) W B 23 o.type 5 i0 (.int .u8 0) 1 1 Tryz.underlying23 hi hz0 hz1 hz2 rfl (by decide) v l.length (bs l) hown ad news.length c (bs news) (by simp [bs]) hnews (bs_one _) (by unfold maxLen; omega) (by omega) hB
  unfold Oper.wp execOp
  simp only [ho, resolve, invoke, builtin, Sem.run_bind, Sem.run_pure, Result.andThen_ok, List.map_toArray, List.map_cons, List.map_nil, hs, hx, hr]
  refine h v' w' ?_ h3
  unfold Own
  rw [bs_append, List.length_append]
  exact h2
end Go.Proofs.YtmkohdepgfahnaaGreatDoor

/- Layer 9 (records): an operation's 21 cells stored and read as one. -/
namespace Go.Proofs.YtmkohdepgfahnaaGreatDoor
open Go.RowKit

theorem wp_store_op {op : Oper} {a : Act} {w : World} {g : Nat} {K : Act → World → Prop} {Q : Exit → Act → World → Prop} {x y : Operand} {c c' : Array Value} (ho : op.op = .store 55 x y) (hg : g = w.heap.size) (hx : a.eval x = .pointer (some ⟨g, 0, none⟩)) (hy : a.eval y = .agg c') (hs : c.size = 21) (hs' : c'.size = 21) (h1 : c'.all (·.oneCell') = true)
    (h : K (a.put op.dst undef) (w.alloc (.cells c' 55))) : op.wp Tryz.prog a (w.alloc (.cells c 55)) K Q := by
  subst hg
  exact wp_store_row 55 x y ho w.heap.size c' hx hy 55 c (heap_alloc_last w _) (by rw [info_op, hs']) (by rw [hs, hs']) h1 (by rw [World.setRow_alloc_new]; exact h)
theorem wp_put_op {op : Oper} {a : Act} {w : World} {g : Nat} {K : Act → World → Prop} {Q : Exit → Act → World → Prop} {x y : Operand} {c c' : Array Value} (ho : op.op = .store 55 x y) (hb : Blk w g c 55) (hx : a.eval x = .pointer (some ⟨g, 0, none⟩)) (hy : a.eval y = .agg c') (hs : c.size = 21) (hs' : c'.size = 21) (h1 : c'.all (·.oneCell') = true)
    (h : K (a.put op.dst undef) (w.setRow g c')) : op.wp Tryz.prog a w K Q :=
  wp_store_row 55 x y ho g c' hx hy 55 c hb (by rw [info_op, hs']) (by rw [hs, hs']) h1 h
theorem wp_get_op {op : Oper} {a : Act} {w : World} {g : Nat} {K : Act → World → Prop} {Q : Exit → Act → World → Prop} {x : Operand} {c : Array Value} (ho : op.op = .load 55 x) (hb : Blk w g c 55) (hx : a.eval x = .pointer (some ⟨g, 0, none⟩)) (hs : c.size = 21)
    (h : K (a.put op.dst (.agg c)) w) : op.wp Tryz.prog a w K Q :=
  wp_load_row 55 x ho g hx 55 c (0, 0) _ hb Tryz.underlying55 rfl (by rw [info_op, hs]) h
theorem Blk.put {w : World} {g : Nat} {c : Array Value} {T : TypeId} (h : Blk w g c T) (i : Nat) (v : Value) : Blk (w.setCell ⟨g, i, none⟩ v) g (c.setIfInBounds i v) T := Lib.heap_setCell_same h v
theorem putC_mid {g : Nat} {T : TypeId} : ∀ (l : List Value) (w : World) (i : Nat) (cs : Array Value), Blk w g cs T → i + l.length ≤ cs.size → Blk (putC w g i l) g (cs.toList.take i ++ l ++ cs.toList.drop (i + l.length)).toArray T
  | [], w, i, cs, h, _ => by
    have e : (cs.toList.take i ++ [] ++ cs.toList.drop (i + ([] : List Value).length)).toArray = cs := by
      rw [List.append_nil, List.length_nil, Nat.add_zero, List.take_append_drop]
    rw [e]
    exact h
  | v :: l, w, i, cs, h, hl => by
    simp only [List.length_cons] at hl
    have h1 : Blk (w.setCell ⟨g, i, none⟩ v) g (cs.setIfInBounds i v) T := Lib.heap_setCell_same h v
    have h2 := putC_mid l (w.setCell ⟨g, i, none⟩ v) (i + 1) (cs.setIfInBounds i v) h1 (by rw [Array.size_setIfInBounds]; omega)
    have e : (cs.setIfInBounds i v).toList.take (i + 1) ++ l ++ (cs.setIfInBounds i v).toList.drop (i + 1 + l.length) = cs.toList.take i ++ v :: l ++ cs.toList.drop (i + (v :: l).length) := by
      rw [Array.toList_setIfInBounds, List.take_succ_eq_append_getElem (by rw [List.length_set, Array.length_toList]; omega), List.take_set_of_le (Nat.le_refl _), List.drop_set_of_lt (by omega), List.length_cons, show i + 1 + l.length = i + (l.length + 1) by omega]
      simp
    rw [e] at h2
    exact h2
theorem blk_setRow {w : World} {g : Nat} {c : Array Value} {T : TypeId} (h : Blk w g c T) (c' : Array Value) : Blk (w.setRow g c') g c' T := setRow_heap w g c c' T (0, 0) h
theorem setCells_putC (g : Nat) : ∀ (l : List Value) (o : Nat) (w : World), w.setCells g o l = putC w g o l
  | [], _, _ => rfl
  | _ :: l, o, _ => setCells_putC g l (o + 1) _
theorem wp_get_part {op : Oper} {a : Act} {w : World} {g o n : Nat} {K : Act → World → Prop} {Q : Exit → Act → World → Prop} {x : Operand} {T U : TypeId} {C : Array Value} {l : List Value} {d : TypeDesc} (ho : op.op = .load T x) (hb : Blk w g C U) (hx : a.eval x = .pointer (some ⟨g, o, none⟩)) (hl : (C.toList.drop o).take n = l)
    (hu : Tryz.prog.underlying T = some d) (hd : d.isRow = true) (hi : (Tryz.prog.info? T).map (·.size) = some l.length) (h : K (a.put op.dst (.agg l.toArray)) w) : op.wp Tryz.prog a w K Q :=
  wp_load_mid T x ho g o hx l d (fun j v hv => hb.cell (o + j) (by
    rw [← hl, List.getElem?_take] at hv
    split at hv
    · rw [List.getElem?_drop, Array.getElem?_toList] at hv
      exact hv
    · cases hv)) hu hd hi h
theorem wp_put_part {op : Oper} {a : Act} {w : World} {g o : Nat} {K : Act → World → Prop} {Q : Exit → Act → World → Prop} {x y : Operand} {T U : TypeId} {C : Array Value} {l : List Value} (ho : op.op = .store T x y) (hb : Blk w g C U) (hx : a.eval x = .pointer (some ⟨g, o, none⟩)) (hy : a.eval y = .agg l.toArray)
    (hl : o + l.length ≤ C.size) (hi : (Tryz.prog.info? T).map (·.size) = some l.length) (h1 : l.toArray.all (·.oneCell') = true) (h : K (a.put op.dst undef) (putC w g o l)) : op.wp Tryz.prog a w K Q := by
  refine wp_store_mid T x y ho g o l.toArray hx hy ?_ hi h1 ?_
  · intro j hj
    have hj' : o + j < C.size := by
      have : j < l.length := hj
      omega
    exact ⟨by rw [hb.cell (o + j) (Array.getElem?_eq_getElem hj')]; rfl, hb.open _⟩
  · rw [setCells_putC]
    exact h
theorem size_node : (Tryz.prog.info? 48).map (·.size) = some 4 := by kernel_rfl
theorem size_svc : (Tryz.prog.info? 51).map (·.size) = some 7 := by kernel_rfl
theorem size_chk : (Tryz.prog.info? 53).map (·.size) = some 7 := by kernel_rfl
theorem row_setRow {w : World} {B g : Nat} {e T : TypeId} {size : Nat} {v : Value} {n : Nat} {xs : List Value} {cs : Array Value} (hg : Blk w g cs T) (hT : T ≠ e) (h : w.ownsRow B e size v n xs) (c' : Array Value) : (w.setRow g c').ownsRow B e size v n xs := by
  refine ⟨h.1, ?_⟩
  rcases h.2 with h1 | ⟨g', cap, cur, h1, h2, h3, h4⟩
  · exact .inl h1
  · refine .inr ⟨g', cap, cur, h1, h2, ?_, h4⟩
    rw [setRow_other _ _ _ _ (fun e' => ?_)]
    · exact h3
    · subst e'
      have hg' : w.heap[g']? = some (.cells cs T) := hg
      rw [h3] at hg'
      injection hg' with hg'
      injection hg' with _ hg'
      exact hT hg'.symm
end Go.Proofs.YtmkohdepgfahnaaGreatDoor
