import Derived.Test.YtgjcchafmcccjaaDoorRwSort
import Derived.Test.YtgjcchafmcccjaaDoorRcFixS
import Derived.Test.YtgjcchafmcccjaaDoorRcFixC
import Derived.Deep.WholeRow
import Derived.Laws.CopyOwn
import Derived.Deep.MidRow
/- Layer 9 (records): operations, plain. -/
namespace Go.Proofs.YtgjcchafmcccjaaDoor
open Go.RowKit
set_option linter.unusedVariables false

structure Opp where
  kind : Int
  node : Nd
  svc : Sp
  chk : Ck
  cas : Bool
  want : Int
def Opp.v (o : Opp) (t : Value) : Array Value := #[.int .i64 o.kind, .string o.node.name, .string o.node.addr, .int .u64 o.node.made, .int .u64 o.node.changed,
  .string o.svc.node, .string o.svc.id, .string o.svc.name, .int .i64 o.svc.port, t, .int .u64 o.svc.made, .int .u64 o.svc.changed,
  .string o.chk.node, .string o.chk.id, .string o.chk.service, .int .i64 o.chk.status, .string o.chk.note, .int .u64 o.chk.made, .int .u64 o.chk.changed, .bool o.cas, .int .u64 o.want]
def oppZ : Opp := ⟨0, nodeZ, svcZ, chkZ, false, 0⟩
def wantF (o : Opp) : Int := if o.cas then o.want else 0
/-- The error of an operation, and its normal form where there is none. -/
def oppE (o : Opp) : Int :=
  if o.kind = 1 then nodeE o.node else if o.kind = 2 then svcE o.svc else if o.kind = 3 then chkE o.chk else
  if o.kind = 4 then labE o.node.name else if o.kind = 5 then idE o.svc.node o.svc.id else if o.kind = 6 then idE o.chk.node o.chk.id else 96
def oppN (o : Opp) : Opp :=
  if o.kind = 1 then ⟨o.kind, fixN o.node, svcZ, chkZ, o.cas, wantF o⟩ else if o.kind = 2 then ⟨o.kind, nodeZ, svcF o.svc, chkZ, o.cas, wantF o⟩ else if o.kind = 3 then ⟨o.kind, nodeZ, svcZ, chkF o.chk, o.cas, wantF o⟩ else
  if o.kind = 4 then ⟨o.kind, ⟨labT o.node.name, ⟨#[]⟩, 0, 0⟩, svcZ, chkZ, o.cas, wantF o⟩ else if o.kind = 5 then ⟨o.kind, nodeZ, ⟨labT o.svc.node, labT o.svc.id, ⟨#[]⟩, 0, [], 0, 0⟩, chkZ, o.cas, wantF o⟩ else
  ⟨o.kind, nodeZ, svcZ, ⟨labT o.chk.node, labT o.chk.id, ⟨#[]⟩, 0, ⟨#[]⟩, 0, 0⟩, o.cas, wantF o⟩
def oppF (o : Opp) : Opp := if oppE o = 0 then oppN o else oppZ
structure Opp.small (o : Opp) : Prop where
  name : o.node.name.size ≤ 140737488351296
  addr : o.node.addr.size ≤ 140737488351296
  svc : o.svc.small
  chk : o.chk.small
/-- An operation is answered, its tags in memory of their own. -/
def OppA (w : World) (r : Opp) (x : Int) (e : Ending) (w' : World) : Prop := ∃ v, e = .returned (.tuple #[.agg (r.v v), .int .i64 x]) ∧ w'.ownsRow w.heap.size 9 1 v r.svc.tags.length (r.svc.tags.map Value.string) ∧ Below w.heap.size w w'
theorem info_op : (Tryd.prog.info? 51).map (·.size) = some 21 := by kernel_rfl
theorem load_op {w : World} {g : Nat} {cs : Array Value} (h : Blk w g cs 51) (hs : cs.size = 21) : (loadVar 51 ⟨g, 0, none⟩).run Tryd.prog w = .ok (.agg cs) w :=
  run_loadVar_row (P := Tryd.prog) w g 51 51 cs (0, 0) _ h Tryd.underlying51 rfl (by rw [info_op, hs])
theorem three_new (w : World) (o1 o2 o3 : Obj) : (((w.alloc o1).alloc o2).alloc o3).heap[w.heap.size]? = some o1 ∧ (((w.alloc o1).alloc o2).alloc o3).heap[w.heap.size + 1]? = some o2 ∧ (((w.alloc o1).alloc o2).alloc o3).heap[w.heap.size + 1 + 1]? = some o3 ∧
    Below w.heap.size w (((w.alloc o1).alloc o2).alloc o3) := ⟨(three_alloc w o1 o2 o3).1, (three_alloc w o1 o2 o3).2.1, (three_alloc w o1 o2 o3).2.2.1, (three_alloc w o1 o2 o3).2.2.2.1⟩
theorem row_putK {w : World} {B g : Nat} {e T : TypeId} {size : Nat} {v : Value} {n : Nat} {xs : List Value} {cs : Array Value} (hg : Blk w g cs T) (hT : T ≠ e) (h : w.ownsRow B e size v n xs) (l : List Value) (k : Nat) : (putC w g k l).ownsRow B e size v n xs := by
  refine ⟨h.1, ?_⟩
  rcases h.2 with h1 | ⟨g', cap, cur, h1, h2, h3, h4⟩
  · exact .inl h1
  · refine .inr ⟨g', cap, cur, h1, h2, putC_other (fun e' => ?_) l w k h3, h4⟩
    subst e'
    have hg' : w.heap[g']? = some (.cells cs T) := hg
    rw [h3] at hg'
    injection hg' with hg'
    injection hg' with _ hg'
    exact hT hg'.symm
end Go.Proofs.YtgjcchafmcccjaaDoor

/- Layer 9 (records): an operation's 21 cells stored and read as one. -/
namespace Go.Proofs.YtgjcchafmcccjaaDoor
open Go.RowKit

theorem wp_store_op {op : Oper} {a : Act} {w : World} {g : Nat} {K : Act → World → Prop} {Q : Exit → Act → World → Prop} {x y : Operand} {c c' : Array Value} (ho : op.op = .store 51 x y) (hg : g = w.heap.size) (hx : a.eval x = .pointer (some ⟨g, 0, none⟩)) (hy : a.eval y = .agg c') (hs : c.size = 21) (hs' : c'.size = 21) (h1 : c'.all (·.oneCell') = true)
    (h : K (a.put op.dst undef) (w.alloc (.cells c' 51))) : op.wp Tryd.prog a (w.alloc (.cells c 51)) K Q := by
  subst hg
  exact wp_store_row 51 x y ho w.heap.size c' hx hy 51 c (heap_alloc_last w _) (by rw [info_op, hs']) (by rw [hs, hs']) h1 (by rw [World.setRow_alloc_new]; exact h)
theorem wp_put_op {op : Oper} {a : Act} {w : World} {g : Nat} {K : Act → World → Prop} {Q : Exit → Act → World → Prop} {x y : Operand} {c c' : Array Value} (ho : op.op = .store 51 x y) (hb : Blk w g c 51) (hx : a.eval x = .pointer (some ⟨g, 0, none⟩)) (hy : a.eval y = .agg c') (hs : c.size = 21) (hs' : c'.size = 21) (h1 : c'.all (·.oneCell') = true)
    (h : K (a.put op.dst undef) (w.setRow g c')) : op.wp Tryd.prog a w K Q :=
  wp_store_row 51 x y ho g c' hx hy 51 c hb (by rw [info_op, hs']) (by rw [hs, hs']) h1 h
theorem wp_get_op {op : Oper} {a : Act} {w : World} {g : Nat} {K : Act → World → Prop} {Q : Exit → Act → World → Prop} {x : Operand} {c : Array Value} (ho : op.op = .load 51 x) (hb : Blk w g c 51) (hx : a.eval x = .pointer (some ⟨g, 0, none⟩)) (hs : c.size = 21)
    (h : K (a.put op.dst (.agg c)) w) : op.wp Tryd.prog a w K Q :=
  wp_load_row 51 x ho g hx 51 c (0, 0) _ hb Tryd.underlying51 rfl (by rw [info_op, hs]) h
theorem Blk.put {w : World} {g : Nat} {c : Array Value} {T : TypeId} (h : Blk w g c T) (i : Nat) (v : Value) : Blk (w.setCell ⟨g, i, none⟩ v) g (c.setIfInBounds i v) T := Lib.heap_setCell_same h v
theorem putC_mid {g : Nat} {T : TypeId} : ∀ (l : List Value) (w : World) (i : Nat) (cs : Array Value), Blk w g cs T → i + l.length ≤ cs.size → Blk (putC w g i l) g (cs.toList.take i ++ l ++ cs.toList.drop (i + l.length)).toArray T
  | [], w, i, cs, h, _ => by
    have e : (cs.toList.take i ++ [] ++ cs.toList.drop (i + ([] : List Value).length)).toArray = cs := by
      rw [List.append_nil, List.length_nil, Nat.add_zero, List.take_append_drop]
    rw [e]
    exact h
  | v :: l, w, i, cs, h, hl => by
    simp only [List.length_cons] at hl
    have h1 : Blk (w.setCell ⟨g, i, none⟩ v) g (cs.setIfInBounds i v) T := Lib.heap_setCell_same h v
    have h2 := putC_mid l (w.setCell ⟨g, i, none⟩ v) (i + 1) (cs.setIfInBounds i v) h1 (by rw [Array.size_setIfInBounds]; omega)
    have e : (cs.setIfInBounds i v).toList.take (i + 1) ++ l ++ (cs.setIfInBounds i v).toList.drop (i + 1 + l.length) = cs.toList.take i ++ v :: l ++ cs.toList.drop (i + (v :: l).length) := by
      rw [Array.toList_setIfInBounds, List.take_succ_eq_append_getElem (by rw [List.length_set, Array.length_toList]; omega), List.take_set_of_le (Nat.le_refl _), List.drop_set_of_lt (by omega), List.length_cons, show i + 1 + l.length = i + (l.length + 1) by omega]
      simp
    rw [e] at h2
    exact h2
theorem blk_setRow {w : World} {g : Nat} {c : Array Value} {T : TypeId} (h : Blk w g c T) (c' : Array Value) : Blk (w.setRow g c') g c' T := setRow_heap w g c c' T (0, 0) h
theorem setCells_putC (g : Nat) : ∀ (l : List Value) (o : Nat) (w : World), w.setCells g o l = putC w g o l
  | [], _, _ => rfl
  | _ :: l, o, _ => setCells_putC g l (o + 1) _
theorem wp_get_part {op : Oper} {a : Act} {w : World} {g o n : Nat} {K : Act → World → Prop} {Q : Exit → Act → World → Prop} {x : Operand} {T U : TypeId} {C : Array Value} {l : List Value} {d : TypeDesc} (ho : op.op = .load T x) (hb : Blk w g C U) (hx : a.eval x = .pointer (some ⟨g, o, none⟩)) (hl : (C.toList.drop o).take n = l)
    (hu : Tryd.prog.underlying T = some d) (hd : d.isRow = true) (hi : (Tryd.prog.info? T).map (·.size) = some l.length) (h : K (a.put op.dst (.agg l.toArray)) w) : op.wp Tryd.prog a w K Q :=
  wp_load_mid T x ho g o hx l d (fun j v hv => hb.cell (o + j) (by
    rw [← hl, List.getElem?_take] at hv
    split at hv
    · rw [List.getElem?_drop, Array.getElem?_toList] at hv
      exact hv
    · cases hv)) hu hd hi h
theorem wp_put_part {op : Oper} {a : Act} {w : World} {g o : Nat} {K : Act → World → Prop} {Q : Exit → Act → World → Prop} {x y : Operand} {T U : TypeId} {C : Array Value} {l : List Value} (ho : op.op = .store T x y) (hb : Blk w g C U) (hx : a.eval x = .pointer (some ⟨g, o, none⟩)) (hy : a.eval y = .agg l.toArray)
    (hl : o + l.length ≤ C.size) (hi : (Tryd.prog.info? T).map (·.size) = some l.length) (h1 : l.toArray.all (·.oneCell') = true) (h : K (a.put op.dst undef) (putC w g o l)) : op.wp Tryd.prog a w K Q := by
  refine wp_store_mid T x y ho g o l.toArray hx hy ?_ hi h1 ?_
  · intro j hj
    have hj' : o + j < C.size := by
      have : j < l.length := hj
      omega
    exact ⟨by rw [hb.cell (o + j) (Array.getElem?_eq_getElem hj')]; rfl, hb.open _⟩
  · rw [setCells_putC]
    exact h
theorem size_node : (Tryd.prog.info? 44).map (·.size) = some 4 := by kernel_rfl
theorem size_svc : (Tryd.prog.info? 47).map (·.size) = some 7 := by kernel_rfl
theorem size_chk : (Tryd.prog.info? 49).map (·.size) = some 7 := by kernel_rfl
theorem row_setRow {w : World} {B g : Nat} {e T : TypeId} {size : Nat} {v : Value} {n : Nat} {xs : List Value} {cs : Array Value} (hg : Blk w g cs T) (hT : T ≠ e) (h : w.ownsRow B e size v n xs) (c' : Array Value) : (w.setRow g c').ownsRow B e size v n xs := by
  refine ⟨h.1, ?_⟩
  rcases h.2 with h1 | ⟨g', cap, cur, h1, h2, h3, h4⟩
  · exact .inl h1
  · refine .inr ⟨g', cap, cur, h1, h2, ?_, h4⟩
    rw [setRow_other _ _ _ _ (fun e' => ?_)]
    · exact h3
    · subst e'
      have hg' : w.heap[g']? = some (.cells cs T) := hg
      rw [h3] at hg'
      injection hg' with hg'
      injection hg' with _ hg'
      exact hT hg'.symm
end Go.Proofs.YtgjcchafmcccjaaDoor
