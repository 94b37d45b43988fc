import Derived.Test.YthgcnmilaifkoaaGreatDoorKLaw
import Derived.Deep.RegionHeldLaw
import Derived.Test.YthgcnmilaifkoaaGreatDoorRwPut
import Derived.Deep.WholeRow
import Derived.Laws.CopyOwn
import Derived.Deep.MidRow
import Derived.Deep.QuietTactic
import Derived.BigQuiet
/- Layer 13 (journal): append of bytes as one step of a region that draws its order. -/
namespace Go.Proofs.YthgcnmilaifkoaaGreatDoor
open Go.RowKit
set_option linter.unusedVariables false

theorem step_append_u8 {ops : Array Oper} {o : Oper} {a : Act} {K : Act → World → Prop} {Q : Exit → Act → World → Prop} {E : Prop} (W : World) (hgd : o.guard = none) (s x : Operand)
  (ho : o.op = .call { callee := .builtin .append, args := #[s, x], argTypes := #[50, 50] })
  (B : Nat) (v : Value) (l : List UInt8) (hs : a.eval s = v) (hown : Own W B v l) (ad : Addr) (m c : Nat) (news : List UInt8) (hx : a.eval x = .slice (some ad) m c) (hm : news.length = m) (hnews : ∀ j u, (bs news)[j]? = some u → W.cell? (ad.add j) = some u)
  (hlen : l.length + m ≤ 140737488355328) (hB : B ≤ W.heap.size)
  (h : ∀ v' w', Own w' B v' (l ++ news) → Grew W w' v v' → K (a.put o.dst v') w') :
  if Region.wanted o (yielded ops a.tmps) = true then Oper.wp Tryz.prog o a W K Q else E := by
 have hw : Region.wanted o (yielded ops a.tmps) = true := by simp [Region.wanted, hgd]
 rw [if_pos hw]
 obtain ⟨i0, hi, hz0, hz1, hz2⟩ := info_parts info_u8
 subst hm
 obtain ⟨v', w', hr, h2, h3, _⟩ := run_append_grew (P := Tryz.prog) W B 50 o.type 5 i0 (.int .u8 0) 1 1 Tryz.underlying50 hi hz0 hz1 hz2 rfl (by decide) v l.length (bs l) hown ad news.length c (bs news) (by simp [bs]) hnews (bs_one _) (by unfold maxLen; omega) (by omega) hB
 unfold Oper.wp execOp
 simp only [ho, resolve, invoke, builtin, Sem.run_bind, Sem.run_pure, Result.andThen_ok, List.map_toArray, List.map_cons, List.map_nil, hs, hx, hr]
 refine h v' w' ?_ h3
 unfold Own
 rw [bs_append, List.length_append]
 exact h2
end Go.Proofs.YthgcnmilaifkoaaGreatDoor

/- Layer 9 (records): an operation's 21 cells stored and read as one. -/
namespace Go.Proofs.YthgcnmilaifkoaaGreatDoor
open Go.RowKit

theorem wp_store_op {op : Oper} {a : Act} {w : World} {g : Nat} {K : Act → World → Prop} {Q : Exit → Act → World → Prop} {x y : Operand} {c c' : Array Value} (ho : op.op = .store 47 x y) (hg : g = w.heap.size) (hx : a.eval x = .pointer (some ⟨g, 0, none⟩)) (hy : a.eval y = .agg c') (hs : c.size = 21) (hs' : c'.size = 21) (h1 : c'.all (·.oneCell') = true)
  (h : K (a.put op.dst undef) (w.alloc (.cells c' 47))) : op.wp Tryz.prog a (w.alloc (.cells c 47)) K Q := by
 subst hg
 exact wp_store_row 47 x y ho w.heap.size c' hx hy 47 c (heap_alloc_last w _) (by rw [info_op, hs']) (by rw [hs, hs']) h1 (by rw [World.setRow_alloc_new]; exact h)
theorem wp_put_op {op : Oper} {a : Act} {w : World} {g : Nat} {K : Act → World → Prop} {Q : Exit → Act → World → Prop} {x y : Operand} {c c' : Array Value} (ho : op.op = .store 47 x y) (hb : Blk w g c 47) (hx : a.eval x = .pointer (some ⟨g, 0, none⟩)) (hy : a.eval y = .agg c') (hs : c.size = 21) (hs' : c'.size = 21) (h1 : c'.all (·.oneCell') = true)
  (h : K (a.put op.dst undef) (w.setRow g c')) : op.wp Tryz.prog a w K Q :=
 wp_store_row 47 x y ho g c' hx hy 47 c hb (by rw [info_op, hs']) (by rw [hs, hs']) h1 h
theorem wp_get_op {op : Oper} {a : Act} {w : World} {g : Nat} {K : Act → World → Prop} {Q : Exit → Act → World → Prop} {x : Operand} {c : Array Value} (ho : op.op = .load 47 x) (hb : Blk w g c 47) (hx : a.eval x = .pointer (some ⟨g, 0, none⟩)) (hs : c.size = 21)
  (h : K (a.put op.dst (.agg c)) w) : op.wp Tryz.prog a w K Q :=
 wp_load_row 47 x ho g hx 47 c (0, 0) _ hb Tryz.underlying47 rfl (by rw [info_op, hs]) h
theorem Blk.put {w : World} {g : Nat} {c : Array Value} {T : TypeId} (h : Blk w g c T) (i : Nat) (v : Value) : Blk (w.setCell ⟨g, i, none⟩ v) g (c.setIfInBounds i v) T := Lib.heap_setCell_same h v
theorem putC_mid {g : Nat} {T : TypeId} : ∀ (l : List Value) (w : World) (i : Nat) (cs : Array Value), Blk w g cs T → i + l.length ≤ cs.size → Blk (putC w g i l) g (cs.toList.take i ++ l ++ cs.toList.drop (i + l.length)).toArray T
 | [], w, i, cs, h, _ => by
  have e : (cs.toList.take i ++ [] ++ cs.toList.drop (i + ([] : List Value).length)).toArray = cs := by
   rw [List.append_nil, List.length_nil, Nat.add_zero, List.take_append_drop]
  rw [e]
  exact h
 | v :: l, w, i, cs, h, hl => by
  simp only [List.length_cons] at hl
  have h1 : Blk (w.setCell ⟨g, i, none⟩ v) g (cs.setIfInBounds i v) T := Lib.heap_setCell_same h v
  have h2 := putC_mid l (w.setCell ⟨g, i, none⟩ v) (i + 1) (cs.setIfInBounds i v) h1 (by rw [Array.size_setIfInBounds]; omega)
  have e : (cs.setIfInBounds i v).toList.take (i + 1) ++ l ++ (cs.setIfInBounds i v).toList.drop (i + 1 + l.length) = cs.toList.take i ++ v :: l ++ cs.toList.drop (i + (v :: l).length) := by
   rw [Array.toList_setIfInBounds, List.take_succ_eq_append_getElem (by rw [List.length_set, Array.length_toList]; omega), List.take_set_of_le (Nat.le_refl _), List.drop_set_of_lt (by omega), List.length_cons, show i + 1 + l.length = i + (l.length + 1) by omega]
   simp
  rw [e] at h2
  exact h2
theorem blk_setRow {w : World} {g : Nat} {c : Array Value} {T : TypeId} (h : Blk w g c T) (c' : Array Value) : Blk (w.setRow g c') g c' T := setRow_heap w g c c' T (0, 0) h
theorem setCells_putC (g : Nat) : ∀ (l : List Value) (o : Nat) (w : World), w.setCells g o l = putC w g o l
 | [], _, _ => rfl
 | _ :: l, o, _ => setCells_putC g l (o + 1) _
theorem wp_get_part {op : Oper} {a : Act} {w : World} {g o n : Nat} {K : Act → World → Prop} {Q : Exit → Act → World → Prop} {x : Operand} {T U : TypeId} {C : Array Value} {l : List Value} {d : TypeDesc} (ho : op.op = .load T x) (hb : Blk w g C U) (hx : a.eval x = .pointer (some ⟨g, o, none⟩)) (hl : (C.toList.drop o).take n = l)
  (hu : Tryz.prog.underlying T = some d) (hd : d.isRow = true) (hi : (Tryz.prog.info? T).map (·.size) = some l.length) (h : K (a.put op.dst (.agg l.toArray)) w) : op.wp Tryz.prog a w K Q :=
 wp_load_mid T x ho g o hx l d (fun j v hv => hb.cell (o + j) (by
  rw [← hl, List.getElem?_take] at hv
  split at hv
  ·rw [List.getElem?_drop, Array.getElem?_toList] at hv
   exact hv
  ·cases hv)) hu hd hi h
theorem wp_put_part {op : Oper} {a : Act} {w : World} {g o : Nat} {K : Act → World → Prop} {Q : Exit → Act → World → Prop} {x y : Operand} {T U : TypeId} {C : Array Value} {l : List Value} (ho : op.op = .store T x y) (hb : Blk w g C U) (hx : a.eval x = .pointer (some ⟨g, o, none⟩)) (hy : a.eval y = .agg l.toArray)
  (hl : o + l.length ≤ C.size) (hi : (Tryz.prog.info? T).map (·.size) = some l.length) (h1 : l.toArray.all (·.oneCell') = true) (h : K (a.put op.dst undef) (putC w g o l)) : op.wp Tryz.prog a w K Q := by
 refine wp_store_mid T x y ho g o l.toArray hx hy ?_ hi h1 ?_
 ·intro j hj
  have hj' : o + j < C.size := by
   have : j < l.length := hj
   omega
  exact ⟨by rw [hb.cell (o + j) (Array.getElem?_eq_getElem hj')]; rfl, hb.open _⟩
 ·rw [setCells_putC]
  exact h
theorem size_node : (Tryz.prog.info? 43).map (·.size) = some 4 := by kernel_rfl
theorem size_svc : (Tryz.prog.info? 41).map (·.size) = some 7 := by kernel_rfl
theorem size_chk : (Tryz.prog.info? 45).map (·.size) = some 7 := by kernel_rfl
theorem row_setRow {w : World} {B g : Nat} {e T : TypeId} {size : Nat} {v : Value} {n : Nat} {xs : List Value} {cs : Array Value} (hg : Blk w g cs T) (hT : T ≠ e) (h : w.ownsRow B e size v n xs) (c' : Array Value) : (w.setRow g c').ownsRow B e size v n xs := by
 refine ⟨h.1, ?_⟩
 rcases h.2 with h1 | ⟨g', cap, cur, h1, h2, h3, h4⟩
 ·exact .inl h1
 ·refine .inr ⟨g', cap, cur, h1, h2, ?_, h4⟩
  rw [setRow_other _ _ _ _ (fun e' => ?_)]
  ·exact h3
  ·subst e'
   have hg' : w.heap[g']? = some (.cells cs T) := hg
   rw [h3] at hg'
   injection hg' with hg'
   injection hg' with _ hg'
   exact hT hg'.symm
abbrev o21 (a : Int) (b c : ByteArray) (d e : Int) (f g h : ByteArray) (i : Int) (j : Value) (k l : Int) (m n o : ByteArray) (p : Int) (q : ByteArray) (r s : Int) (t : Bool) (u : Int) : Array Value := #[.int .i64 a, .string b, .string c, .int .u64 d, .int .u64 e, .string f, .string g, .string h, .int .i64 i, j, .int .u64 k, .int .u64 l, .string m, .string n, .string o, .int .i64 p, .string q, .int .u64 r, .int .u64 s, .bool t, .int .u64 u]
abbrev z21 : Array Value := #[.int .i64 0, .string ⟨#[]⟩, .string ⟨#[]⟩, .int .u64 0, .int .u64 0, .string ⟨#[]⟩, .string ⟨#[]⟩, .string ⟨#[]⟩, .int .i64 0, .slice none 0 0, .int .u64 0, .int .u64 0, .string ⟨#[]⟩, .string ⟨#[]⟩, .string ⟨#[]⟩, .int .i64 0, .string ⟨#[]⟩, .int .u64 0, .int .u64 0, .bool false, .int .u64 0]
end Go.Proofs.YthgcnmilaifkoaaGreatDoor

/- append of a slice that lies anywhere. -/
namespace Go.Proofs.YthgcnmilaifkoaaGreatDoor
open Go.RowKit
set_option linter.unusedVariables false

theorem run_append_none (t ty e : TypeId) (i : TypeInfo) (ht : Tryz.prog.underlying t = some (.slice e)) (hi : Tryz.prog.info? e = some i) (w : World) (base : Option Addr) (n cap c : Nat) (h : n ≤ cap) :
  (Builtin.append_ #[t, t] ty #[.slice base n cap, .slice none 0 c]).run Tryz.prog w = .ok (.slice base n cap) w := by
 cases base <;> simp [Builtin.append_, run_underlying ht, sizeOf, typeInfo, hi, Builtin.lenOf, h, Builtin.firstCells, storeCells]
/-- append(s, x...), x anywhere, or none. -/
theorem append_src (W : World) {ops : Array Oper} {rest : List Oper} {o : Oper} {a : Act} {Q : Exit → Act → World → Prop} (hgd : o.guard = none) (s x : Operand) (t e : TypeId) (z : Value) (size bytes : Nat)
  (ht : Tryz.prog.underlying t = some (.slice e)) (hi : (Tryz.prog.info? e).map (fun i => (i.zero, i.size, i.bytes)) = some (some z, size, bytes)) (hzs : z.cells.size = size) (hsz : 0 < size)
  (ho : o.op = .call { callee := .builtin .append, args := #[s, x], argTypes := #[t, t] })
  (B : Nat) (v : Value) (n : Nat) (l : List Value) (hs : a.eval s = v) (hown : W.ownsRow B e size v n l) (ao : Option Addr) (m c : Nat) (news : List Value) (hx : a.eval x = .slice ao m c) (hl : news.length = m * size) (hc : CellsAt W ao news) (h1 : ∀ u ∈ news, u.oneCell' = true)
  (h63 : n + m ≤ maxLen) (hlen : (n + m) * bytes ≤ 140737488355328) (hB : B ≤ W.heap.size)
  (h : ∀ v' w', w'.ownsRow B e size v' (n + m) (l ++ news) → Grew W w' v v' → wpList Tryz.prog ops Q rest (a.put o.dst v') w') : wpList Tryz.prog ops Q (o :: rest) a W := by
 obtain ⟨i0, hi0, hb⟩ := Option.map_eq_some_iff.1 hi
 simp only [Prod.mk.injEq] at hb
 obtain ⟨hz0, hz1, hz2⟩ := hb
 cases ao with
 | none =>
  have h0 : news = [] := by
   cases news with
   | nil => rfl
   | cons u us =>
    obtain ⟨b, off, e, _⟩ := hc (by simp)
    cases e
  subst h0
  have hm : m = 0 := by
   rcases Nat.eq_zero_or_pos m with h | h
   ·exact h
   ·have := Nat.mul_pos h hsz
    rw [← hl] at this
    exact absurd this (by simp)
  subst hm
  obtain ⟨vo, vc, rfl, _⟩ := row_forms hown
  have hnc : n ≤ vc := by
   rcases hown.2 with ⟨e, h0⟩ | ⟨g, cap, cur, e, _, _, hnc, _⟩
   ·omega
   ·simp only [Value.slice.injEq] at e
    obtain ⟨_, _, rfl⟩ := e
    exact hnc
  refine wpList_plain hgd fun K hK => ?_
  have hr := run_append_none t o.type e i0 ht hi0 W vo n vc c hnc
  unfold Oper.wp execOp
  simp only [ho, resolve, invoke, builtin, Sem.run_bind, Sem.run_pure, Result.andThen_ok, List.map_toArray, List.map_cons, List.map_nil, hs, hx, hr]
  exact hK _ _ (h _ W (by simpa using hown) (Grew.refl _ _))
 | some ad =>
  refine wpList_append_grew W hgd s x t ho B e i0 z size bytes ht hi0 hz0 hz1 hz2 hzs hsz v n l hs hown ad m c news hx hl ?_ h1 h63 hlen hB (fun v' w' h1 h2 _ => h v' w' h1 h2)
  intro j u hj
  obtain ⟨b, off, e, hcc⟩ := hc (by intro e; rw [e] at hj; simp at hj)
  obtain rfl := Option.some.inj e
  rw [Addr.add_lit]
  exact hcc j u hj
end Go.Proofs.YthgcnmilaifkoaaGreatDoor

/- The document's SameTexts, of like lists. -/
namespace Go.Proofs.YthgcnmilaifkoaaGreatDoor
open Go.RowKit
set_option linter.unusedVariables false

end Go.Proofs.YthgcnmilaifkoaaGreatDoor

/- Layer 9 (records): the document's CopyService, SameService. -/
namespace Go.Proofs.YthgcnmilaifkoaaGreatDoor
open Go.RowKit
set_option linter.unusedVariables false

theorem ret_box1 {fn : Func} {R : Ending → World → Prop} {a : Act} {w : World} {g : Nat} {cs : Array Value} {T : TypeId} (hres : fn.results = #[.cell 2 T]) (ht : a.tmps.getD 2 undef = .pointer (some ⟨g, 0, none⟩)) (hd : a.defers = [])
  (hl : (loadVar T ⟨g, 0, none⟩).run Tryz.prog w = .ok (.agg cs) w) (hR : R (.returned (.agg cs)) w) : bodyPost Tryz.prog fn R .ret a w := by
 refine bodyPost_ret ?_ hd hR
 have ht' : a.tmps[2]?.getD undef = .pointer (some ⟨g, 0, none⟩) := by simpa using ht
 simp [results, hres, ht', asAddr, hl]
theorem row_set1 {w : World} {B g i : Nat} {e T : TypeId} {size : Nat} {v : Value} {n : Nat} {xs : List Value} {cs : Array Value} (hg : Blk w g cs T) (hT : T ≠ e) (h : w.ownsRow B e size v n xs) (u : Value) : (w.setCell ⟨g, i, none⟩ u).ownsRow B e size v n xs := by
 refine ⟨h.1, ?_⟩
 rcases h.2 with h1 | ⟨g', cap, cur, h1, h2, h3, h4⟩
 ·exact .inl h1
 ·refine .inr ⟨g', cap, cur, h1, h2, ?_, h4⟩
  rw [heap_setCell_other _ _ _ _ (fun e' => by
   have e' : g' = g := e'
   subst e'
   have hg' : w.heap[g']? = some (.cells cs T) := hg
   rw [h3] at hg'
   injection hg' with hg'
   injection hg' with _ hg'
   exact hT hg'.symm)]
  exact h3
theorem row_grewB {w w' : World} {b B : Nat} {e T : TypeId} {size : Nat} {v v' : Value} {n : Nat} {xs : List Value} {cs : Array Value} (hb : Blk w b cs T) (h : w.ownsRow B e size v n xs) (hg : Grew w w' v v') (hT : T ≠ e) : Blk w' b cs T := by
 refine (hg.grown.block _ hb.lt fun e' => ?_).trans hb
 rcases h.2 with ⟨rfl, _⟩ | ⟨g', cap, cur, rfl, h2, h3, h4⟩
 ·simp [Value.ownBlock] at e'
 ·simp [Value.ownBlock] at e'
  have hb' : w.heap[b]? = some (.cells cs T) := hb
  first | rw [← e'] at hb' | rw [e'] at hb'
  rw [h3] at hb'
  injection hb' with hb'
  injection hb' with _ hb'
  exact hT hb'.symm
/-- A copy is answered, its tags in memory of their own. -/
def CopA (w : World) (s : Sp) (e : Ending) (w' : World) : Prop := ∃ v, e = .returned (.agg (s.v v)) ∧ w'.ownsRow w.heap.size 9 1 v s.tags.length (s.tags.map Value.string) ∧ Below w.heap.size w w'

set_option maxRecDepth 100000 in
set_option maxHeartbeats 4000000 in
theorem copyService_calls (s : Sp) (ta : Option Addr) (tc : Nat) (w : World) (hl : s.tags.length ≤ 8796093022207) (hc : CellsAt w ta (s.tags.map Value.string)) :
  Calls Tryz.prog 40 #[.agg (s.v (.slice ta s.tags.length tc))] w fun e w' => CopA w s e w' := by
 have HC : Hid (CellsAt w ta (s.tags.map Value.string)) := hc
 clear hc
 obtain ⟨nd, id, nm, po, tg, mk, ch⟩ := s
 simp only [Sp.v] at *
 obtain ⟨tl, Htl⟩ : ∃ tl, Hid (tl = tg.length) := ⟨_, rfl⟩
 obtain ⟨L, HL⟩ : ∃ L, Hid (L = tg.map Value.string) := ⟨_, rfl⟩
 have HLl : Hid (L.length = tl * 1) := by rw [Hid, HL.out, Htl.out, List.length_map, Nat.mul_one]
 have HL1 : Hid (∀ u ∈ L, u.oneCell' = true) := fun u hu => by
  rw [HL.out] at hu
  obtain ⟨x, _, rfl⟩ := List.mem_map.1 hu
  rfl
 rw [← Htl.out] at hl ⊢
 rw [← HL.out] at HC
 have HFin : Hid (∀ v w', w'.ownsRow w.heap.size 9 1 v tl L → Below w.heap.size w w' → CopA w ⟨nd, id, nm, po, tg, mk, ch⟩ (.returned (.agg #[.string nd, .string id, .string nm, .int .i64 po, v, .int .u64 mk, .int .u64 ch])) w') := fun v w' h1 h2 => ⟨v, rfl, by rw [Htl.out, HL.out] at h1; exact h1, h2⟩
 clear HL
 obtain ⟨w2, Hw2⟩ : ∃ w2, Hid (w2 = ((w.alloc (.cells #[.string nd, .string id, .string nm, .int .i64 po, .slice ta tl tc, .int .u64 mk, .int .u64 ch] 41)).alloc (.cells #[.string ⟨#[]⟩, .string ⟨#[]⟩, .string ⟨#[]⟩, .int .i64 0, .slice none 0 0, .int .u64 0, .int .u64 0] 41)).alloc (.cells #[] 9)) := ⟨_, rfl⟩
 have hz : (w.alloc (.cells #[.string nd, .string id, .string nm, .int .i64 po, .slice ta tl tc, .int .u64 mk, .int .u64 ch] 41)).heap.size = w.heap.size + 1 := size_new _ _
 have hz2 : ((w.alloc (.cells #[.string nd, .string id, .string nm, .int .i64 po, .slice ta tl tc, .int .u64 mk, .int .u64 ch] 41)).alloc (.cells #[.string ⟨#[]⟩, .string ⟨#[]⟩, .string ⟨#[]⟩, .int .i64 0, .slice none 0 0, .int .u64 0, .int .u64 0] 41)).heap.size = w.heap.size + 1 + 1 := by rw [size_new, hz]
 have HX2 : Hid (Blk w2 w.heap.size #[.string nd, .string id, .string nm, .int .i64 po, .slice ta tl tc, .int .u64 mk, .int .u64 ch] 41) := by rw [Hw2.out]; exact ((Blk.new _ _ _).alloc _).alloc _
 have HR2 : Hid (Blk w2 (w.heap.size + 1) #[.string ⟨#[]⟩, .string ⟨#[]⟩, .string ⟨#[]⟩, .int .i64 0, .slice none 0 0, .int .u64 0, .int .u64 0] 41) := by rw [Hw2.out, ← hz]; exact (Blk.new _ _ _).alloc _
 have HB2 : Hid (Below w.heap.size w w2) := by rw [Hw2.out]; exact ((below_new w _).alloc (by rw [hz]; omega) _).alloc (by rw [hz2]; omega) _
 have HO2 : Hid (w2.ownsRow w.heap.size 9 1 (.slice (some ⟨w.heap.size + 1 + 1, 0, none⟩) 0 0) 0 []) := by
  rw [Hw2.out, ← hz2]
  exact World.ownsRow_lit (size := 1) _ #[] 0 (by rw [hz2]; omega) (by unfold maxLen; omega) rfl
 have HB2s : Hid (w.heap.size ≤ w2.heap.size) := HB2.out.size
 clear hz hz2
 go_enter Tryz.func40, Tryz.ntmps40
 go_wp2_with (at_builtin; rw [← Hw2.out]; refine append_src w2 rfl (.tmp 5) (.tmp 7) _ 9 _ 1 16 Tryz.underlying39 info_str rfl (by decide) rfl w.heap.size _ 0 [] rfl HO2.out ta tl tc L rfl HLl.out (HC.out.below HB2.out) HL1.out (by unfold maxLen; omega) (by omega) HB2s.out ?_)
 intro v3 w3 ho3 hg3
 have ho3 : w3.ownsRow w.heap.size 9 1 v3 tl L := by simpa using ho3
 obtain ⟨va, vc, rfl, -⟩ := row_forms ho3
 have HX3 : Hid (Blk w3 w.heap.size #[.string nd, .string id, .string nm, .int .i64 po, .slice ta tl tc, .int .u64 mk, .int .u64 ch] 41) := row_grewB HX2.out HO2.out hg3 (by decide)
 have HR3 : Hid (Blk w3 (w.heap.size + 1) #[.string ⟨#[]⟩, .string ⟨#[]⟩, .string ⟨#[]⟩, .int .i64 0, .slice none 0 0, .int .u64 0, .int .u64 0] 41) := row_grewB HR2.out HO2.out hg3 (by decide)
 have HB3 : Hid (Below w.heap.size w w3) := HB2.out.trans (hg3.toBelow HB2s.out fun j hj => (World.ownsRow.lt HO2.out j hj).1)
 have HO3 : Hid (w3.ownsRow w.heap.size 9 1 (.slice va tl vc) tl L) := ho3
 clear ho3 hg3 HX2 HR2 HB2 Hw2 HC HO2
 have b0 := HX3.out.cell 0 rfl
 have b1 := HX3.out.cell 1 rfl
 have b2 := HX3.out.cell 2 rfl
 have b3 := HX3.out.cell 3 rfl
 have b4 := HX3.out.cell 4 rfl
 have b5 := HX3.out.cell 5 rfl
 have b6 := HX3.out.cell 6 rfl
 have r0 := HR3.out.cell 0 rfl
 have r1 := HR3.out.cell 1 rfl
 have r2 := HR3.out.cell 2 rfl
 have r3 := HR3.out.cell 3 rfl
 have r4 := HR3.out.cell 4 rfl
 have r5 := HR3.out.cell 5 rfl
 have r6 := HR3.out.cell 6 rfl
 have zx := HX3.out.open
 have zr := HR3.out.open
 go_wp2
 have HRp : Hid (Blk (w3.setCell ⟨w.heap.size, 4, none⟩ (.slice va tl vc)) (w.heap.size + 1) #[.string ⟨#[]⟩, .string ⟨#[]⟩, .string ⟨#[]⟩, .int .i64 0, .slice none 0 0, .int .u64 0, .int .u64 0] 41) := by
  show (w3.setCell _ _).heap[_]? = _
  rw [heap_setCell_other _ _ _ _ (by show w.heap.size + 1 ≠ w.heap.size; omega)]
  exact HR3.out
 have HF : Hid (CopA w ⟨nd, id, nm, po, tg, mk, ch⟩ (.returned (.agg #[.string nd, .string id, .string nm, .int .i64 po, .slice va tl vc, .int .u64 mk, .int .u64 ch])) (putC (w3.setCell ⟨w.heap.size, 4, none⟩ (.slice va tl vc)) (w.heap.size + 1) 0 [.string nd, .string id, .string nm, .int .i64 po, .slice va tl vc, .int .u64 mk, .int .u64 ch])) := HFin.out _ _ (row_putC HRp.out (by decide) (row_set1 HX3.out (by decide) HO3.out _) [.string nd, .string id, .string nm, .int .i64 po, .slice va tl vc, .int .u64 mk, .int .u64 ch]) (putC_below [.string nd, .string id, .string nm, .int .i64 po, .slice va tl vc, .int .u64 mk, .int .u64 ch] (w3.setCell ⟨w.heap.size, 4, none⟩ (.slice va tl vc)) 0 (HB3.out.setCell (p := ⟨w.heap.size, 4, none⟩) (Nat.le_refl _) _) (by omega))
 have HLd : Hid ((loadVar 41 ⟨w.heap.size + 1, 0, none⟩).run Tryz.prog (putC (w3.setCell ⟨w.heap.size, 4, none⟩ (.slice va tl vc)) (w.heap.size + 1) 0 [.string nd, .string id, .string nm, .int .i64 po, .slice va tl vc, .int .u64 mk, .int .u64 ch]) = .ok (.agg #[.string nd, .string id, .string nm, .int .i64 po, .slice va tl vc, .int .u64 mk, .int .u64 ch]) (putC (w3.setCell ⟨w.heap.size, 4, none⟩ (.slice va tl vc)) (w.heap.size + 1) 0 [.string nd, .string id, .string nm, .int .i64 po, .slice va tl vc, .int .u64 mk, .int .u64 ch])) := load_svc (putC_all (l := [.string nd, .string id, .string nm, .int .i64 po, .slice va tl vc, .int .u64 mk, .int .u64 ch]) HRp.out rfl) rfl
 exact ret_box1 (g := w.heap.size + 1) (w := putC (w3.setCell ⟨w.heap.size, 4, none⟩ (.slice va tl vc)) (w.heap.size + 1) 0 [.string nd, .string id, .string nm, .int .i64 po, .slice va tl vc, .int .u64 mk, .int .u64 ch]) rfl rfl rfl HLd.out HF.out

end Go.Proofs.YthgcnmilaifkoaaGreatDoor
