import Derived.Test.YtbhhjnbomhkdmaaGreatDoorJPayOf
import Derived.Test.YtbhhjnbomhkdmaaGreatDoorJPay
import Derived.Deep.WholeRow
import Derived.Laws.CopyOwn
import Derived.Deep.MidRow
import Derived.Test.YtbhhjnbomhkdmaaGreatDoorRcLabel
import Derived.Laws.BytesArg
import Derived.Laws.IdiomStrings
import Derived.Test.YtbhhjnbomhkdmaaGreatDoorSGenB
import Derived.Deep.QuietTactic
import Derived.BigQuiet
import Derived.Test.YtbhhjnbomhkdmaaGreatDoorRcFixC
/- Layer 13 (journal): frames, plain: what payloadOf says of them, whole or with a byte changed. -/
namespace Go.Proofs.YtbhhjnbomhkdmaaGreatDoor
open Go.RowKit
set_option linter.unusedVariables false

end Go.Proofs.YtbhhjnbomhkdmaaGreatDoor

/- Layer 9 (records): an operation's 21 cells stored and read as one. -/
namespace Go.Proofs.YtbhhjnbomhkdmaaGreatDoor
open Go.RowKit

theorem wp_store_op {op : Oper} {a : Act} {w : World} {g : Nat} {K : Act → World → Prop} {Q : Exit → Act → World → Prop} {x y : Operand} {c c' : Array Value} (ho : op.op = .store 54 x y) (hg : g = w.heap.size) (hx : a.eval x = .pointer (some ⟨g, 0, none⟩)) (hy : a.eval y = .agg c') (hs : c.size = 21) (hs' : c'.size = 21) (h1 : c'.all (·.oneCell') = true)
  (h : K (a.put op.dst undef) (w.alloc (.cells c' 54))) : op.wp Tryz.prog a (w.alloc (.cells c 54)) K Q := by
 subst hg
 exact wp_store_row 54 x y ho w.heap.size c' hx hy 54 c (heap_alloc_last w _) (by rw [info_op, hs']) (by rw [hs, hs']) h1 (by rw [World.setRow_alloc_new]; exact h)
theorem wp_put_op {op : Oper} {a : Act} {w : World} {g : Nat} {K : Act → World → Prop} {Q : Exit → Act → World → Prop} {x y : Operand} {c c' : Array Value} (ho : op.op = .store 54 x y) (hb : Blk w g c 54) (hx : a.eval x = .pointer (some ⟨g, 0, none⟩)) (hy : a.eval y = .agg c') (hs : c.size = 21) (hs' : c'.size = 21) (h1 : c'.all (·.oneCell') = true)
  (h : K (a.put op.dst undef) (w.setRow g c')) : op.wp Tryz.prog a w K Q :=
 wp_store_row 54 x y ho g c' hx hy 54 c hb (by rw [info_op, hs']) (by rw [hs, hs']) h1 h
theorem wp_get_op {op : Oper} {a : Act} {w : World} {g : Nat} {K : Act → World → Prop} {Q : Exit → Act → World → Prop} {x : Operand} {c : Array Value} (ho : op.op = .load 54 x) (hb : Blk w g c 54) (hx : a.eval x = .pointer (some ⟨g, 0, none⟩)) (hs : c.size = 21)
  (h : K (a.put op.dst (.agg c)) w) : op.wp Tryz.prog a w K Q :=
 wp_load_row 54 x ho g hx 54 c (0, 0) _ hb Tryz.underlying54 rfl (by rw [info_op, hs]) h
theorem Blk.put {w : World} {g : Nat} {c : Array Value} {T : TypeId} (h : Blk w g c T) (i : Nat) (v : Value) : Blk (w.setCell ⟨g, i, none⟩ v) g (c.setIfInBounds i v) T := Lib.heap_setCell_same h v
theorem putC_mid {g : Nat} {T : TypeId} : ∀ (l : List Value) (w : World) (i : Nat) (cs : Array Value), Blk w g cs T → i + l.length ≤ cs.size → Blk (putC w g i l) g (cs.toList.take i ++ l ++ cs.toList.drop (i + l.length)).toArray T
 | [], w, i, cs, h, _ => by
  have e : (cs.toList.take i ++ [] ++ cs.toList.drop (i + ([] : List Value).length)).toArray = cs := by
   rw [List.append_nil, List.length_nil, Nat.add_zero, List.take_append_drop]
  rw [e]
  exact h
 | v :: l, w, i, cs, h, hl => by
  simp only [List.length_cons] at hl
  have h1 : Blk (w.setCell ⟨g, i, none⟩ v) g (cs.setIfInBounds i v) T := Lib.heap_setCell_same h v
  have h2 := putC_mid l (w.setCell ⟨g, i, none⟩ v) (i + 1) (cs.setIfInBounds i v) h1 (by rw [Array.size_setIfInBounds]; omega)
  have e : (cs.setIfInBounds i v).toList.take (i + 1) ++ l ++ (cs.setIfInBounds i v).toList.drop (i + 1 + l.length) = cs.toList.take i ++ v :: l ++ cs.toList.drop (i + (v :: l).length) := by
   rw [Array.toList_setIfInBounds, List.take_succ_eq_append_getElem (by rw [List.length_set, Array.length_toList]; omega), List.take_set_of_le (Nat.le_refl _), List.drop_set_of_lt (by omega), List.length_cons, show i + 1 + l.length = i + (l.length + 1) by omega]
   simp
  rw [e] at h2
  exact h2
theorem blk_setRow {w : World} {g : Nat} {c : Array Value} {T : TypeId} (h : Blk w g c T) (c' : Array Value) : Blk (w.setRow g c') g c' T := setRow_heap w g c c' T (0, 0) h
theorem setCells_putC (g : Nat) : ∀ (l : List Value) (o : Nat) (w : World), w.setCells g o l = putC w g o l
 | [], _, _ => rfl
 | _ :: l, o, _ => setCells_putC g l (o + 1) _
theorem wp_get_part {op : Oper} {a : Act} {w : World} {g o n : Nat} {K : Act → World → Prop} {Q : Exit → Act → World → Prop} {x : Operand} {T U : TypeId} {C : Array Value} {l : List Value} {d : TypeDesc} (ho : op.op = .load T x) (hb : Blk w g C U) (hx : a.eval x = .pointer (some ⟨g, o, none⟩)) (hl : (C.toList.drop o).take n = l)
  (hu : Tryz.prog.underlying T = some d) (hd : d.isRow = true) (hi : (Tryz.prog.info? T).map (·.size) = some l.length) (h : K (a.put op.dst (.agg l.toArray)) w) : op.wp Tryz.prog a w K Q :=
 wp_load_mid T x ho g o hx l d (fun j v hv => hb.cell (o + j) (by
  rw [← hl, List.getElem?_take] at hv
  split at hv
  ·rw [List.getElem?_drop, Array.getElem?_toList] at hv
   exact hv
  ·cases hv)) hu hd hi h
theorem wp_put_part {op : Oper} {a : Act} {w : World} {g o : Nat} {K : Act → World → Prop} {Q : Exit → Act → World → Prop} {x y : Operand} {T U : TypeId} {C : Array Value} {l : List Value} (ho : op.op = .store T x y) (hb : Blk w g C U) (hx : a.eval x = .pointer (some ⟨g, o, none⟩)) (hy : a.eval y = .agg l.toArray)
  (hl : o + l.length ≤ C.size) (hi : (Tryz.prog.info? T).map (·.size) = some l.length) (h1 : l.toArray.all (·.oneCell') = true) (h : K (a.put op.dst undef) (putC w g o l)) : op.wp Tryz.prog a w K Q := by
 refine wp_store_mid T x y ho g o l.toArray hx hy ?_ hi h1 ?_
 ·intro j hj
  have hj' : o + j < C.size := by
   have : j < l.length := hj
   omega
  exact ⟨by rw [hb.cell (o + j) (Array.getElem?_eq_getElem hj')]; rfl, hb.open _⟩
 ·rw [setCells_putC]
  exact h
theorem size_node : (Tryz.prog.info? 50).map (·.size) = some 4 := by kernel_rfl
theorem size_svc : (Tryz.prog.info? 48).map (·.size) = some 7 := by kernel_rfl
theorem size_chk : (Tryz.prog.info? 52).map (·.size) = some 7 := by kernel_rfl
theorem row_setRow {w : World} {B g : Nat} {e T : TypeId} {size : Nat} {v : Value} {n : Nat} {xs : List Value} {cs : Array Value} (hg : Blk w g cs T) (hT : T ≠ e) (h : w.ownsRow B e size v n xs) (c' : Array Value) : (w.setRow g c').ownsRow B e size v n xs := by
 refine ⟨h.1, ?_⟩
 rcases h.2 with h1 | ⟨g', cap, cur, h1, h2, h3, h4⟩
 ·exact .inl h1
 ·refine .inr ⟨g', cap, cur, h1, h2, ?_, h4⟩
  rw [setRow_other _ _ _ _ (fun e' => ?_)]
  ·exact h3
  ·subst e'
   have hg' : w.heap[g']? = some (.cells cs T) := hg
   rw [h3] at hg'
   injection hg' with hg'
   injection hg' with _ hg'
   exact hT hg'.symm
abbrev o21 (a : Int) (b c : ByteArray) (d e : Int) (f g h : ByteArray) (i : Int) (j : Value) (k l : Int) (m n o : ByteArray) (p : Int) (q : ByteArray) (r s : Int) (t : Bool) (u : Int) : Array Value := #[.int .i64 a, .string b, .string c, .int .u64 d, .int .u64 e, .string f, .string g, .string h, .int .i64 i, j, .int .u64 k, .int .u64 l, .string m, .string n, .string o, .int .i64 p, .string q, .int .u64 r, .int .u64 s, .bool t, .int .u64 u]
abbrev z21 : Array Value := #[.int .i64 0, .string ⟨#[]⟩, .string ⟨#[]⟩, .int .u64 0, .int .u64 0, .string ⟨#[]⟩, .string ⟨#[]⟩, .string ⟨#[]⟩, .int .i64 0, .slice none 0 0, .int .u64 0, .int .u64 0, .string ⟨#[]⟩, .string ⟨#[]⟩, .string ⟨#[]⟩, .int .i64 0, .string ⟨#[]⟩, .int .u64 0, .int .u64 0, .bool false, .int .u64 0]
end Go.Proofs.YtbhhjnbomhkdmaaGreatDoor

/- Layer 9 (records): an operation that is fixed stays as it is; great letters and small ones are fixed alike. Plain. -/
namespace Go.Proofs.YtbhhjnbomhkdmaaGreatDoor
open Go.RowKit

end Go.Proofs.YtbhhjnbomhkdmaaGreatDoor

/- Layer 9 (records): small facts of operations in memory that the laws use. -/
namespace Go.Proofs.YtbhhjnbomhkdmaaGreatDoor
open Go.RowKit
set_option linter.unusedVariables false

theorem svcF_lenN (s : Sp) : (svcF s).tags.length ≤ 1048576 := by
 by_cases h : svcE s = 0
 ·rw [svc_yes h]
  show (tagsB s.tags).length ≤ _
  rw [tagsB_len]
  have h1 := (svc_parts h).2.2.2
  by_cases hk : tagsOk s.tags
  ·rw [(tags_yes hk).2]
   refine Nat.le_trans (compact_le _) ?_
   rw [List.length_mergeSort, List.length_map]
   have := hk.1
   omega
  ·rw [(tags_no hk).1] at h1
   cases h1
 ·rw [svc_no h]
  decide
theorem oppF_lenN (o : Opp) : (oppF o).svc.tags.length ≤ 1048576 := by
 unfold oppF
 split
 ·unfold oppN
  split
  ·exact Nat.zero_le _
  split
  ·exact svcF_lenN _
  repeat' split
  all_goals exact Nat.zero_le _
 ·exact Nat.zero_le _
theorem v_oneN (o : Opp) (a : Option Addr) (n c : Nat) : (o.v (.slice a n c)).all (·.oneCell') = true := by simp [Opp.v, Value.oneCell']
theorem wpList_get_opN {ops : Array Oper} {rest : List Oper} {op : Oper} {a : Act} {w : World} {g : Nat} {Q : Exit → Act → World → Prop} {x : Operand} {c : Array Value} (hw : Region.wanted op (yielded ops a.tmps) = true) (ho : op.op = .load 54 x) (hb : Blk w g c 54) (hx : a.eval x = .pointer (some ⟨g, 0, none⟩)) (hs : c.size = 21)
  (h : wpList Tryz.prog ops Q rest (a.put op.dst (.agg c)) w) : wpList Tryz.prog ops Q (op :: rest) a w :=
 wpList_step fun K hK => by
  simp only [hw, if_true]
  exact wp_get_op ho hb hx hs (hK _ _ h)
theorem Blk.off {w : World} {b : Nat} {cs : Array Value} {T : TypeId} (h : Blk w b cs T) {a : Addr} (hne : b ≠ a.block) (u : Value) : Blk (w.setCell a u) b cs T := by
 show (w.setCell a u).heap[b]? = _
 rw [heap_setCell_other _ _ _ _ hne]
 exact h
theorem rowN_set1 {w : World} {B g i : Nat} {e T : TypeId} {size : Nat} {v : Value} {n : Nat} {xs : List Value} {cs : Array Value} (hg : Blk w g cs T) (hT : T ≠ e) (h : w.ownsRow B e size v n xs) (u : Value) : (w.setCell ⟨g, i, none⟩ u).ownsRow B e size v n xs := by
 refine ⟨h.1, ?_⟩
 rcases h.2 with h1 | ⟨g', cap, cur, h1, h2, h3, h4⟩
 ·exact .inl h1
 ·refine .inr ⟨g', cap, cur, h1, h2, ?_, h4⟩
  rw [heap_setCell_other _ _ _ _ (fun e' => by
   have e' : g' = g := e'
   subst e'
   have hg' : w.heap[g']? = some (.cells cs T) := hg
   rw [h3] at hg'
   injection hg' with hg'
   injection hg' with _ hg'
   exact hT hg'.symm)]
  exact h3
end Go.Proofs.YtbhhjnbomhkdmaaGreatDoor

/- Layer 13 (journal): the reader, plain and in memory: take, number, small, text. -/
namespace Go.Proofs.YtbhhjnbomhkdmaaGreatDoor
open Go.RowKit
set_option linter.unusedVariables false

/-- What is left, and whether something was odd. -/
abbrev Rd := List UInt8 × Bool
def tkB (k : Nat) (s : Rd) : List UInt8 := if k ≤ s.1.length then s.1.take k else []
def tkS (k : Nat) (s : Rd) : Rd := if k ≤ s.1.length then (s.1.drop k, s.2) else (s.1, true)
def smlB (s : Rd) : Nat := unbig (tkB 1 s)
def txB (s : Rd) : List UInt8 := tkB (smlB s) (tkS 1 s)
def txS (s : Rd) : Rd := tkS (smlB s) (tkS 1 s)
theorem tkB_len (k : Nat) (s : Rd) : (tkB k s).length ≤ k := by
 unfold tkB
 split
 ·rw [List.length_take]; omega
 ·exact Nat.zero_le _
theorem tkS_len (k : Nat) (s : Rd) : (tkS k s).1.length ≤ s.1.length := by
 unfold tkS
 split
 ·simp
 ·exact Nat.le_refl _
theorem unbig_le (l : List UInt8) (k : Nat) (h : l.length ≤ k) : unbig l < 256 ^ k := Nat.lt_of_lt_of_le (unbig_lt l.length l rfl) (Nat.pow_le_pow_right (by decide) h)
theorem smlB_lt (s : Rd) : smlB s < 256 := unbig_le _ 1 (tkB_len 1 s)

/-- The reader in memory. -/
structure RdAt (w : World) (rb : Nat) (s : Rd) : Prop where
 mem : ∃ b off cap, Blk w rb #[.slice (some ⟨b, off, none⟩) s.1.length cap, .bool s.2] 85 ∧ s.1.length ≤ cap ∧ BAt w (some ⟨b, off, none⟩) s.1 ∧ b < rb
theorem bytes_at {w w' : World} {b off : Nat} {l : List UInt8} (h : BAt w (some ⟨b, off, none⟩) l) (hb : w'.heap[b]? = w.heap[b]?) : BAt w' (some ⟨b, off, none⟩) l := by
 intro hne
 obtain ⟨b', off', ha, hc⟩ := h hne
 injection ha with ha
 injection ha with e1 e2
 subst e1 e2
 refine ⟨_, _, rfl, fun j v hj => ?_⟩
 have := hc j v hj
 simp only [World.cell?] at this ⊢
 rw [hb]
 exact this
theorem bytes_off {w : World} {rb b off : Nat} {l : List UInt8} (h : BAt w (some ⟨b, off, none⟩) l) (hb : b < rb) (i : Nat) (u : Value) : BAt (w.setCell ⟨rb, i, none⟩ u) (some ⟨b, off, none⟩) l :=
 bytes_at h (heap_setCell_other _ _ _ _ (by show b ≠ rb; omega))
/-- What lies no higher than the reader stays: the reader stays. -/
theorem RdAt.keep {w w' : World} {rb : Nat} {s : Rd} (h : RdAt w rb s) (hb : Below (rb + 1) w w') : RdAt w' rb s := by
 obtain ⟨b, off, cap, h1, h2, h3, h4⟩ := h.mem
 exact ⟨b, off, cap, (hb.block _ (by omega)).trans h1, h2, bytes_at h3 (hb.block _ (by omega)), h4⟩
theorem RdAt.below {w w' : World} {rb : Nat} {s : Rd} (h : RdAt w rb s) (hb : Below w.heap.size w w') : RdAt w' rb s := by
 obtain ⟨b, off, cap, h1, h2, h3, h4⟩ := h.mem
 exact ⟨b, off, cap, h1.below hb, h2, h3.below hb, h4⟩
theorem grown_set {w : World} {rb : Nat} {i : Nat} {u : Value} (h : rb < w.heap.size) : w.grownBy (w.setCell ⟨rb, i, none⟩ u) (some rb) :=
 ⟨rfl, rfl, rfl, by rw [World.size_setCell]; exact Nat.le_refl _, fun k hk hne => heap_setCell_other _ _ _ _ (fun e => hne (by rw [e]))⟩
theorem grown_below {w w' : World} {r : Option Nat} (hb : Below w.heap.size w w') : w.grownBy w' r := ⟨hb.os, hb.tape, hb.output, hb.size, fun k hk _ => hb.block k hk⟩
theorem grown_trans {a b c : World} {r : Nat} (h : a.grownBy b (some r)) (k : b.grownBy c (some r)) : a.grownBy c (some r) := grownBy_trans h k fun i hi => .inl hi
theorem RdAt.lt {w : World} {rb : Nat} {s : Rd} (h : RdAt w rb s) : rb < w.heap.size := by
 obtain ⟨b, off, cap, h1, _⟩ := h.mem
 exact h1.lt
theorem subTo_runI (b off n cap m : Nat) (h : m ≤ n) (hn : n ≤ cap) (W : World) : (Instr.slice 22 (.slice (some ⟨b, off, none⟩) n cap) none (some (.int .i64 (m : Int))) none).run Tryz.prog W = .ok (subV b off 0 m cap) W := by
 unfold subV
 have h1 : (m : Int) ≤ (n : Int) := by omega
 have h2 : (m : Int) ≤ (cap : Int) := by omega
 by_cases hc : cap = 0
 ·subst hc
  obtain rfl : n = 0 := by omega
  obtain rfl : m = 0 := by omega
  go_simp
 ·rw [if_neg hc]
  go_simp
theorem subFrom_runI (b off n cap m : Nat) (h : m ≤ n) (hn : n ≤ cap) (W : World) : (Instr.slice 22 (.slice (some ⟨b, off, none⟩) n cap) (some (.int .i64 (m : Int))) none none).run Tryz.prog W = .ok (subV b off m n cap) W := by
 unfold subV
 have h1 : (m : Int) ≤ (n : Int) := by omega
 have h2 : (n : Int) ≤ (cap : Int) := by omega
 by_cases hc : cap = m
 ·subst hc
  obtain rfl : n = cap := by omega
  go_simp
 ·rw [if_neg hc]
  go_simp
end Go.Proofs.YtbhhjnbomhkdmaaGreatDoor

/- Layer 13 (journal): take, number, small, text of the reader. -/
namespace Go.Proofs.YtbhhjnbomhkdmaaGreatDoor
open Go.RowKit
set_option linter.unusedVariables false

/-- What a read leaves: the reader behind it; nothing but the reader's block was written. -/
structure Rdd (w : World) (rb : Nat) (s : Rd) (w' : World) : Prop where
 at' : RdAt w' rb s
 grown : w.grownBy w' (some rb)
theorem Rdd.trans {a b c : World} {rb : Nat} {s t : Rd} (h : Rdd a rb s b) (k : Rdd b rb t c) : Rdd a rb t c := ⟨k.at', grown_trans h.grown k.grown⟩

def TakeA (w : World) (rb k : Nat) (s : Rd) (e : Ending) (w' : World) : Prop := ∃ ta tc, e = .returned (.slice ta (tkB k s).length tc) ∧ BAt w' ta (tkB k s) ∧ (ta = none ∧ tkB k s = [] ∨ ∃ x y, ta = some ⟨x, y, none⟩) ∧ Rdd w rb (tkS k s) w'

set_option maxRecDepth 100000 in
set_option maxHeartbeats 1000000 in
theorem take_calls (rb : Nat) (s : Rd) (k : Nat) (w : World) (hl : s.1.length ≤ 140737488355328) (hk : k ≤ 140737488355328) (h : RdAt w rb s) :
  Calls Tryz.prog 55 #[.pointer (some ⟨rb, 0, none⟩), .int .i64 (k : Int)] w fun e w' => TakeA w rb k s e w' := by
 obtain ⟨L, od⟩ := s
 obtain ⟨b, off, cap, hblk, hcap, hbt, hbrb⟩ := h.mem
 simp only at hl hblk hcap hbt ⊢
 have c0 : w.cell? ⟨rb, 0, none⟩ = some (.slice (some ⟨b, off, none⟩) L.length cap) := hblk.cell 0 rfl
 have c1 : w.cell? ⟨rb, 1, none⟩ = some (.bool od) := hblk.cell 1 rfl
 have f0 := hblk.open 0
 have f1 := hblk.open 1
 have hlt := hblk.lt
 by_cases hle : k ≤ L.length
 ·have e1 : tkB k (L, od) = L.take k := if_pos hle
  have e2 : tkS k (L, od) = (L.drop k, od) := if_pos hle
  have q : ¬ (L.length : Int) < (k : Int) := by omega
  have htl : (L.take k).length = k := by rw [List.length_take]; omega
  obtain ⟨ta, tc, e3, h3, -, hta⟩ := subV_formS hbt (lo := 0) (hi := k) (cap := cap) (by omega) hle hcap
  obtain ⟨ra, rc, e4, h4, hrc, hra⟩ := subV_formS hbt (lo := k) (hi := L.length) (cap := cap) hle (Nat.le_refl _) hcap
  have hrt := fun W => subTo_runI b off L.length cap k hle hcap W
  have hrr := fun W => subFrom_runI b off L.length cap k hle hcap W
  rw [e3] at hrt
  rw [e4] at hrr
  rw [Nat.sub_zero] at hrt h3
  rw [List.drop_zero] at h3
  rw [List.take_of_length_le (by simp)] at h4
  obtain ⟨ry, rfl⟩ := hra
  obtain ⟨ty, rfl⟩ := hta
  have HF : Hid (TakeA w rb k (L, od) (.returned (.slice (some ⟨b, ty, none⟩) k tc)) (w.setCell ⟨rb, 0, none⟩ (.slice (some ⟨b, ry, none⟩) (L.length - k) rc))) := by
   refine ⟨some ⟨b, ty, none⟩, tc, by rw [e1, htl], by rw [e1]; exact bytes_off h3 hbrb 0 _, .inr ⟨b, ty, rfl⟩, ?_⟩
   rw [e2]
   refine ⟨⟨b, ry, rc, ?_, by simpa using hrc, bytes_off h4 hbrb 0 _, hbrb⟩, grown_set hlt⟩
   have := hblk.put 0 (.slice (some ⟨b, ry, none⟩) (L.length - k) rc)
   simpa using this
  clear h3 h4 hbt e1 e2 e3 e4 htl
  obtain ⟨r, Hr⟩ : ∃ x, Hid (x = L.length - k) := ⟨_, rfl⟩
  obtain ⟨n, Hn⟩ : ∃ x, Hid (x = L.length) := ⟨_, rfl⟩
  rw [← Hr.out] at hrr HF hrc
  rw [← Hn.out] at hrr hrt c0 q hl hle
  clear hblk hcap h
  go_enter Tryz.func55, Tryz.ntmps55
  go_wp2
  go_ret
  exact HF.out
 ·have e1 : tkB k (L, od) = [] := if_neg hle
  have e2 : tkS k (L, od) = (L, true) := if_neg hle
  have q : (L.length : Int) < (k : Int) := by omega
  have HF : Hid (TakeA w rb k (L, od) (.returned (.slice none 0 0)) (w.setCell ⟨rb, 1, none⟩ (.bool true))) := by
   refine ⟨none, 0, by rw [e1]; rfl, by rw [e1]; exact BAt.nil _ _, .inl ⟨rfl, e1⟩, ?_⟩
   rw [e2]
   refine ⟨⟨b, off, cap, ?_, hcap, bytes_off hbt hbrb 1 _, hbrb⟩, grown_set hlt⟩
   have := hblk.put 1 (.bool true)
   simpa using this
  obtain ⟨n, Hn⟩ : ∃ x, Hid (x = L.length) := ⟨_, rfl⟩
  rw [← Hn.out] at c0 q hl hle
  clear hblk hcap h hbt e1 e2
  go_enter Tryz.func55, Tryz.ntmps55
  go_wp2
  go_ret
  exact HF.out

theorem conv_text {w : World} {ta : Option Addr} {tc : Nat} {B : List UInt8} (h : BAt w ta B) (hf : ta = none ∧ B = [] ∨ ∃ x y, ta = some ⟨x, y, none⟩) : (convert 22 9 (.slice ta B.length tc)).run Tryz.prog w = .ok (.string ⟨B.toArray⟩) w := by
 rcases hf with ⟨rfl, rfl⟩ | ⟨x, y, rfl⟩
 ·exact run_convert_bytes_nil w _ _ Tryz.underlying22 Tryz.underlying5 _ _ _ Tryz.underlying9
 ·refine run_convert_bytes_back w _ _ _ _ _ B Tryz.underlying22 Tryz.underlying5 Tryz.underlying9 ?_
  intro j hj
  obtain ⟨b, off, e, hc⟩ := h.at j hj
  injection e with e
  injection e with e1 e2
  subst e1 e2
  rw [Addr.add_mid]
  exact hc

def NumA (w : World) (rb k : Nat) (s : Rd) (e : Ending) (w' : World) : Prop := e = .returned (.int .u64 (unbig (tkB k s) : Nat)) ∧ Rdd w rb (tkS k s) w'
set_option maxRecDepth 100000 in
set_option maxHeartbeats 1000000 in
theorem number_calls (rb : Nat) (s : Rd) (k : Nat) (w : World) (hl : s.1.length ≤ 140737488355328) (hk : k ≤ 8) (h : RdAt w rb s) :
  Calls Tryz.prog 37 #[.pointer (some ⟨rb, 0, none⟩), .int .i64 (k : Int)] w fun e w' => NumA w rb k s e w' := by
 have HC : Hid (Calls Tryz.prog 55 #[.pointer (some ⟨rb, 0, none⟩), .int .i64 (k : Int)] w fun e w' => TakeA w rb k s e w') := take_calls rb s k w hl (by omega) h
 have HL : Hid ((tkB k s).length ≤ 8) := Nat.le_trans (tkB_len k s) hk
 clear h hl
 go_enter Tryz.func37, Tryz.ntmps37
 go_wp2_with fail
 refine HC.out.mono ?_
 rintro e w1 ⟨ta, tc, rfl, hb, -, hr⟩
 have HR : Hid (Calls Tryz.prog 36 #[.slice ta (tkB k s).length tc] w1 fun e w' => e = .returned (.int .u64 (unbig (tkB k s) : Nat)) ∧ w' = w1) := readNumber_calls ta tc (tkB k s) w1 HL.out hb
 have HRd : Hid (Rdd w rb (tkS k s) w1) := hr
 clear HC hb hr
 obtain ⟨n, Hn⟩ : ∃ x, Hid (x = (tkB k s).length) := ⟨_, rfl⟩
 rw [← Hn.out] at HR ⊢
 go_wp2_with fail
 refine HR.out.mono ?_
 rintro e w2 ⟨rfl, rfl⟩
 go_wp2
 go_ret
 exact ⟨rfl, HRd.out⟩
def SmlA (w : World) (rb : Nat) (s : Rd) (e : Ending) (w' : World) : Prop := e = .returned (.int .i64 (smlB s : Nat)) ∧ Rdd w rb (tkS 1 s) w'
set_option maxRecDepth 100000 in
set_option maxHeartbeats 1000000 in
theorem small_calls (rb : Nat) (s : Rd) (w : World) (hl : s.1.length ≤ 140737488355328) (h : RdAt w rb s) :
  Calls Tryz.prog 38 #[.pointer (some ⟨rb, 0, none⟩)] w fun e w' => SmlA w rb s e w' := by
 have HC : Hid (Calls Tryz.prog 37 #[.pointer (some ⟨rb, 0, none⟩), .int .i64 1] w fun e w' => NumA w rb 1 s e w') := number_calls rb s 1 w hl (by omega) h
 have hs := smlB_lt s
 obtain ⟨n, Hn⟩ : ∃ x, Hid (x = smlB s) := ⟨_, rfl⟩
 have HN : Hid (unbig (tkB 1 s) = n) := Hn.out.symm
 rw [← Hn.out] at hs
 go_enter Tryz.func38, Tryz.ntmps38
 go_wp2_with fail
 refine HC.out.mono ?_
 rintro e w1 ⟨rfl, hr⟩
 rw [HN.out]
 have HRd : Hid (Rdd w rb (tkS 1 s) w1) := hr
 clear hr HC
 go_wp2
 go_ret
 exact ⟨by rw [← Hn.out]; rfl, HRd.out⟩
def TxtA (w : World) (rb : Nat) (s : Rd) (e : Ending) (w' : World) : Prop := e = .returned (.string ⟨(txB s).toArray⟩) ∧ Rdd w rb (txS s) w'
set_option maxRecDepth 100000 in
set_option maxHeartbeats 1000000 in
theorem text_calls (rb : Nat) (s : Rd) (w : World) (hl : s.1.length ≤ 140737488355328) (h : RdAt w rb s) :
  Calls Tryz.prog 57 #[.pointer (some ⟨rb, 0, none⟩)] w fun e w' => TxtA w rb s e w' := by
 have HC : Hid (Calls Tryz.prog 38 #[.pointer (some ⟨rb, 0, none⟩)] w fun e w' => SmlA w rb s e w') := small_calls rb s w hl h
 have hs := smlB_lt s
 have HL : Hid ((tkS 1 s).1.length ≤ 140737488355328) := Nat.le_trans (tkS_len 1 s) hl
 clear h
 go_enter Tryz.func57, Tryz.ntmps57
 go_wp2_with fail
 refine HC.out.mono ?_
 rintro e w1 ⟨rfl, hr⟩
 have HT : Hid (Calls Tryz.prog 55 #[.pointer (some ⟨rb, 0, none⟩), .int .i64 (smlB s : Nat)] w1 fun e w' => TakeA w1 rb (smlB s) (tkS 1 s) e w') := take_calls rb (tkS 1 s) (smlB s) w1 HL.out (by omega) hr.at'
 have HR1 : Hid (Rdd w rb (tkS 1 s) w1) := hr
 clear hr HC
 obtain ⟨n, Hn⟩ : ∃ x, Hid (x = smlB s) := ⟨_, rfl⟩
 rw [← Hn.out] at hs HT ⊢
 go_wp2_with fail
 refine HT.out.mono ?_
 rintro e w2 ⟨ta, tc, rfl, hb, hf, hr⟩
 have HR2 : Hid (Rdd w rb (txS s) w2) := by
  unfold txS
  rw [← Hn.out]
  exact HR1.out.trans hr
 have HTX : Hid (txB s = tkB n (tkS 1 s)) := by show _ = _; unfold txB; rw [← Hn.out]
 obtain ⟨B, HB⟩ : ∃ x, Hid (x = tkB n (tkS 1 s)) := ⟨_, rfl⟩
 rw [← HB.out] at hb hf HTX ⊢
 clear hr HT HB HR1
 have hcv := conv_text (tc := tc) hb hf
 clear hb hf
 obtain ⟨m, Hm⟩ : ∃ x, Hid (x = B.length) := ⟨_, rfl⟩
 rw [← Hm.out] at hcv ⊢
 clear Hm
 go_wp2
 go_ret
 exact ⟨by rw [HTX.out]; rfl, HR2.out⟩

/-- n texts, one behind the other. -/
def txsP : Nat → Rd → List ByteArray × Rd
 | 0, s => ([], s)
 | n + 1, s => ((txsP n s).1 ++ [⟨(txB (txsP n s).2).toArray⟩], txS (txsP n s).2)
theorem txS_len (s : Rd) : (txS s).1.length ≤ s.1.length := Nat.le_trans (tkS_len _ _) (tkS_len _ _)
theorem txsP_len : ∀ (n : Nat) (s : Rd), (txsP n s).1.length = n ∧ (txsP n s).2.1.length ≤ s.1.length
 | 0, s => ⟨rfl, Nat.le_refl _⟩
 | n + 1, s => by
  have ih := txsP_len n s
  simp only [txsP, List.length_append, List.length_cons, List.length_nil]
  exact ⟨by omega, Nat.le_trans (txS_len _) ih.2⟩
def textsP (s : Rd) : List ByteArray × Rd := txsP (smlB s) (tkS 1 s)
def TxsA (w : World) (rb : Nat) (s : Rd) (e : Ending) (w' : World) : Prop := ∃ v, e = .returned v ∧ w'.ownsRow w.heap.size 9 1 v (textsP s).1.length ((textsP s).1.map Value.string) ∧ Rdd w rb (textsP s).2 w'
theorem row_grown {w w' : World} {rb : Nat} {B : Nat} {e T : TypeId} {size : Nat} {v : Value} {n : Nat} {l : List Value} {cs : Array Value} (h : w.ownsRow B e size v n l) (hb : Blk w rb cs T) (hT : T ≠ e) (hg : w.grownBy w' (some rb)) : w'.ownsRow B e size v n l :=
 World.ownsRow.kept (row := some rb) h hg (by
  have h2 : v.ownBlock ≠ some rb := row_ne h hb (Ne.symm hT)
  cases hv : v.ownBlock with
  | none => simp
  | some k => rw [hv] at h2; simpa using h2)
theorem RdAt.blk {w : World} {rb : Nat} {s : Rd} (h : RdAt w rb s) : ∃ cs, Blk w rb cs 85 := by
 obtain ⟨b, off, cap, h1, _⟩ := h.mem
 exact ⟨_, h1⟩
/-- A row of the call's own grows beside the reader. -/
theorem Rdd.grow {w w' w'' : World} {rb : Nat} {s : Rd} {B : Nat} {e : TypeId} {size : Nat} {v v' : Value} {n : Nat} {l : List Value} (h : Rdd w rb s w') (hr : rb < w.heap.size) (ho : w'.ownsRow B e size v n l) (hB : w.heap.size ≤ B) (hg : Grew w' w'' v v') : Rdd w rb s w'' :=
 ⟨h.at'.keep (hg.toBelow (by have := h.grown.size; omega) fun k hk => by have := (World.ownsRow.lt ho k hk).1; omega), grownBy_trans h.grown hg.grown fun i hi => .inr (Nat.le_trans hB (World.ownsRow.lt ho i hi).1)⟩
theorem Rdd.below {w w' w'' : World} {rb : Nat} {s : Rd} (h : Rdd w rb s w') (hb : Below w'.heap.size w' w'') : Rdd w rb s w'' := ⟨h.at'.below hb, grownBy_trans h.grown (grown_below (r := some rb) hb) fun i hi => .inl hi⟩
end Go.Proofs.YtbhhjnbomhkdmaaGreatDoor

/- append of a slice that lies anywhere. -/
namespace Go.Proofs.YtbhhjnbomhkdmaaGreatDoor
open Go.RowKit
set_option linter.unusedVariables false

theorem run_append_none (t ty e : TypeId) (i : TypeInfo) (ht : Tryz.prog.underlying t = some (.slice e)) (hi : Tryz.prog.info? e = some i) (w : World) (base : Option Addr) (n cap c : Nat) (h : n ≤ cap) :
  (Builtin.append_ #[t, t] ty #[.slice base n cap, .slice none 0 c]).run Tryz.prog w = .ok (.slice base n cap) w := by
 cases base <;> simp [Builtin.append_, run_underlying ht, sizeOf, typeInfo, hi, Builtin.lenOf, h, Builtin.firstCells, storeCells]
/-- append(s, x...), x anywhere, or none. -/
theorem append_src (W : World) {ops : Array Oper} {rest : List Oper} {o : Oper} {a : Act} {Q : Exit → Act → World → Prop} (hgd : o.guard = none) (s x : Operand) (t e : TypeId) (z : Value) (size bytes : Nat)
  (ht : Tryz.prog.underlying t = some (.slice e)) (hi : (Tryz.prog.info? e).map (fun i => (i.zero, i.size, i.bytes)) = some (some z, size, bytes)) (hzs : z.cells.size = size) (hsz : 0 < size)
  (ho : o.op = .call { callee := .builtin .append, args := #[s, x], argTypes := #[t, t] })
  (B : Nat) (v : Value) (n : Nat) (l : List Value) (hs : a.eval s = v) (hown : W.ownsRow B e size v n l) (ao : Option Addr) (m c : Nat) (news : List Value) (hx : a.eval x = .slice ao m c) (hl : news.length = m * size) (hc : CellsAt W ao news) (h1 : ∀ u ∈ news, u.oneCell' = true)
  (h63 : n + m ≤ maxLen) (hlen : (n + m) * bytes ≤ 140737488355328) (hB : B ≤ W.heap.size)
  (h : ∀ v' w', w'.ownsRow B e size v' (n + m) (l ++ news) → Grew W w' v v' → wpList Tryz.prog ops Q rest (a.put o.dst v') w') : wpList Tryz.prog ops Q (o :: rest) a W := by
 obtain ⟨i0, hi0, hb⟩ := Option.map_eq_some_iff.1 hi
 simp only [Prod.mk.injEq] at hb
 obtain ⟨hz0, hz1, hz2⟩ := hb
 cases ao with
 | none =>
  have h0 : news = [] := by
   cases news with
   | nil => rfl
   | cons u us =>
    obtain ⟨b, off, e, _⟩ := hc (by simp)
    cases e
  subst h0
  have hm : m = 0 := by
   rcases Nat.eq_zero_or_pos m with h | h
   ·exact h
   ·have := Nat.mul_pos h hsz
    rw [← hl] at this
    exact absurd this (by simp)
  subst hm
  obtain ⟨vo, vc, rfl, _⟩ := row_forms hown
  have hnc : n ≤ vc := by
   rcases hown.2 with ⟨e, h0⟩ | ⟨g, cap, cur, e, _, _, hnc, _⟩
   ·omega
   ·simp only [Value.slice.injEq] at e
    obtain ⟨_, _, rfl⟩ := e
    exact hnc
  refine wpList_plain hgd fun K hK => ?_
  have hr := run_append_none t o.type e i0 ht hi0 W vo n vc c hnc
  unfold Oper.wp execOp
  simp only [ho, resolve, invoke, builtin, Sem.run_bind, Sem.run_pure, Result.andThen_ok, List.map_toArray, List.map_cons, List.map_nil, hs, hx, hr]
  exact hK _ _ (h _ W (by simpa using hown) (Grew.refl _ _))
 | some ad =>
  refine wpList_append_grew W hgd s x t ho B e i0 z size bytes ht hi0 hz0 hz1 hz2 hzs hsz v n l hs hown ad m c news hx hl ?_ h1 h63 hlen hB (fun v' w' h1 h2 _ => h v' w' h1 h2)
  intro j u hj
  obtain ⟨b, off, e, hcc⟩ := hc (by intro e; rw [e] at hj; simp at hj)
  obtain rfl := Option.some.inj e
  rw [Addr.add_lit]
  exact hcc j u hj
end Go.Proofs.YtbhhjnbomhkdmaaGreatDoor

/- Layer 13 (journal): texts and cas of the reader. -/
namespace Go.Proofs.YtbhhjnbomhkdmaaGreatDoor
open Go.RowKit
set_option linter.unusedVariables false

set_option maxRecDepth 100000 in
set_option maxHeartbeats 2000000 in
theorem texts_calls (rb : Nat) (s : Rd) (w : World) (hl : s.1.length ≤ 140737488355328) (h : RdAt w rb s) :
  Calls Tryz.prog 58 #[.pointer (some ⟨rb, 0, none⟩)] w fun e w' => TxsA w rb s e w' := by
 have HC : Hid (Calls Tryz.prog 38 #[.pointer (some ⟨rb, 0, none⟩)] w fun e w' => SmlA w rb s e w') := small_calls rb s w hl h
 have hs := smlB_lt s
 have hrb := h.lt
 have HL : Hid ((tkS 1 s).1.length ≤ 140737488355328) := Nat.le_trans (tkS_len 1 s) hl
 clear h
 go_enter Tryz.func58, Tryz.ntmps58
 go_wp2_with fail
 refine HC.out.mono ?_
 rintro e w1 ⟨rfl, hr⟩
 have HR1 : Hid (Rdd w rb (tkS 1 s) w1) := hr
 clear hr HC
 obtain ⟨n, Hn⟩ : ∃ x, Hid (x = smlB s) := ⟨_, rfl⟩
 rw [← Hn.out] at hs ⊢
 obtain ⟨s1, Hs1⟩ : ∃ x, Hid (x = tkS 1 s) := ⟨_, rfl⟩
 rw [← Hs1.out] at HL HR1
 go_wp2_with fail
 go_loopw [3, 6] (fun x i wr => ∃ k : Nat, k ≤ n ∧ i = .int .i64 k ∧ Hid (wr.ownsRow w.heap.size 9 1 x k ((txsP k s1).1.map Value.string)) ∧ Hid (Rdd w rb (txsP k s1).2 wr)) (fun _ i _ => n - (intOf i).toNat)
 case atStart => exact ⟨0, Nat.zero_le _, rfl, World.ownsRow_nil _ _ _ _, HR1⟩
 case round =>
  obtain ⟨k, hk, rfl, HO, HR⟩ := hrel
  clear HR1
  by_cases hlt : k < n
  ·have HTC : Hid (Calls Tryz.prog 57 #[.pointer (some ⟨rb, 0, none⟩)] wr fun e w' => TxtA wr rb (txsP k s1).2 e w') := text_calls rb (txsP k s1).2 wr (Nat.le_trans (txsP_len k s1).2 HL.out) HR.out.at'
   go_wp2_with fail
   refine HTC.out.mono ?_
   rintro e w2 ⟨rfl, hr2⟩
   have HR2 : Hid (Rdd w rb (txsP (k + 1) s1).2 w2) := HR.out.trans hr2
   obtain ⟨cs0, hbk⟩ := HR.out.at'.blk
   have ho2 := row_grown HO.out hbk (by decide) hr2.grown
   have HO2 : Hid _ := ho2
   clear ho2 hbk
   obtain ⟨tx, Htx⟩ : ∃ x : ByteArray, Hid (x = ⟨(txB (txsP k s1).2).toArray⟩) := ⟨_, rfl⟩
   rw [← Htx.out]
   have HMP : Hid ((txsP (k + 1) s1).1.map Value.string = (txsP k s1).1.map Value.string ++ [.string tx]) := by
    show _ = _
    rw [Htx.out]
    simp [txsP]
   clear hr2 HTC HO HR Htx
   have hsz : w.heap.size ≤ w2.heap.size := HR2.out.grown.size
   have HO2a : Hid (∀ u, w2.ownsRow w.heap.size 9 1 u k ((txsP k s1).1.map Value.string) → (w2.alloc (.cells #[.string tx] 9)).ownsRow w.heap.size 9 1 u k ((txsP k s1).1.map Value.string)) := fun u hu => row_below hu (below_new w2 _)
   have HCA : Hid (CellsAt (w2.alloc (.cells #[.string tx] 9)) (some ⟨w2.heap.size, 0, none⟩) [.string tx]) := by
    intro _
    refine ⟨w2.heap.size, 0, rfl, fun j u hj => ?_⟩
    rw [Nat.zero_add, World.cell?_alloc_mark]
    simpa using hj
   go_wp2_with (at_builtin; refine append_src _ rfl (.tmp 8) (.tmp 11) 46 9 _ 1 16 Tryz.underlying46 info_str rfl (by decide) rfl w.heap.size _ k _ rfl (HO2a.out _ HO2.out) (some ⟨w2.heap.size, 0, none⟩) 1 1 [.string tx] rfl rfl HCA.out (by intro u hu; simp at hu; subst hu; rfl) (by unfold maxLen; omega) (by omega) (by simp; omega) ?_)
   intro v3 w3 ho3 hg3
   have hg3' := hg3.ofAlloc
   have HR3 : Hid (Rdd w rb (txsP (k + 1) s1).2 w3) := HR2.out.grow hrb HO2.out (Nat.le_refl _) hg3'
   have HO3 : Hid (w3.ownsRow w.heap.size 9 1 v3 (k + 1) ((txsP (k + 1) s1).1.map Value.string)) := by rw [HMP.out]; exact ho3
   clear ho3 hg3 hg3' HO2 HO2a HCA HMP HR2 hsz
   go_wp2
   go_roundw
   case rel => exact ⟨k + 1, by omega, by go_num, HO3, HR3⟩
   case measure => simp [intOf]; omega
  ·obtain rfl : k = n := by omega
   have HF : Hid (textsP s = txsP k s1) := by show _ = _; unfold textsP; rw [← Hn.out, ← Hs1.out]
   have hlen := (txsP_len k s1).1
   have HF2 : Hid (∀ u, wr.ownsRow w.heap.size 9 1 u k ((txsP k s1).1.map Value.string) → TxsA w rb s (.returned u) wr) := fun u hu => ⟨u, rfl, by rw [HF.out, hlen]; exact hu, by rw [HF.out]; exact HR.out⟩
   clear hlen
   go_wp2
   go_ret
   exact HF2.out _ HO.out

def casP (s : Rd) : (Bool × Nat) × Rd := if smlB s = 0 then ((false, 0), tkS 1 s) else if smlB s = 1 then ((true, unbig (tkB 8 (tkS 1 s))), tkS 8 (tkS 1 s)) else ((false, 0), ((tkS 1 s).1, true))
def CasA (w : World) (rb : Nat) (s : Rd) (e : Ending) (w' : World) : Prop := e = .returned (.tuple #[.bool (casP s).1.1, .int .u64 ((casP s).1.2 : Nat)]) ∧ Rdd w rb (casP s).2 w'
set_option maxRecDepth 100000 in
set_option maxHeartbeats 2000000 in
theorem cas_calls (rb : Nat) (s : Rd) (w : World) (hl : s.1.length ≤ 140737488355328) (h : RdAt w rb s) :
  Calls Tryz.prog 56 #[.pointer (some ⟨rb, 0, none⟩)] w fun e w' => CasA w rb s e w' := by
 have HC : Hid (Calls Tryz.prog 38 #[.pointer (some ⟨rb, 0, none⟩)] w fun e w' => SmlA w rb s e w') := small_calls rb s w hl h
 have hs := smlB_lt s
 have HL : Hid ((tkS 1 s).1.length ≤ 140737488355328) := Nat.le_trans (tkS_len 1 s) hl
 clear h
 obtain ⟨n, Hn⟩ : ∃ x, Hid (x = smlB s) := ⟨_, rfl⟩
 by_cases h0 : n = 0
 ·have HE : Hid (casP s = ((false, 0), tkS 1 s)) := by show _ = _; unfold casP; rw [← Hn.out, if_pos h0]
  go_enter Tryz.func56, Tryz.ntmps56
  go_wp2_with fail
  refine HC.out.mono ?_
  rintro e w1 ⟨rfl, hr⟩
  rw [← Hn.out, h0]
  have HR1 : Hid (Rdd w rb (tkS 1 s) w1) := hr
  clear hr HC
  go_wp2
  go_ret2
  exact ⟨by rw [HE.out]; rfl, by rw [HE.out]; exact HR1.out⟩
 by_cases h1 : n = 1
 ·have HE : Hid (casP s = ((true, unbig (tkB 8 (tkS 1 s))), tkS 8 (tkS 1 s))) := by show _ = _; unfold casP; rw [← Hn.out, if_neg h0, if_pos h1]
  go_enter Tryz.func56, Tryz.ntmps56
  go_wp2_with fail
  refine HC.out.mono ?_
  rintro e w1 ⟨rfl, hr⟩
  rw [← Hn.out, h1]
  have HR1 : Hid (Rdd w rb (tkS 1 s) w1) := hr
  have HN : Hid (Calls Tryz.prog 37 #[.pointer (some ⟨rb, 0, none⟩), .int .i64 8] w1 fun e w' => NumA w1 rb 8 (tkS 1 s) e w') := number_calls rb (tkS 1 s) 8 w1 HL.out (by omega) hr.at'
  clear hr HC
  go_wp2_with fail
  refine HN.out.mono ?_
  rintro e w2 ⟨rfl, hr⟩
  have HR2 : Hid (Rdd w rb (tkS 8 (tkS 1 s)) w2) := HR1.out.trans hr
  clear hr HN HR1
  obtain ⟨u, Hu⟩ : ∃ x, Hid (x = unbig (tkB 8 (tkS 1 s))) := ⟨_, rfl⟩
  rw [← Hu.out] at HE ⊢
  go_wp2
  go_ret2
  exact ⟨by rw [HE.out]; rfl, by rw [HE.out]; exact HR2.out⟩
 have HE : Hid (casP s = ((false, 0), ((tkS 1 s).1, true))) := by show _ = _; unfold casP; rw [← Hn.out, if_neg h0, if_neg h1]
 go_enter Tryz.func56, Tryz.ntmps56
 go_wp2_with fail
 refine HC.out.mono ?_
 rintro e w1 ⟨rfl, hr⟩
 rw [← Hn.out]
 have q0 : ((n : Int) == 0) = false := by simp; omega
 have q1 : ((n : Int) == 1) = false := by simp; omega
 obtain ⟨b, off, cap, hb1, hb2, hb3, hb4⟩ := hr.at'.mem
 have c1 : w1.cell? ⟨rb, 1, none⟩ = some (.bool (tkS 1 s).2) := hb1.cell 1 rfl
 have f1 := hb1.open 1
 have HR2 : Hid (Rdd w rb ((tkS 1 s).1, true) (w1.setCell ⟨rb, 1, none⟩ (.bool true))) := by
  refine ⟨⟨b, off, cap, ?_, hb2, bytes_off hb3 hb4 1 _, hb4⟩, grown_trans hr.grown (grown_set hb1.lt)⟩
  have := hb1.put 1 (.bool true)
  simpa using this
 clear hr HC hb1 hb2 hb3 h0 h1
 go_wp2
 go_ret2
 exact ⟨by rw [HE.out]; rfl, by rw [HE.out]; exact HR2.out⟩
end Go.Proofs.YtbhhjnbomhkdmaaGreatDoor

/- The document's SameTexts, of like lists. -/
namespace Go.Proofs.YtbhhjnbomhkdmaaGreatDoor
open Go.RowKit
set_option linter.unusedVariables false

end Go.Proofs.YtbhhjnbomhkdmaaGreatDoor

/- Layer 9 (records): the document's CopyService, SameService. -/
namespace Go.Proofs.YtbhhjnbomhkdmaaGreatDoor
open Go.RowKit
set_option linter.unusedVariables false

theorem ret_box1 {fn : Func} {R : Ending → World → Prop} {a : Act} {w : World} {g : Nat} {cs : Array Value} {T : TypeId} (hres : fn.results = #[.cell 2 T]) (ht : a.tmps.getD 2 undef = .pointer (some ⟨g, 0, none⟩)) (hd : a.defers = [])
  (hl : (loadVar T ⟨g, 0, none⟩).run Tryz.prog w = .ok (.agg cs) w) (hR : R (.returned (.agg cs)) w) : bodyPost Tryz.prog fn R .ret a w := by
 refine bodyPost_ret ?_ hd hR
 have ht' : a.tmps[2]?.getD undef = .pointer (some ⟨g, 0, none⟩) := by simpa using ht
 simp [results, hres, ht', asAddr, hl]
theorem row_grewB {w w' : World} {b B : Nat} {e T : TypeId} {size : Nat} {v v' : Value} {n : Nat} {xs : List Value} {cs : Array Value} (hb : Blk w b cs T) (h : w.ownsRow B e size v n xs) (hg : Grew w w' v v') (hT : T ≠ e) : Blk w' b cs T := by
 refine (hg.grown.block _ hb.lt fun e' => ?_).trans hb
 rcases h.2 with ⟨rfl, _⟩ | ⟨g', cap, cur, rfl, h2, h3, h4⟩
 ·simp [Value.ownBlock] at e'
 ·simp [Value.ownBlock] at e'
  have hb' : w.heap[b]? = some (.cells cs T) := hb
  first | rw [← e'] at hb' | rw [e'] at hb'
  rw [h3] at hb'
  injection hb' with hb'
  injection hb' with _ hb'
  exact hT hb'.symm
end Go.Proofs.YtbhhjnbomhkdmaaGreatDoor
