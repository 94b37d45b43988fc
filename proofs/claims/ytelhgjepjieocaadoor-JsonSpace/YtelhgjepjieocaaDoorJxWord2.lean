import Derived.Test.YtelhgjepjieocaaDoorSGenB
import Derived.Laws.ResultCell
import Derived.Laws.Rows
import Derived.Lib.BufferMore
import Derived.Test.YtelhgjepjieocaaDoorJxSkip
import Derived.Test.YtelhgjepjieocaaDoorShelf
/- Boxes: a value's cells in a block of their own; a result that lies in one. -/
namespace Go.Proofs.YtelhgjepjieocaaDoor
open Go.RowKit
set_option linter.unusedVariables false

def Blk (w : World) (b : Nat) (cs : Array Value) (T : TypeId) : Prop := w.heap[b]? = some (.cells cs T)
theorem Blk.lt {w : World} {b : Nat} {cs : Array Value} {T : TypeId} (h : Blk w b cs T) : b < w.heap.size := (Array.getElem?_eq_some_iff.1 h).1
theorem Blk.below {w w' : World} {b : Nat} {cs : Array Value} {T : TypeId} (h : Blk w b cs T) (hb : Below w.heap.size w w') : Blk w' b cs T := (hb.block _ h.lt).trans h
theorem Blk.alloc {w : World} {b : Nat} {cs : Array Value} {T : TypeId} (h : Blk w b cs T) (o : Obj) : Blk (w.alloc o) b cs T := h.below ((Below.refl _ _).alloc (Nat.le_refl _) _)
theorem Blk.cell {w : World} {b : Nat} {cs : Array Value} {T : TypeId} (h : Blk w b cs T) (i : Nat) {v : Value} (hv : cs[i]? = some v) : w.cell? ⟨b, i, none⟩ = some v := (cell_of_row _ _ _ _ _ _ h).trans hv
theorem Blk.open {w : World} {b : Nat} {cs : Array Value} {T : TypeId} (h : Blk w b cs T) (i : Nat) : w.frozen? ⟨b, i, none⟩ = false := by
  have h' : w.heap[b]? = some (.cells cs T) := h
  simp [World.frozen?, h']
theorem Blk.new (w : World) (cs : Array Value) (T : TypeId) : Blk (w.alloc (.cells cs T)) w.heap.size cs T := by
  show (w.heap.push _)[w.heap.size]? = _
  rw [Array.getElem?_push, if_pos rfl]
theorem size_new (w : World) (o : Obj) : (w.alloc o).heap.size = w.heap.size + 1 := by
  show (w.heap.push _).size = _
  rw [Array.size_push]
theorem below_new (w : World) (o : Obj) : Below w.heap.size w (w.alloc o) := (Below.refl _ _).alloc (Nat.le_refl _) _
theorem below_undrew {w w' : World} (h : Below w.drew.heap.size w.drew w') : Below w.heap.size w w' := ⟨h.os, h.tape, h.output, h.size, h.block⟩
/-- Values stored one behind the other. -/
def putC (w : World) (g : Nat) : Nat → List Value → World
  | _, [] => w
  | i, v :: l => putC (w.setCell ⟨g, i, none⟩ v) g (i + 1) l
theorem putC_row {g : Nat} {T : TypeId} : ∀ (l : List Value) (w : World) (i : Nat) (cs : Array Value), Blk w g cs T → i + l.length = cs.size → Blk (putC w g i l) g (cs.toList.take i ++ l).toArray T
  | [], w, i, cs, h, hl => by
    have e : (cs.toList.take i ++ []).toArray = cs := by
      rw [List.append_nil, List.take_of_length_le (by rw [Array.length_toList]; simp at hl; omega)]
    rw [e]
    exact h
  | v :: l, w, i, cs, h, hl => by
    simp only [List.length_cons] at hl
    have h1 : Blk (w.setCell ⟨g, i, none⟩ v) g (cs.setIfInBounds i v) T := Lib.heap_setCell_same h v
    have h2 := putC_row l (w.setCell ⟨g, i, none⟩ v) (i + 1) (cs.setIfInBounds i v) h1 (by rw [Array.size_setIfInBounds]; omega)
    have e : (cs.setIfInBounds i v).toList.take (i + 1) ++ l = cs.toList.take i ++ v :: l := by
      rw [Array.toList_setIfInBounds, List.take_succ_eq_append_getElem (by rw [List.length_set, Array.length_toList]; omega), List.take_set_of_le (Nat.le_refl _)]
      simp
    rw [e] at h2
    exact h2
theorem putC_all {g : Nat} {T : TypeId} {l : List Value} {w : World} {cs : Array Value} (h : Blk w g cs T) (hl : l.length = cs.size) : Blk (putC w g 0 l) g l.toArray T := by
  have := putC_row l w 0 cs h (by omega)
  simpa using this
theorem putC_below {B g : Nat} {a : World} : ∀ (l : List Value) (w : World) (i : Nat), Below B a w → B ≤ g → Below B a (putC w g i l)
  | [], _, _, h, _ => h
  | v :: l, w, i, h, hg => putC_below l _ _ (h.setCell (p := ⟨g, i, none⟩) hg v) hg
theorem putC_other {g b : Nat} {T : TypeId} {cs : Array Value} (hne : b ≠ g) : ∀ (l : List Value) (w : World) (i : Nat), Blk w b cs T → Blk (putC w g i l) b cs T
  | [], _, _, h => h
  | v :: l, w, i, h => putC_other hne l _ _ (by
    show (w.setCell _ _).heap[b]? = _
    rw [heap_setCell_other _ _ _ _ (by exact hne)]
    exact h)
theorem putC_cell {g b i : Nat} {v : Value} (hne : b ≠ g) : ∀ (l : List Value) (w : World) (k : Nat), w.cell? ⟨b, i, none⟩ = some v → (putC w g k l).cell? ⟨b, i, none⟩ = some v
  | [], _, _, h => h
  | x :: l, w, k, h => putC_cell hne l _ _ (by rw [World.cell?_setCell_other _ _ _ _ (fun e => by injection e with e; exact hne e.symm)]; exact h)
theorem putC_size {g : Nat} : ∀ (l : List Value) (w : World) (i : Nat), (putC w g i l).heap.size = w.heap.size
  | [], _, _ => rfl
  | v :: l, w, i => (putC_size l _ _).trans (World.size_setCell ..)
/-- The end of a function whose first result lies in a box, the second in a slot. -/
theorem ret_box {fn : Func} {R : Ending → World → Prop} {a : Act} {w : World} {g : Nat} {cs : Array Value} {e : Value} {T : TypeId} (hres : fn.results = #[.cell 2 T, .tmp 3]) (ht : a.tmps.getD 2 undef = .pointer (some ⟨g, 0, none⟩)) (h3 : a.tmps.getD 3 undef = e) (hd : a.defers = [])
    (hl : (loadVar T ⟨g, 0, none⟩).run Tryd.prog w = .ok (.agg cs) w) (hR : R (.returned (.tuple #[.agg cs, e])) w) : bodyPost Tryd.prog fn R .ret a w := by
  refine bodyPost_ret ((results_cell_tmp hres _ _ _).trans ?_) hd hR
  rw [ht, h3]
  simp only [asAddr, Sem.run_pure, Result.andThen, hl]
theorem ret_agg {x y : Array Value} {e f : Int} (h : x = y) (h2 : e = f) : Ending.returned (.tuple #[.agg x, .int .i64 e]) = .returned (.tuple #[.agg y, .int .i64 f]) := by rw [h, h2]
end Go.Proofs.YtelhgjepjieocaaDoor

/- Layer 18 (json): takeWord, Null, Bool, Num, word. -/
namespace Go.Proofs.YtelhgjepjieocaaDoor
open Go.RowKit
set_option linter.unusedVariables false

theorem extract_tl (s : ByteArray) (k : Nat) : (s.extract k s.size).data.toList = tl s k := by
  rw [ByteArray.data_extract, Array.toList_extract, List.extract_eq_take_drop]
  unfold tl
  rw [List.take_of_length_le (by rw [List.length_drop, Array.length_toList]; exact Nat.le_refl _)]
theorem tl_drop (s : ByteArray) (n k : Nat) : tl s (n + k) = (tl s n).drop k := by unfold tl; rw [List.drop_drop]
theorem hasPrefix_len {l p : List UInt8} (h : Lib.hasPrefix l p = true) : p.length ≤ l.length :=
  (List.isPrefixOf_iff_prefix.1 h).length_le
set_option maxRecDepth 100000 in
set_option maxHeartbeats 1000000 in
theorem takeWord_calls (w : World) (rb n : Nat) (s : ByteArray) (l : List UInt8) (p : ByteArray) (h : Rd w rb s n l) (hp : p.size ≤ 1000) :
    Calls Tryd.prog 70 #[.pointer (some ⟨rb, 0, none⟩), .string p] w fun e w' => e = .returned (.bool (Lib.hasPrefix l p.data.toList)) ∧ RdP w rb s (if Lib.hasPrefix l p.data.toList then l.drop p.size else l) w' := by
  obtain ⟨c0, c1, f1⟩ := h.cells
  have hsz := h.sz
  have hle := h.le
  obtain ⟨v, Hv⟩ : ∃ v, Hid (v = Lib.hasPrefix l p.data.toList) := ⟨_, rfl⟩
  rw [← Hv.out]
  have HR : Hid (Rd w rb s n l) := h
  have HX : Hid ((s.extract n s.size).data.toList = l) := by rw [Hid, extract_tl, h.suf]
  clear h
  go_enter Tryd.func70, Tryd.ntmps70
  go_wp2_with fail
  go_quiet ((go_at_call 77; exact Calls.quiet_of_same (Tryd.strings_HasPrefix _ _ _)))
  rw [HX.out, ← Hv.out]
  cases v with
  | false =>
    go_wp2
    go_ret
    exact ⟨rfl, by simpa using rdp_draws HR.out⟩
  | true =>
    have hpl := hasPrefix_len Hv.out.symm
    rw [Array.length_toList] at hpl
    have hl := HR.out.len
    have hps : p.data.size = p.size := rfl
    have HZ : Hid (∀ k, RdP w rb s (l.drop p.size) ((w.drewN k).setCell ⟨rb, 1, none⟩ (.int .i64 ((n : Int) + (p.size : Int))))) := fun k => by
      have := rdp_set (w0 := w) (k := k) HR.out (show n + p.size ≤ s.size by omega)
      rw [tl_drop, HR.out.suf] at this
      have e : ((n + p.size : Nat) : Int) = (n : Int) + (p.size : Int) := by omega
      rw [e] at this
      exact this
    have hn2 : n + p.size ≤ 1048576 := by omega
    go_wp2
    go_ret
    exact ⟨rfl, by simpa using HZ.out _⟩

/-! ### a value's cells; results that lie in a box -/
def jC (k n : Int) (t : ByteArray) (a b : Value) : Array Value := #[.int .i64 k, .int .i64 n, .string t, a, b]
def jZ : Array Value := jC 0 0 ⟨#[]⟩ (.slice none 0 0) (.slice none 0 0)
theorem load_js {w : World} {g : Nat} {cs : Array Value} (h : Blk w g cs 26) (hs : cs.size = 5) : (loadVar 26 ⟨g, 0, none⟩).run Tryd.prog w = .ok (.agg cs) w :=
  run_loadVar_row (P := Tryd.prog) w g 26 26 cs (0, 0) _ h Tryd.underlying26 rfl (by rw [show (Tryd.prog.info? 26).map (·.size) = some 5 from by kernel_rfl, hs])
theorem ret_cell {fn : Func} {R : Ending → World → Prop} {a : Act} {w : World} {g i : Nat} {cs : Array Value} {T : TypeId} (hres : fn.results = #[.cell i T]) (ht : a.tmps.getD i undef = .pointer (some ⟨g, 0, none⟩)) (hd : a.defers = [])
    (hl : (loadVar T ⟨g, 0, none⟩).run Tryd.prog w = .ok (.agg cs) w) (hR : R (.returned (.agg cs)) w) : bodyPost Tryd.prog fn R .ret a w := by
  refine bodyPost_ret ?_ hd hR
  have ht' : a.tmps[i]?.getD undef = .pointer (some ⟨g, 0, none⟩) := by simpa using ht
  simp [results, hres, ht', asAddr, hl]
theorem ret_cellE {fn : Func} {R : Ending → World → Prop} {a : Act} {w : World} {g i j : Nat} {cs : Array Value} {e : Value} {T : TypeId} (hres : fn.results = #[.cell i T, .tmp j]) (ht : a.tmps.getD i undef = .pointer (some ⟨g, 0, none⟩)) (h3 : a.tmps.getD j undef = e) (hd : a.defers = [])
    (hl : (loadVar T ⟨g, 0, none⟩).run Tryd.prog w = .ok (.agg cs) w) (hR : R (.returned (.tuple #[.agg cs, e])) w) : bodyPost Tryd.prog fn R .ret a w := by
  refine bodyPost_ret ((results_cell_tmp hres _ _ _).trans ?_) hd hR
  rw [ht, h3]
  simp only [asAddr, Sem.run_pure, Result.andThen, hl]
theorem null_calls (w : World) : Calls Tryd.prog 18 #[] w fun e w' => e = .returned (.agg (jC 1 0 ⟨#[]⟩ (.slice none 0 0) (.slice none 0 0))) ∧ Below w.heap.size w w' := by
  have HB := Blk.new w (jC 1 0 ⟨#[]⟩ (.slice none 0 0) (.slice none 0 0)) 26
  go_enter Tryd.func18, Tryd.ntmps18
  go_wp2
  exact ret_cell rfl rfl rfl (load_js HB rfl) ⟨rfl, below_new _ _⟩
theorem boolJ_calls (b : Bool) (w : World) : Calls Tryd.prog 19 #[.bool b] w fun e w' => e = .returned (.agg (jC 2 (if b then 1 else 0) ⟨#[]⟩ (.slice none 0 0) (.slice none 0 0))) ∧ Below w.heap.size w w' := by
  have HB := fun n => Blk.new w (jC 2 n ⟨#[]⟩ (.slice none 0 0) (.slice none 0 0)) 26
  cases b with
  | true =>
    go_enter Tryd.func19, Tryd.ntmps19
    go_wp2
    exact ret_cell rfl rfl rfl (load_js (HB 1) rfl) ⟨rfl, below_new _ _⟩
  | false =>
    go_enter Tryd.func19, Tryd.ntmps19
    go_wp2
    exact ret_cell rfl rfl rfl (load_js (HB 0) rfl) ⟨rfl, below_new _ _⟩
theorem num_calls (n : Int) (w : World) : Calls Tryd.prog 20 #[.int .i64 n] w fun e w' => e = .returned (.agg (jC 3 n ⟨#[]⟩ (.slice none 0 0) (.slice none 0 0))) ∧ Below w.heap.size w w' := by
  have HB := Blk.new w (jC 3 n ⟨#[]⟩ (.slice none 0 0) (.slice none 0 0)) 26
  go_enter Tryd.func20, Tryd.ntmps20
  go_wp2
  exact ret_cell rfl rfl rfl (load_js HB rfl) ⟨rfl, below_new _ _⟩

/-! ### a result box beside the reader -/
theorem Rd.put {w : World} {rb n g : Nat} {s : ByteArray} {l : List UInt8} (h : Rd w rb s n l) (hne : rb ≠ g) (vs : List Value) : Rd (putC w g 0 vs) rb s n l := ⟨putC_other hne vs w 0 h.blk, h.le, h.suf, h.sz⟩
theorem Frm.put {S : Nat → Prop} {g : Nat} {a : World} : ∀ (vs : List Value) (b : World) (i : Nat), Frm S a b → a.heap.size ≤ g → Frm S a (putC b g i vs)
  | [], _, _, h, _ => h
  | v :: vs, b, i, h, hg => Frm.put vs _ _ (h.setCell ⟨g, i, none⟩ v (.inr hg)) hg
theorem RdP.put {w w' : World} {rb g : Nat} {s : ByteArray} {l : List UInt8} (h : RdP w rb s l w') (hg : w.heap.size ≤ g) (hr : rb < w.heap.size) (vs : List Value) : RdP w rb s l (putC w' g 0 vs) := by
  obtain ⟨⟨n, hR⟩, hf⟩ := h
  exact ⟨⟨n, hR.put (by omega) vs⟩, hf.put vs _ 0 hg⟩
theorem RdP.below {w w' w2 : World} {rb : Nat} {s : ByteArray} {l : List UInt8} (h : RdP w rb s l w') (hb : Below w'.heap.size w' w2) : RdP w rb s l w2 := by
  obtain ⟨⟨n, hR⟩, hf⟩ := h
  exact ⟨⟨n, hR.below hb⟩, hf.trans (Frm.ofBelow hb _)⟩
theorem RdP.step {w w' w2 : World} {rb : Nat} {s : ByteArray} {l m : List UInt8} (h : Frm (fun k => k = rb) w w') (k : RdP w' rb s m w2) : RdP w rb s m w2 := ⟨k.1, h.trans k.2⟩
theorem Blk.rd {w w' : World} {g rb : Nat} {cs : Array Value} {T : TypeId} (h : Blk w g cs T) (hf : Frm (fun k => k = rb) w w') (hne : g ≠ rb) : Blk w' g cs T := (hf.block g h.lt hne).trans h
/-- The five cells of a box may be written. -/
theorem Blk.five {w : World} {g : Nat} {T : TypeId} {a b c d e : Value} (h : Blk w g #[a, b, c, d, e] T) : w.cell? ⟨g, 0, none⟩ = some a ∧ w.cell? ⟨g, 1, none⟩ = some b ∧ w.cell? ⟨g, 2, none⟩ = some c ∧ w.cell? ⟨g, 3, none⟩ = some d ∧ w.cell? ⟨g, 4, none⟩ = some e ∧ w.frozen? ⟨g, 0, none⟩ = false ∧ w.frozen? ⟨g, 1, none⟩ = false ∧ w.frozen? ⟨g, 2, none⟩ = false ∧ w.frozen? ⟨g, 3, none⟩ = false ∧ w.frozen? ⟨g, 4, none⟩ = false :=
  ⟨h.cell 0 rfl, h.cell 1 rfl, h.cell 2 rfl, h.cell 3 rfl, h.cell 4 rfl, h.open 0, h.open 1, h.open 2, h.open 3, h.open 4⟩
end Go.Proofs.YtelhgjepjieocaaDoor

/- Layer 18 (json): word. -/
namespace Go.Proofs.YtelhgjepjieocaaDoor
open Go.RowKit
set_option linter.unusedVariables false

def wNull : ByteArray := ⟨#[110, 117, 108, 108]⟩
def wTrue : ByteArray := ⟨#[116, 114, 117, 101]⟩
def wFalse : ByteArray := ⟨#[102, 97, 108, 115, 101]⟩
/-- A word: its kind, its number, what comes behind it. -/
def wordP (l : List UInt8) : Option (Int × Int × List UInt8) :=
  if Lib.hasPrefix l wNull.data.toList then some (1, 0, l.drop 4)
  else if Lib.hasPrefix l wTrue.data.toList then some (2, 1, l.drop 4)
  else if Lib.hasPrefix l wFalse.data.toList then some (2, 0, l.drop 5) else none
/-- What a step of the reader answers that yields a value without parts. -/
def PlV (w : World) (rb : Nat) (s : ByteArray) (r : Option (Int × Int × List UInt8)) (e : Ending) (w' : World) : Prop :=
  match r with
  | some (k, n, l') => e = .returned (.tuple #[.agg (jC k n ⟨#[]⟩ (.slice none 0 0) (.slice none 0 0)), .int .i64 0]) ∧ RdP w rb s l' w'
  | none => e = .returned (.tuple #[.agg jZ, .int .i64 181]) ∧ ∃ l', RdP w rb s l' w'

set_option maxRecDepth 100000 in
set_option maxHeartbeats 2000000 in
theorem word_calls (w : World) (rb n : Nat) (s : ByteArray) (l : List UInt8) (h : Rd w rb s n l) :
    Calls Tryd.prog 62 #[.pointer (some ⟨rb, 0, none⟩)] w (PlV w rb s (wordP l)) := by
  have hrb := lt_of_heapT h.blk
  obtain ⟨w1, Hw1⟩ : ∃ w1, Hid (w1 = w.alloc (.cells jZ 26)) := ⟨_, rfl⟩
  obtain ⟨g, Hg⟩ : ∃ g, Hid (g = w.heap.size) := ⟨_, rfl⟩
  have HB1 : Hid (Blk w1 g jZ 26) := by rw [Hid, Hw1.out, Hg.out]; exact Blk.new _ _ _
  have HF1 : Hid (Frm (fun k => k = rb) w w1) := by rw [Hid, Hw1.out]; exact Frm.ofBelow (below_new _ _) _
  have h1 : Rd w1 rb s n l := by rw [Hw1.out]; exact h.below (below_new _ _)
  have hne : g ≠ rb := by rw [Hg.out]; omega
  have hgw : w.heap.size ≤ g := by rw [Hg.out]; exact Nat.le_refl _
  clear h
  unfold jZ jC at Hw1
  go_enter Tryd.func62, Tryd.ntmps62
  go_wp2_with fail
  rw [← Hw1.out, ← Hg.out]
  clear Hw1 Hg
  refine (takeWord_calls w1 rb n s l wNull h1 (by decide)).mono ?_
  rintro e w2 ⟨rfl, hR2, hF2⟩
  have HF2 : Hid (Frm (fun k => k = rb) w w2) := HF1.out.trans hF2
  have HB2 : Hid (Blk w2 g jZ 26) := HB1.out.rd hF2 hne
  by_cases p0 : Lib.hasPrefix l wNull.data.toList = true
  · rw [p0]
    simp only [p0, if_true] at hR2
    have HP : Hid (wordP l = some (1, 0, l.drop 4)) := by simp only [Hid, wordP, p0]; rfl
    clear hF2
    go_wp2_with fail
    refine (null_calls _).mono ?_
    rintro e w9 ⟨rfl, hb9⟩
    have HB9 : Hid (Blk w9 g jZ 26) := HB2.out.below hb9
    obtain ⟨c0, c1, c2, c3, c4, f0, f1, f2, f3, f4⟩ := Blk.five HB9.out
    have HZ : Hid (RdP w rb s (l.drop 4) w9) := RdP.below ⟨hR2, HF2.out⟩ hb9
    clear hb9 hR2
    unfold jC
    go_wp2
    change bodyPost _ _ _ _ _ (putC w9 g 0 [.int .i64 1, .int .i64 0, .string ⟨#[]⟩, .slice none 0 0, .slice none 0 0])
    exact ret_cellE rfl rfl rfl rfl (load_js (putC_all HB9.out rfl) rfl) (by rw [HP.out]; exact ⟨rfl, HZ.out.put hgw hrb _⟩)
  · rw [Bool.eq_false_iff.2 p0]
    simp only [p0, if_false, Bool.false_eq_true] at hR2
    obtain ⟨n2, h2⟩ := hR2
    clear hF2
    go_wp2_with fail
    refine (takeWord_calls w2 rb n2 s l wTrue h2 (by decide)).mono ?_
    rintro e w3 ⟨rfl, hR3, hF3⟩
    have HF3 : Hid (Frm (fun k => k = rb) w w3) := HF2.out.trans hF3
    have HB3 : Hid (Blk w3 g jZ 26) := HB2.out.rd hF3 hne
    by_cases p1 : Lib.hasPrefix l wTrue.data.toList = true
    · rw [p1]
      simp only [p1, if_true] at hR3
      have HP : Hid (wordP l = some (2, 1, l.drop 4)) := by simp only [Hid, wordP, p0, p1]; rfl
      clear hF3
      go_wp2_with fail
      refine (boolJ_calls true _).mono ?_
      rintro e w9 ⟨rfl, hb9⟩
      have HB9 : Hid (Blk w9 g jZ 26) := HB3.out.below hb9
      obtain ⟨c0, c1, c2, c3, c4, f0, f1, f2, f3, f4⟩ := Blk.five HB9.out
      have HZ : Hid (RdP w rb s (l.drop 4) w9) := RdP.below ⟨hR3, HF3.out⟩ hb9
      clear hb9 hR3
      unfold jC
      go_wp2
      change bodyPost _ _ _ _ _ (putC w9 g 0 [.int .i64 2, .int .i64 1, .string ⟨#[]⟩, .slice none 0 0, .slice none 0 0])
      exact ret_cellE rfl rfl rfl rfl (load_js (putC_all HB9.out rfl) rfl) (by rw [HP.out]; exact ⟨rfl, HZ.out.put hgw hrb _⟩)
    · rw [Bool.eq_false_iff.2 p1]
      simp only [p1, if_false, Bool.false_eq_true] at hR3
      obtain ⟨n3, h3⟩ := hR3
      clear hF3
      go_wp2_with fail
      refine (takeWord_calls w3 rb n3 s l wFalse h3 (by decide)).mono ?_
      rintro e w4 ⟨rfl, hR4, hF4⟩
      have HF4 : Hid (Frm (fun k => k = rb) w w4) := HF3.out.trans hF4
      have HB4 : Hid (Blk w4 g jZ 26) := HB3.out.rd hF4 hne
      by_cases p2 : Lib.hasPrefix l wFalse.data.toList = true
      · rw [p2]
        simp only [p2, if_true] at hR4
        have HP : Hid (wordP l = some (2, 0, l.drop 5)) := by simp only [Hid, wordP, p0, p1, p2]; rfl
        clear hF4
        go_wp2_with fail
        refine (boolJ_calls false _).mono ?_
        rintro e w9 ⟨rfl, hb9⟩
        have HB9 : Hid (Blk w9 g jZ 26) := HB4.out.below hb9
        obtain ⟨c0, c1, c2, c3, c4, f0, f1, f2, f3, f4⟩ := Blk.five HB9.out
        have HZ : Hid (RdP w rb s (l.drop 5) w9) := RdP.below ⟨hR4, HF4.out⟩ hb9
        clear hb9 hR4
        unfold jC
        go_wp2
        change bodyPost _ _ _ _ _ (putC w9 g 0 [.int .i64 2, .int .i64 0, .string ⟨#[]⟩, .slice none 0 0, .slice none 0 0])
        exact ret_cellE rfl rfl rfl rfl (load_js (putC_all HB9.out rfl) rfl) (by rw [HP.out]; exact ⟨rfl, HZ.out.put hgw hrb _⟩)
      · rw [Bool.eq_false_iff.2 p2]
        simp only [p2, if_false, Bool.false_eq_true] at hR4
        obtain ⟨n4, h4⟩ := hR4
        clear hF4
        have HP : Hid (wordP l = none) := by simp only [Hid, wordP, p0, p1, p2]; rfl
        obtain ⟨c0, c1, c2, c3, c4, f0, f1, f2, f3, f4⟩ := Blk.five HB4.out
        have HZ : Hid (RdP w rb s l w4) := ⟨⟨n4, h4⟩, HF4.out⟩
        go_wp2
        change bodyPost _ _ _ _ _ (putC w4 g 0 [.int .i64 0, .int .i64 0, .string ⟨#[]⟩, .slice none 0 0, .slice none 0 0])
        exact ret_cellE rfl rfl rfl rfl (load_js (putC_all HB4.out rfl) rfl) (by rw [HP.out]; exact ⟨rfl, l, HZ.out.put hgw hrb _⟩)
end Go.Proofs.YtelhgjepjieocaaDoor
