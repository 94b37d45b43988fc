import Derived.Test.YtmkohdepgfahnaaGreatDoorSGenB
import Derived.Laws.ResultCell
import Derived.Laws.Rows
import Derived.Lib.BufferMore
import Derived.Test.YtmkohdepgfahnaaGreatDoorSBase
import Derived.Test.YtmkohdepgfahnaaGreatDoorChecked
import Derived.Lib.ConvBytes
/- Boxes: a value's cells in a block of their own; a result that lies in one. -/
namespace Go.Proofs.YtmkohdepgfahnaaGreatDoor
open Go.RowKit
set_option linter.unusedVariables false

def Blk (w : World) (b : Nat) (cs : Array Value) (T : TypeId) : Prop := w.heap[b]? = some (.cells cs T)
theorem Blk.lt {w : World} {b : Nat} {cs : Array Value} {T : TypeId} (h : Blk w b cs T) : b < w.heap.size := (Array.getElem?_eq_some_iff.1 h).1
theorem Blk.below {w w' : World} {b : Nat} {cs : Array Value} {T : TypeId} (h : Blk w b cs T) (hb : Below w.heap.size w w') : Blk w' b cs T := (hb.block _ h.lt).trans h
theorem Blk.alloc {w : World} {b : Nat} {cs : Array Value} {T : TypeId} (h : Blk w b cs T) (o : Obj) : Blk (w.alloc o) b cs T := h.below ((Below.refl _ _).alloc (Nat.le_refl _) _)
theorem Blk.cell {w : World} {b : Nat} {cs : Array Value} {T : TypeId} (h : Blk w b cs T) (i : Nat) {v : Value} (hv : cs[i]? = some v) : w.cell? ⟨b, i, none⟩ = some v := (cell_of_row _ _ _ _ _ _ h).trans hv
theorem Blk.open {w : World} {b : Nat} {cs : Array Value} {T : TypeId} (h : Blk w b cs T) (i : Nat) : w.frozen? ⟨b, i, none⟩ = false := by
  have h' : w.heap[b]? = some (.cells cs T) := h
  simp [World.frozen?, h']
theorem Blk.new (w : World) (cs : Array Value) (T : TypeId) : Blk (w.alloc (.cells cs T)) w.heap.size cs T := by
  show (w.heap.push _)[w.heap.size]? = _
  rw [Array.getElem?_push, if_pos rfl]
theorem size_new (w : World) (o : Obj) : (w.alloc o).heap.size = w.heap.size + 1 := by
  show (w.heap.push _).size = _
  rw [Array.size_push]
theorem below_new (w : World) (o : Obj) : Below w.heap.size w (w.alloc o) := (Below.refl _ _).alloc (Nat.le_refl _) _
theorem below_undrew {w w' : World} (h : Below w.drew.heap.size w.drew w') : Below w.heap.size w w' := ⟨h.os, h.tape, h.output, h.size, h.block⟩
/-- Values stored one behind the other. -/
def putC (w : World) (g : Nat) : Nat → List Value → World
  | _, [] => w
  | i, v :: l => putC (w.setCell ⟨g, i, none⟩ v) g (i + 1) l
theorem putC_row {g : Nat} {T : TypeId} : ∀ (l : List Value) (w : World) (i : Nat) (cs : Array Value), Blk w g cs T → i + l.length = cs.size → Blk (putC w g i l) g (cs.toList.take i ++ l).toArray T
  | [], w, i, cs, h, hl => by
    have e : (cs.toList.take i ++ []).toArray = cs := by
      rw [List.append_nil, List.take_of_length_le (by rw [Array.length_toList]; simp at hl; omega)]
    rw [e]
    exact h
  | v :: l, w, i, cs, h, hl => by
    simp only [List.length_cons] at hl
    have h1 : Blk (w.setCell ⟨g, i, none⟩ v) g (cs.setIfInBounds i v) T := Lib.heap_setCell_same h v
    have h2 := putC_row l (w.setCell ⟨g, i, none⟩ v) (i + 1) (cs.setIfInBounds i v) h1 (by rw [Array.size_setIfInBounds]; omega)
    have e : (cs.setIfInBounds i v).toList.take (i + 1) ++ l = cs.toList.take i ++ v :: l := by
      rw [Array.toList_setIfInBounds, List.take_succ_eq_append_getElem (by rw [List.length_set, Array.length_toList]; omega), List.take_set_of_le (Nat.le_refl _)]
      simp
    rw [e] at h2
    exact h2
theorem putC_all {g : Nat} {T : TypeId} {l : List Value} {w : World} {cs : Array Value} (h : Blk w g cs T) (hl : l.length = cs.size) : Blk (putC w g 0 l) g l.toArray T := by
  have := putC_row l w 0 cs h (by omega)
  simpa using this
theorem putC_below {B g : Nat} {a : World} : ∀ (l : List Value) (w : World) (i : Nat), Below B a w → B ≤ g → Below B a (putC w g i l)
  | [], _, _, h, _ => h
  | v :: l, w, i, h, hg => putC_below l _ _ (h.setCell (p := ⟨g, i, none⟩) hg v) hg
theorem putC_other {g b : Nat} {T : TypeId} {cs : Array Value} (hne : b ≠ g) : ∀ (l : List Value) (w : World) (i : Nat), Blk w b cs T → Blk (putC w g i l) b cs T
  | [], _, _, h => h
  | v :: l, w, i, h => putC_other hne l _ _ (by
    show (w.setCell _ _).heap[b]? = _
    rw [heap_setCell_other _ _ _ _ (by exact hne)]
    exact h)
theorem putC_cell {g b i : Nat} {v : Value} (hne : b ≠ g) : ∀ (l : List Value) (w : World) (k : Nat), w.cell? ⟨b, i, none⟩ = some v → (putC w g k l).cell? ⟨b, i, none⟩ = some v
  | [], _, _, h => h
  | x :: l, w, k, h => putC_cell hne l _ _ (by rw [World.cell?_setCell_other _ _ _ _ (fun e => by injection e with e; exact hne e.symm)]; exact h)
theorem putC_size {g : Nat} : ∀ (l : List Value) (w : World) (i : Nat), (putC w g i l).heap.size = w.heap.size
  | [], _, _ => rfl
  | v :: l, w, i => (putC_size l _ _).trans (World.size_setCell ..)
/-- The end of a function whose first result lies in a box, the second in a slot. -/
theorem ret_box {fn : Func} {R : Ending → World → Prop} {a : Act} {w : World} {g : Nat} {cs : Array Value} {e : Value} {T : TypeId} (hres : fn.results = #[.cell 2 T, .tmp 3]) (ht : a.tmps.getD 2 undef = .pointer (some ⟨g, 0, none⟩)) (h3 : a.tmps.getD 3 undef = e) (hd : a.defers = [])
    (hl : (loadVar T ⟨g, 0, none⟩).run Tryz.prog w = .ok (.agg cs) w) (hR : R (.returned (.tuple #[.agg cs, e])) w) : bodyPost Tryz.prog fn R .ret a w := by
  refine bodyPost_ret ((results_cell_tmp hres _ _ _).trans ?_) hd hR
  rw [ht, h3]
  simp only [asAddr, Sem.run_pure, Result.andThen, hl]
theorem ret_agg {x y : Array Value} {e f : Int} (h : x = y) (h2 : e = f) : Ending.returned (.tuple #[.agg x, .int .i64 e]) = .returned (.tuple #[.agg y, .int .i64 f]) := by rw [h, h2]
end Go.Proofs.YtmkohdepgfahnaaGreatDoor

/- append on a slice of bytes that the call made itself, as one step of a walk. -/
namespace Go.Proofs.YtmkohdepgfahnaaGreatDoor
open Go.RowKit
set_option linter.unusedVariables false

theorem info_u8 : (Tryz.prog.info? 5).map (fun i => (i.zero, i.size, i.bytes)) = some (some (.int .u8 0), 1, 1) := by kernel_rfl

theorem append_bytes (w : World) {ops : Array Oper} {rest : List Oper} {o : Oper} {a : Act} {Q : Exit → Act → World → Prop} (hgd : o.guard = none) (s x : Operand)
    (ho : o.op = .call { callee := .builtin .append, args := #[s, x], argTypes := #[23, 23] })
    (B : Nat) (v : Value) (l : List UInt8) (hs : a.eval s = v) (hown : Own w B v l)
    (ad : Addr) (m c : Nat) (news : List UInt8) (hx : a.eval x = .slice (some ad) m c) (hm : news.length = m) (hnews : ∀ j u, (bs news)[j]? = some u → w.cell? (ad.add j) = some u)
    (hlen : l.length + m ≤ 140737488355328) (hB : B ≤ w.heap.size)
    (h : ∀ v' w', Own w' B v' (l ++ news) → Grew w w' v v' → wpList Tryz.prog ops Q rest (a.put o.dst v') w') : wpList Tryz.prog ops Q (o :: rest) a w := by
  obtain ⟨i0, hi, hz0, hz1, hz2⟩ := info_parts info_u8
  subst hm
  refine wpList_append_grew w hgd s x 23 ho B 5 i0 (.int .u8 0) 1 1 Tryz.underlying23 hi hz0 hz1 hz2 rfl (by decide) v l.length (bs l) hs hown ad news.length c (bs news) hx (by simp [bs]) hnews (bs_one _) (by unfold maxLen; omega) (by omega) hB ?_
  intro v' w' h1 h2 _
  refine h v' w' ?_ h2
  unfold Own
  rw [bs_append, List.length_append]
  exact h1

/-- .. where what is appended is a literal that was laid right ahead of it. -/
theorem append_lit (W : World) {ops : Array Oper} {rest : List Oper} {o : Oper} {a : Act} {Q : Exit → Act → World → Prop} (hgd : o.guard = none) (s x : Operand)
    (ho : o.op = .call { callee := .builtin .append, args := #[s, x], argTypes := #[23, 23] })
    (B : Nat) (v : Value) (l : List UInt8) (hs : a.eval s = v) (news : List UInt8) (g m c : Nat) (cs : Array Value) (hx : a.eval x = .slice (some ⟨g, 0, none⟩) m c) (hm : news.length = m) (hc : cs = (bs news).toArray)
    (hg : g = W.heap.size) (hown : Own W B v l) (hlen : l.length + m ≤ 140737488355328) (hB : B ≤ W.heap.size)
    (h : ∀ v' w', Own w' B v' (l ++ news) → Grew W w' v v' → wpList Tryz.prog ops Q rest (a.put o.dst v') w') : wpList Tryz.prog ops Q (o :: rest) a (W.alloc (.cells cs 5)) := by
  subst hg hc
  exact append_bytes _ hgd s x ho B v l hs (hown.alloc _) ⟨W.heap.size, 0, none⟩ m c news hx hm (cells_new _ _ _) hlen (by simp; omega) fun v' w' h1 h2 => h v' w' h1 h2.ofAlloc

end Go.Proofs.YtmkohdepgfahnaaGreatDoor

/- Layer 7 (rows): Low. -/
namespace Go.Proofs.YtmkohdepgfahnaaGreatDoor
open Go.RowKit
set_option linter.unusedVariables false

def lowB (b : UInt8) : UInt8 := if 65 ≤ b.toNat ∧ b.toNat ≤ 90 then b + 32 else b
def lowS (s : ByteArray) : ByteArray := ⟨(s.data.toList.map lowB).toArray⟩
theorem lowB_toNat (b : UInt8) : (lowB b).toNat = if 65 ≤ b.toNat ∧ b.toNat ≤ 90 then b.toNat + 32 else b.toNat := by
  unfold lowB
  split
  · next h =>
    rw [UInt8.toNat_add]
    have : (32 : UInt8).toNat = 32 := rfl
    rw [this]
    omega
  · rfl
theorem lowS_size (s : ByteArray) : (lowS s).size = s.size := by
  show (s.data.toList.map lowB).toArray.size = s.data.size
  rw [List.size_toArray, List.length_map, Array.length_toList]
theorem lowB_low (b : UInt8) : lowB (lowB b) = lowB b := by
  apply UInt8.toNat_inj.1
  rw [lowB_toNat (lowB b), lowB_toNat b]
  by_cases h : 65 ≤ b.toNat ∧ b.toNat ≤ 90
  · rw [if_pos h, if_neg (by omega)]
  · rw [if_neg h, if_neg h]
theorem lowS_low (s : ByteArray) : lowS (lowS s) = lowS s := by
  simp [lowS, Function.comp_def, lowB_low]

theorem conv_bytes (w : World) (s : ByteArray) (n : Nat) (hn : s.size = n) : ∃ cap w1, (convert 9 23 (.string s)).run Tryz.prog w = .ok (.slice (some ⟨w.heap.size, 0, none⟩) n cap) w1 ∧
    (∀ j (h : j < n), w1.cell? ⟨w.heap.size, j, none⟩ = some (.int .u8 (s.data.toList.getD j 0).toNat) ∧ w1.frozen? ⟨w.heap.size, j, none⟩ = false) ∧ Below w.heap.size w w1 ∧ w.heap.size < w1.heap.size := by
  subst hn
  refine ⟨_, _, Lib.run_convert_string_bytes w _ _ _ s Tryz.underlying9 Tryz.underlying23 Tryz.underlying5, ?_, ?_, ?_⟩
  · intro j hj
    refine ⟨Lib.bytesWorld_cell w _ s j hj, ?_⟩
    simp only [World.frozen?, Lib.bytesWorld_at_new]
    simp [Lib.bytesCells]
    omega
  · refine ⟨rfl, rfl, rfl, by rw [Lib.bytesWorld_size]; omega, fun k hk => Lib.bytesWorld_at_old w _ s k hk⟩
  · rw [Lib.bytesWorld_size]; omega

/-- The bytes of s lie at g, the first k of them lowered. -/
def LowI (s : ByteArray) (g k : Nat) (w : World) : Prop := ∀ j (h : j < s.size), w.cell? ⟨g, j, none⟩ = some (.int .u8 ((if j < k then lowB s[j] else s[j]).toNat : Int)) ∧ w.frozen? ⟨g, j, none⟩ = false
theorem LowI.keep {s : ByteArray} {g k : Nat} {w : World} (h : LowI s g k w) (hk : k < s.size) (hb : ¬ (65 ≤ s[k].toNat ∧ s[k].toNat ≤ 90)) : LowI s g (k + 1) w := by
  intro j hj
  have := h j hj
  by_cases e : j = k
  · subst e
    rw [if_neg (by omega)] at this
    rw [if_pos (by omega), show lowB s[j] = s[j] by unfold lowB; rw [if_neg hb]]
    exact this
  · have e2 : (j < k + 1) = (j < k) := by simp; omega
    simp only [e2]
    exact this
theorem LowI.set {s : ByteArray} {g k : Nat} {w : World} (h : LowI s g k w) (hk : k < s.size) (hb : 65 ≤ s[k].toNat ∧ s[k].toNat ≤ 90) : LowI s g (k + 1) (w.setCell ⟨g, k, none⟩ (.int .u8 ((s[k].toNat : Int) + 32))) := by
  intro j hj
  have h1 := h j hj
  refine ⟨?_, (World.frozen?_setCell _ _ _ _).trans h1.2⟩
  by_cases e : j = k
  · subst e
    rw [World.cell?_setCell_same _ _ _ h1.1, if_pos (by omega), lowB_toNat, if_pos hb]
    simp
  · have hne : (⟨g, k, none⟩ : Addr) ≠ ⟨g, j, none⟩ := fun e' => e (by simpa using e'.symm)
    rw [World.cell?_setCell_other _ _ _ _ hne, h1.1]
    have e2 : (j < k + 1) = (j < k) := by simp; omega
    simp only [e2]
theorem LowI.string {s : ByteArray} {g cap : Nat} {w : World} (h : LowI s g s.size w) : (convert 23 9 (.slice (some ⟨g, 0, none⟩) s.size cap)).run Tryz.prog w = .ok (.string (lowS s)) w := by
  have hl : (s.data.toList.map lowB).length = s.size := by simp
  have := run_convert_bytes_back (P := Tryz.prog) w 23 9 5 ⟨g, 0, none⟩ cap (s.data.toList.map lowB) Tryz.underlying23 Tryz.underlying5 Tryz.underlying9 ?_
  · rw [hl] at this; exact this
  · intro i hi
    rw [hl] at hi
    have hadd : (⟨g, 0, none⟩ : Addr).add i = ⟨g, i, none⟩ := by unfold Addr.add; split <;> simp_all
    rw [hadd, (h i hi).1, if_pos hi]
    simp
    rfl

set_option maxHeartbeats 1000000 in
theorem low_calls (s : ByteArray) (w : World) (hs : s.size ≤ 140737488351296) :
    Calls Tryz.prog 85 #[.string s] w fun e w' => e = .returned (.string (lowS s)) ∧ Below w.heap.size w w' := by
  obtain ⟨cap, w1, hrun, hcells, hb1, hs1⟩ := conv_bytes w s s.size rfl
  have HI0 : Hid (LowI s w.heap.size 0 w1) := fun j hj => by
    have := hcells j hj
    rw [if_neg (by omega)]
    refine ⟨?_, this.2⟩
    rw [this.1, show s.data.toList.getD j 0 = s[j] by rw [List.getD_eq_getElem?_getD, List.getElem?_eq_getElem (by simpa using hj)]; rfl]
  have HB1 : Hid (Below w.heap.size w w1) := hb1
  clear hcells hb1 hs1
  go_enter Tryz.func85, Tryz.ntmps85
  go_wp2
  go_loopw [4, 5, 10] (fun a4 a5 x wr => ∃ k : Nat, k ≤ s.size ∧ x = .int .i64 k ∧ Hid (LowI s w.heap.size k wr) ∧ Hid (Below w.heap.size w wr)) (fun _ _ x _ => s.size - (intOf x).toNat)
  case atStart => exact ⟨0, Nat.zero_le _, rfl, HI0, HB1⟩
  case round =>
    obtain ⟨k, hk, rfl, HI, HB⟩ := hrel
    clear hrun HI0 HB1
    by_cases hlt : k < s.size
    · have c0 := (HI.out k hlt).1
      have z0 := (HI.out k hlt).2
      rw [if_neg (by omega)] at c0
      have hby : (s[k].toNat : Int) ≤ 255 := by have := s[k].toNat_lt; omega
      by_cases hb : 65 ≤ s[k].toNat ∧ s[k].toNat ≤ 90
      · have q1 : (65 : Int) ≤ (s[k].toNat : Int) := by omega
        have q2 : (s[k].toNat : Int) ≤ 90 := by omega
        have HN : Hid (LowI s w.heap.size (k + 1) (wr.setCell ⟨w.heap.size, k, none⟩ (.int .u8 ((s[k].toNat : Int) + 32)))) := HI.out.set hlt hb
        have qa : (s[k].toNat : Int) + 97 - 65 = (s[k].toNat : Int) + 32 := by omega
        clear hb
        go_wp2
        go_roundw
        case rel => exact ⟨k + 1, by omega, by go_num, by first | exact HN | (rw [qa]; exact HN), HB.out.setCell (Nat.le_refl _) _⟩
        case measure => simp [intOf]; omega
      · have HN : Hid (LowI s w.heap.size (k + 1) wr) := HI.out.keep hlt hb
        by_cases h65 : 65 ≤ s[k].toNat
        · have q1 : (65 : Int) ≤ (s[k].toNat : Int) := by omega
          have q2 : ¬ ((s[k].toNat : Int) ≤ 90) := by omega
          clear hb h65
          go_wp2
          go_roundw
          case rel => exact ⟨k + 1, by omega, by go_num, HN, HB⟩
          case measure => simp [intOf]; omega
        · have q1 : ¬ ((65 : Int) ≤ (s[k].toNat : Int)) := by omega
          clear hb h65
          go_wp2
          go_roundw
          case rel => exact ⟨k + 1, by omega, by go_num, HN, HB⟩
          case measure => simp [intOf]; omega
    · obtain rfl : k = s.size := by omega
      have hst := HI.out.string (cap := cap)
      go_wp2
      go_ret
      exact ⟨rfl, HB.out⟩

end Go.Proofs.YtmkohdepgfahnaaGreatDoor

/- What was written byte by byte, as a text. -/
namespace Go.Proofs.YtmkohdepgfahnaaGreatDoor
open Go.RowKit
set_option linter.unusedVariables false

theorem Own.string {w : World} {B : Nat} {v : Value} {l : List UInt8} (h : Own w B v l) : (convert 23 9 v).run Tryz.prog w = .ok (.string ⟨l.toArray⟩) w := by
  rcases h.2 with ⟨rfl, h0⟩ | ⟨g, cap, cur, rfl, _, _, _, _, _, _⟩
  · rw [run_convert_bytes_nil w _ _ Tryz.underlying23 Tryz.underlying5 0 0 _ Tryz.underlying9]
    rw [List.length_eq_zero_iff.1 h0]; rfl
  · refine run_convert_bytes_back w _ _ _ _ _ l Tryz.underlying23 Tryz.underlying5 Tryz.underlying9 ?_
    intro j hj
    refine World.ownsRow.cells h (g := g) rfl j _ ?_
    simp [bs, hj]

end Go.Proofs.YtmkohdepgfahnaaGreatDoor

/- Layer 7 (rows): the document's Low; RowsLow. -/
namespace Go.Proofs.YtmkohdepgfahnaaGreatDoor
open Go.RowKit
set_option linter.unusedVariables false

def lowTo (s : ByteArray) (k : Nat) : List UInt8 := (s.data.toList.take k).map lowB
theorem lowTo_succ (s : ByteArray) (k : Nat) (hk : k < s.size) : lowTo s (k + 1) = lowTo s k ++ [lowB s[k]] := by
  unfold lowTo
  rw [List.take_succ_eq_append_getElem (by simpa using hk), List.map_append]
  rfl
theorem lowTo_all (s : ByteArray) : (⟨(lowTo s s.size).toArray⟩ : ByteArray) = lowS s := by
  unfold lowTo lowS
  rw [List.take_of_length_le (by simp)]
theorem lowTo_len (s : ByteArray) (k : Nat) (hk : k ≤ s.size) : (lowTo s k).length = k := by
  unfold lowTo
  rw [List.length_map, List.length_take]
  simp only [Array.length_toList]
  exact Nat.min_eq_left hk

set_option maxRecDepth 100000 in
set_option maxHeartbeats 1000000 in
theorem refLow_calls (s : ByteArray) (w : World) (hs : s.size ≤ 140737488351296) :
    Calls Tryz.prog 66 #[.string s] w fun e w' => e = .returned (.string (lowS s)) ∧ Below w.heap.size w w' := by
  go_enter Tryz.func66, Tryz.ntmps66
  go_wp2
  go_loopw [3, 4] (fun v i wr => ∃ (k : Nat) (a : Option Addr) (c : Nat), k ≤ s.size ∧ i = .int .i64 k ∧ v = .slice a k c ∧ Hid (Own wr w.heap.size (.slice a k c) (lowTo s k)) ∧ Hid (Below w.heap.size w wr)) (fun _ i _ => s.size - (intOf i).toNat)
  case atStart => exact ⟨0, _, _, Nat.zero_le _, rfl, rfl, World.ownsRow_lit (size := 1) w #[] 0 (Nat.le_refl _) (by unfold maxLen; omega) rfl, (Below.refl _ _).alloc (Nat.le_refl _) _⟩
  case round =>
    obtain ⟨k, a, c, hk, rfl, rfl, HO, HB⟩ := hrel
    have hlen := lowTo_len s k hk
    by_cases hlt : k < s.size
    · have hby : (s[k].toNat : Int) ≤ 255 := by have := s[k].toNat_lt; omega
      have hsz := HB.out.size
      have HT : Hid (lowTo s (k + 1) = lowTo s k ++ [lowB s[k]]) := lowTo_succ s k hlt
      have hln := lowB_toNat s[k]
      by_cases hb : 65 ≤ s[k].toNat ∧ s[k].toNat ≤ 90
      · have q1 : (65 : Int) ≤ (s[k].toNat : Int) := by omega
        have q2 : (s[k].toNat : Int) ≤ 90 := by omega
        rw [if_pos hb] at hln
        have HC : Hid (#[Value.int .u8 ((s[k].toNat : Int) + 32)] = (bs [lowB s[k]]).toArray) := by
          rw [Hid]
          simp only [bs, List.map_cons, List.map_nil]
          rw [hln]
          simp
        clear hb hln
        go_wp2_with (at_builtin; refine append_lit _ rfl (.tmp 22) (.tmp 27) rfl w.heap.size _ (lowTo s k) rfl [lowB s[k]] _ 1 1 _ rfl rfl HC.out rfl HO.out (by omega) hsz ?_)
        intro v1 w1 ho1 hg1
        have HB1 : Hid (Below w.heap.size w w1) := HB.out.trans (HO.out.toBelow hsz hg1)
        have HO1 : Hid (Own w1 w.heap.size v1 (lowTo s (k + 1))) := by rw [Hid, HT.out]; exact ho1
        obtain ⟨a1, c1, rfl⟩ := HO1.out.shape
        rw [lowTo_len s (k + 1) hlt] at HO1 ⊢
        clear ho1 hg1
        go_wp2
        go_roundw
        case rel => exact ⟨k + 1, a1, c1, by omega, by go_num, rfl, HO1, HB1⟩
        case measure => simp [intOf]; omega
      · rw [if_neg hb] at hln
        have HC : Hid (#[Value.int .u8 (s[k].toNat : Int)] = (bs [lowB s[k]]).toArray) := by
          rw [Hid]
          simp only [bs, List.map_cons, List.map_nil]
          rw [hln]
        clear hln
        by_cases h65 : 65 ≤ s[k].toNat
        · have q1 : (65 : Int) ≤ (s[k].toNat : Int) := by omega
          have q2 : ¬ ((s[k].toNat : Int) ≤ 90) := by omega
          clear hb h65
          go_wp2_with (at_builtin; refine append_lit _ rfl (.tmp 29) (.tmp 33) rfl w.heap.size _ (lowTo s k) rfl [lowB s[k]] _ 1 1 _ rfl rfl HC.out rfl HO.out (by omega) hsz ?_)
          intro v1 w1 ho1 hg1
          have HB1 : Hid (Below w.heap.size w w1) := HB.out.trans (HO.out.toBelow hsz hg1)
          have HO1 : Hid (Own w1 w.heap.size v1 (lowTo s (k + 1))) := by rw [Hid, HT.out]; exact ho1
          obtain ⟨a1, c1, rfl⟩ := HO1.out.shape
          rw [lowTo_len s (k + 1) hlt] at HO1 ⊢
          clear ho1 hg1
          go_wp2
          go_roundw
          case rel => exact ⟨k + 1, a1, c1, by omega, by go_num, rfl, HO1, HB1⟩
          case measure => simp [intOf]; omega
        · have q1 : ¬ ((65 : Int) ≤ (s[k].toNat : Int)) := by omega
          clear hb h65
          go_wp2_with (at_builtin; refine append_lit _ rfl (.tmp 29) (.tmp 33) rfl w.heap.size _ (lowTo s k) rfl [lowB s[k]] _ 1 1 _ rfl rfl HC.out rfl HO.out (by omega) hsz ?_)
          intro v1 w1 ho1 hg1
          have HB1 : Hid (Below w.heap.size w w1) := HB.out.trans (HO.out.toBelow hsz hg1)
          have HO1 : Hid (Own w1 w.heap.size v1 (lowTo s (k + 1))) := by rw [Hid, HT.out]; exact ho1
          obtain ⟨a1, c1, rfl⟩ := HO1.out.shape
          rw [lowTo_len s (k + 1) hlt] at HO1 ⊢
          clear ho1 hg1
          go_wp2
          go_roundw
          case rel => exact ⟨k + 1, a1, c1, by omega, by go_num, rfl, HO1, HB1⟩
          case measure => simp [intOf]; omega
    · obtain rfl : k = s.size := by omega
      have hst := HO.out.string
      rw [lowTo_all] at hst
      go_wp2
      go_ret
      exact ⟨rfl, HB.out⟩
end Go.Proofs.YtmkohdepgfahnaaGreatDoor
