/- Layer 9 (records): Addr. -/
import Derived.Test.YtmkohdepgfahnaaGreatDoorRcOctet
import Derived.Laws.ResultCell
import Derived.Laws.Rows
import Derived.ChangeKeysEq
namespace Go.Proofs.YtmkohdepgfahnaaGreatDoor
open Go.RowKit
set_option linter.unusedVariables false

/-- What Addr answers: four bytes and an error. -/
def fourC (l : List Nat) : Array Value := #[.int .u8 (l.getD 0 0), .int .u8 (l.getD 1 0), .int .u8 (l.getD 2 0), .int .u8 (l.getD 3 0)]
def adrA (s : ByteArray) : Array Value := #[.agg (fourC (adrV s)), .int .i64 (adrE s)]
theorem adrA_no {s : ByteArray} (h : adrOk s = false) : adrA s = #[.agg (fourC [0, 0, 0, 0]), .int .i64 91] := by unfold adrA; rw [(adr_no h).1, (adr_no h).2]
theorem adrA_yes {s : ByteArray} (h : adrOk s = true) : adrA s = #[.agg (fourC (adrTo (wsOf s 46) 4)), .int .i64 0] := by unfold adrA; rw [(adr_yes h).1, (adr_yes h).2]
theorem info_four : (Tryz.prog.info? 110).map (·.size) = some 4 := by kernel_rfl
/-- The end of a function whose first result lies in a box. -/
theorem ret_fourA {fn : Func} {R : Ending → World → Prop} {a : Act} {w : World} {g : Nat} {cs : Array Value} {e : Value} (hres : fn.results = #[.cell 2 110, .tmp 3]) (ht : a.tmps.getD 2 undef = .pointer (some ⟨g, 0, none⟩)) (h3 : a.tmps.getD 3 undef = e) (hd : a.defers = [])
    (hg : w.heap[g]? = some (.cells cs 110 (0, 0))) (hz : cs.size = 4) (hR : R (.returned (.tuple #[.agg cs, e])) w) : bodyPost Tryz.prog fn R .ret a w := by
  refine bodyPost_ret ((results_cell_tmp hres _ _ _).trans ?_) hd hR
  have hl := run_loadVar_row (P := Tryz.prog) w g 110 110 cs (0, 0) _ hg Tryz.underlying110 rfl (by rw [info_four, hz])
  rw [ht, h3]
  simp only [asAddr, Sem.run_pure, Result.andThen, hl]
theorem fourC_set (ws : List ByteArray) (k n : Nat) (hk : k < 4) (hn : octN (ws.getD k ⟨#[]⟩) = n) : (fourC (adrTo ws k)).setIfInBounds k (.int .u8 n) = fourC (adrTo ws (k + 1)) := by
  subst hn
  match k, hk with
  | 0, _ => rfl
  | 1, _ => rfl
  | 2, _ => rfl
  | 3, _ => rfl
theorem fourC_at (l : List Nat) (k : Nat) (hk : k < 4) : (fourC l)[k]? = some (.int .u8 (l.getD k 0)) := by
  match k, hk with
  | 0, _ => rfl
  | 1, _ => rfl
  | 2, _ => rfl
  | 3, _ => rfl
theorem info_byte : ∃ i, Tryz.prog.info? 5 = some i := by
  cases h : Tryz.prog.info? 5 with
  | none => have : (Tryz.prog.info? 5).isSome = true := by kernel_rfl
            rw [h] at this; cases this
  | some i => exact ⟨i, rfl⟩
theorem cells_byte : Tryz.prog.cellsOf 5 = 1 := by kernel_rfl
theorem eq_four (w : World) (a b c d : Int) : (Op.equalIn 10000 110 (.agg #[.int .u8 a, .int .u8 b, .int .u8 c, .int .u8 d]) (.agg #[.int .u8 a, .int .u8 b, .int .u8 c, .int .u8 d])).run Tryz.prog w = .ok true w := by
  obtain ⟨i, hi⟩ := info_byte
  rw [show (10000 : Nat) = 9999 + 1 from rfl, run_equalIn_array w 9999 _ _ Tryz.underlying110 hi, cells_byte]
  simp only [show List.range 4 = [0, 1, 2, 3] from rfl, Op.eqItems]
  simp [go_sem, Sem.run_bind, part, Result.andThen]
/-- Four bytes stored into a box. -/
def put4 (w : World) (g : Nat) (l : List Nat) : World := (((w.setCell ⟨g, 0, none⟩ (.int .u8 (l.getD 0 0))).setCell ⟨g, 1, none⟩ (.int .u8 (l.getD 1 0))).setCell ⟨g, 2, none⟩ (.int .u8 (l.getD 2 0))).setCell ⟨g, 3, none⟩ (.int .u8 (l.getD 3 0))
theorem put4_row {w : World} {g : Nat} {m : List Nat} (h : w.heap[g]? = some (.cells (fourC m) 110)) (l : List Nat) : (put4 w g l).heap[g]? = some (.cells (fourC l) 110) := by
  unfold put4
  have h1 := Lib.heap_setCell_same (i := 0) h (.int .u8 (l.getD 0 0))
  have h2 := Lib.heap_setCell_same (i := 1) h1 (.int .u8 (l.getD 1 0))
  have h3 := Lib.heap_setCell_same (i := 2) h2 (.int .u8 (l.getD 2 0))
  exact Lib.heap_setCell_same (i := 3) h3 (.int .u8 (l.getD 3 0))
theorem put4_below {B : Nat} {a w : World} {g : Nat} (h : Below B a w) (hg : B ≤ g) (l : List Nat) : Below B a (put4 w g l) := (((h.setCell (p := ⟨g, 0, none⟩) hg _).setCell (p := ⟨g, 1, none⟩) hg _).setCell (p := ⟨g, 2, none⟩) hg _).setCell (p := ⟨g, 3, none⟩) hg _
/-- The loop of Addr over its four words. -/
structure AdI (w : World) (ws : List ByteArray) (cap k : Nat) (wr : World) : Prop where
  le : k ≤ 4
  res : wr.heap[w.heap.size]? = some (.cells (fourC [0, 0, 0, 0]) 110)
  arr : wr.heap[w.heap.size + 1]? = some (.cells (fourC (adrTo ws k)) 110)
  wrd : wr.heap[w.heap.size + 2]? = some (.cells (Lib.cellsOf ws cap) 9)
  below : Below w.heap.size w wr
  size : w.heap.size + 3 ≤ wr.heap.size
  good : ∀ j (h : j < ws.length), j < k → ∃ n, octP ws[j].data.toList = some n
theorem AdI.call {w : World} {ws : List ByteArray} {cap k : Nat} {wr w1 : World} (h : AdI w ws cap k wr) (hb : Below wr.heap.size wr w1) : AdI w ws cap k w1 := by
  have hz := h.size
  exact ⟨h.le, (hb.block _ (by omega)).trans h.res, (hb.block _ (by omega)).trans h.arr, (hb.block _ (by omega)).trans h.wrd, h.below.trans (hb.mono (by omega)), Nat.le_trans hz hb.size, h.good⟩
theorem AdI.store {w : World} {ws : List ByteArray} {cap k : Nat} {wr : World} (h : AdI w ws cap k wr) (hk : k < 4) (hl : ws.length = 4) {n : Nat} (hn : octP (ws[k]'(by omega)).data.toList = some n) : AdI w ws cap (k + 1) (wr.setCell ⟨w.heap.size + 1, k, none⟩ (.int .u8 n)) := by
  have hz := h.size
  refine ⟨by omega, ?_, ?_, ?_, h.below.setCell (by show w.heap.size ≤ w.heap.size + 1; omega) _, by rw [World.size_setCell]; exact hz, fun j hj hjk => ?_⟩
  · rw [heap_setCell_other _ _ _ _ (by show w.heap.size ≠ w.heap.size + 1; omega)]; exact h.res
  · rw [Lib.heap_setCell_same h.arr]
    rw [fourC_set ws k n hk (by unfold octN; rw [List.getD_eq_getElem?_getD, List.getElem?_eq_getElem (by omega)]; simp [hn])]
  · rw [heap_setCell_other _ _ _ _ (by show w.heap.size + 2 ≠ w.heap.size + 1; omega)]; exact h.wrd
  · rcases Nat.lt_or_ge j k with h' | h'
    · exact h.good j hj h'
    · obtain rfl : j = k := by omega
      exact ⟨n, hn⟩
theorem alloc_heap (w : World) (o : Obj) : (w.alloc o).heap = w.heap.push o := rfl
theorem three_alloc (w : World) (o1 o2 o3 : Obj) : (((w.alloc o1).alloc o2).alloc o3).heap[w.heap.size]? = some o1 ∧ (((w.alloc o1).alloc o2).alloc o3).heap[w.heap.size + 1]? = some o2 ∧ (((w.alloc o1).alloc o2).alloc o3).heap[w.heap.size + 2]? = some o3 ∧
    Below w.heap.size w (((w.alloc o1).alloc o2).alloc o3) ∧ (((w.alloc o1).alloc o2).alloc o3).heap.size = w.heap.size + 3 := by
  have h1 : (w.alloc o1).heap.size = w.heap.size + 1 := by rw [alloc_heap, Array.size_push]
  have h2 : ((w.alloc o1).alloc o2).heap.size = w.heap.size + 2 := by rw [alloc_heap, Array.size_push, h1]
  refine ⟨?_, ?_, ?_, (((Below.refl _ _).alloc (Nat.le_refl _) _).alloc (by omega) _).alloc (by omega) _, by rw [alloc_heap, Array.size_push, h2]⟩
  · rw [alloc_heap, Array.getElem?_push, if_neg (by omega), alloc_heap, Array.getElem?_push, if_neg (by omega), alloc_heap, Array.getElem?_push, if_pos rfl]
  · rw [alloc_heap, Array.getElem?_push, if_neg (by omega), alloc_heap, Array.getElem?_push, if_pos h1.symm]
  · rw [alloc_heap, Array.getElem?_push, if_pos h2.symm]
theorem cellsOf_at {ws : List ByteArray} {cap k : Nat} (hk : k < ws.length) : (Lib.cellsOf ws cap)[k]? = some (.string ws[k]) := by
  unfold Lib.cellsOf
  rw [List.getElem?_toArray, List.getElem?_append_left (by simpa using hk), List.getElem?_map, List.getElem?_eq_getElem hk]
  rfl

set_option maxRecDepth 100000 in
set_option maxHeartbeats 1000000 in
theorem addr_calls (s : ByteArray) (w : World) (hs : s.size ≤ 140737488351296) (hv : Vs w) :
    Calls Tryz.prog 76 #[.string s] w fun e w' => e = .returned (.tuple (adrA s)) ∧ Below w.heap.size w w' := by
  have HV : Hid (Vs w) := hv
  clear hv
  have HS : Hid (∀ w, Calls Tryz.prog 87 #[.string s, .string dotB, .int .i64 5] w fun e w' =>
      e = .returned (.slice (some ⟨w.heap.size, 0, none⟩) (words5 s).length (min 5 (s.size + 1))) ∧ w' = w.alloc (.cells (Lib.cellsOf (words5 s) (min 5 (s.size + 1))) 9)) := fun w => splitN_calls s w hs
  have HZ : Hid (∀ p ∈ words5 s, p.size ≤ s.size) := fun p hp => splitB_le _ _ _ _ p hp
  by_cases h4 : (words5 s).length = 4
  case neg =>
    have HN : Hid (adrA s = #[.agg (fourC [0, 0, 0, 0]), .int .i64 91]) := adrA_no (adr_len (words5_not s h4))
    have q5 : (((words5 s).length : Int) != 4) = true := by rw [bne, beq_eq_false_iff_ne.2 (by omega)]; rfl
    have q6 : ¬ ((words5 s).length : Int) = 4 := by omega
    go_enter Tryz.func76, Tryz.ntmps76
    go_wp2_with fail
    refine (HS.out _).mono ?_
    rintro e w1 ⟨rfl, rfl⟩
    go_wp2
    exact ret_fourA (g := w.heap.size) (cs := fourC [0, 0, 0, 0]) (e := .int .i64 91) rfl rfl rfl rfl (three_alloc _ _ _ _).1 rfl ⟨by rw [HN.out], (three_alloc _ _ _ _).2.2.2.1⟩
  have HW : Hid (words5 s = wsOf s 46) := words5_four s h4
  generalize words5 s = ws at *
  generalize min 5 (s.size + 1) = cap at *
  have HL : Hid (ws.length = 4) := h4
  go_enter Tryz.func76, Tryz.ntmps76
  go_wp2_with fail
  refine (HS.out _).mono ?_
  rw [h4]
  rintro e w1 ⟨rfl, hw⟩
  have HI : Hid (AdI w ws cap 0 w1) := by
    subst hw
    obtain ⟨a, b, c, d, e⟩ := three_alloc w (.cells (fourC [0, 0, 0, 0]) 110) (.cells (fourC [0, 0, 0, 0]) 110) (.cells (Lib.cellsOf ws cap) 9)
    exact ⟨by omega, a, b, c, d, Nat.le_of_eq e.symm, fun j _ h => by omega⟩
  clear hw h4
  go_wp2
  go_loopw [18] (fun x wr => ∃ k : Nat, k ≤ 4 ∧ x = .int .i64 k ∧ Hid (AdI w ws cap k wr)) (fun x _ => 4 - (intOf x).toNat)
  case atStart => exact ⟨0, Nat.zero_le _, rfl, HI⟩
  case round =>
    obtain ⟨k, hk, rfl, HJ⟩ := hrel
    clear HI
    by_cases hlt : k < 4
    · have hkw : k < ws.length := by rw [HL.out]; exact hlt
      have c0 : wr.cell? ⟨w.heap.size + 1 + 1, k, none⟩ = some (.string ws[k]) := (cell_of_row _ _ _ _ _ _ HJ.out.wrd).trans (cellsOf_at hkw)
      have HO : Hid (Calls Tryz.prog 88 #[.string ws[k]] wr fun e w' => e = .returned (.tuple (octA ws[k])) ∧ Below wr.heap.size wr w') := octet_calls ws[k] wr (by have := HZ.out ws[k] (List.getElem_mem hkw); omega) (HV.out.stay HJ.out.below)
      obtain ⟨p, hp⟩ : ∃ p, p = ws[k] := ⟨_, rfl⟩
      cases ho : octP ws[k].data.toList with
      | some n =>
        have hn := oct_le ho
        have qn : (n : Int) ≤ 255 := by omega
        rw [octA_some ho] at HO
        have HN : Hid (octP ws[k].data.toList = some n) := ho
        clear ho
        rw [← hp] at c0 HO
        have Hp : Hid (p = ws[k]) := hp
        clear hp
        go_wp2_with fail
        refine HO.out.mono ?_
        rintro e w1 ⟨rfl, hb1⟩
        have HJ1 : Hid (AdI w ws cap k w1) := HJ.out.call hb1
        have c1 : w1.cell? ⟨w.heap.size + 1, k, none⟩ = some (.int .u8 ((adrTo ws k).getD k 0)) := (cell_of_row _ _ _ _ _ _ HJ1.out.arr).trans (fourC_at _ k hlt)
        have z1 : w1.frozen? ⟨w.heap.size + 1, k, none⟩ = false := by simp [World.frozen?, HJ1.out.arr]
        have HJ2 : Hid (AdI w ws cap (k + 1) (w1.setCell ⟨w.heap.size + 1, k, none⟩ (.int .u8 n))) := HJ1.out.store hlt HL.out HN.out
        clear hb1 HO
        go_wp2
        go_roundw
        case rel => exact ⟨k + 1, by omega, by go_num, HJ2⟩
        case measure => simp [intOf]; omega
      | none =>
        have HN : Hid (adrA s = #[.agg (fourC [0, 0, 0, 0]), .int .i64 91]) := adrA_no (adr_bad (k := k) (by rw [← HW.out]; exact hkw) (by simp only [← HW.out]; exact ho))
        rw [octA_none ho] at HO
        clear ho
        rw [← hp] at c0 HO
        clear hp
        go_wp2_with fail
        refine HO.out.mono ?_
        rintro e w1 ⟨rfl, hb1⟩
        have HJ1 : Hid (AdI w ws cap k w1) := HJ.out.call hb1
        have c1 : ∀ j, j < 4 → w1.cell? ⟨w.heap.size, j, none⟩ = some (.int .u8 0) := fun j hj => (cell_of_row _ _ _ _ _ _ HJ1.out.res).trans ((fourC_at _ j hj).trans (by match j, hj with | 0, _ => rfl | 1, _ => rfl | 2, _ => rfl | 3, _ => rfl))
        have r0 := c1 0 (by omega)
        have r1 := c1 1 (by omega)
        have r2 := c1 2 (by omega)
        have r3 := c1 3 (by omega)
        have z1 : ∀ j, w1.frozen? ⟨w.heap.size, j, none⟩ = false := fun j => by simp [World.frozen?, HJ1.out.res]
        clear hb1 HO c1
        go_wp2
        exact ret_fourA (g := w.heap.size) (cs := fourC [0, 0, 0, 0]) (e := .int .i64 91) rfl rfl rfl rfl (put4_row HJ1.out.res [0, 0, 0, 0]) rfl ⟨by rw [HN.out], put4_below HJ1.out.below (Nat.le_refl _) [0, 0, 0, 0]⟩
    · obtain rfl : k = 4 := by omega
      have HG : Hid (adrA s = #[.agg (fourC (adrTo ws 4)), .int .i64 0]) := by
        rw [HW.out]
        exact adrA_yes (adr_good (by rw [← HW.out]; exact HL.out) fun k hk => by
          have := HJ.out.good k (by rw [HW.out]; exact hk) (by rw [← HW.out, HL.out] at hk; exact hk)
          simpa only [← HW.out] using this)
      have c1 : ∀ j, j < 4 → wr.cell? ⟨w.heap.size + 1, j, none⟩ = some (.int .u8 ((adrTo ws 4).getD j 0)) := fun j hj => (cell_of_row _ _ _ _ _ _ HJ.out.arr).trans (fourC_at _ j hj)
      have r0 := c1 0 (by omega)
      have r1 := c1 1 (by omega)
      have r2 := c1 2 (by omega)
      have r3 := c1 3 (by omega)
      have d1 : ∀ j, j < 4 → wr.cell? ⟨w.heap.size, j, none⟩ = some (.int .u8 0) := fun j hj => (cell_of_row _ _ _ _ _ _ HJ.out.res).trans ((fourC_at _ j hj).trans (by match j, hj with | 0, _ => rfl | 1, _ => rfl | 2, _ => rfl | 3, _ => rfl))
      have d2 := d1 0 (by omega)
      have d3 := d1 1 (by omega)
      have d4 := d1 2 (by omega)
      have d5 := d1 3 (by omega)
      have z1 : ∀ j, wr.frozen? ⟨w.heap.size, j, none⟩ = false := fun j => by simp [World.frozen?, HJ.out.res]
      clear c1 d1
      go_wp2
      exact ret_fourA (g := w.heap.size) (cs := fourC (adrTo ws 4)) (e := .int .i64 0) rfl rfl rfl rfl (put4_row HJ.out.res (adrTo ws 4)) rfl ⟨by rw [HG.out], put4_below HJ.out.below (Nat.le_refl _) (adrTo ws 4)⟩
end Go.Proofs.YtmkohdepgfahnaaGreatDoor
