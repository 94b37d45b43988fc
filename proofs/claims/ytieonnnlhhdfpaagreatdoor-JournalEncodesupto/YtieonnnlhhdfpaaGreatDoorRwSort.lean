import Derived.Test.YtieonnnlhhdfpaaGreatDoorRcOctet
import Derived.Laws.ResultCell
import Derived.Laws.Rows
import Derived.ChangeKeysEq
import Derived.Test.YtieonnnlhhdfpaaGreatDoorRcLabel
import Derived.Test.YtieonnnlhhdfpaaGreatDoorRcSplit
import Derived.Test.YtieonnnlhhdfpaaGreatDoorSBase
import Derived.Test.YtieonnnlhhdfpaaGreatDoorShelf
import Derived.Sort.OwnSorted
/- Layer 9 (records): Addr. -/
namespace Go.Proofs.YtieonnnlhhdfpaaGreatDoor
open Go.RowKit
set_option linter.unusedVariables false

/-- What Addr answers: four bytes and an error. -/
def fourC (l : List Nat) : Array Value := #[.int .u8 (l.getD 0 0), .int .u8 (l.getD 1 0), .int .u8 (l.getD 2 0), .int .u8 (l.getD 3 0)]
def adrA (s : ByteArray) : Array Value := #[.agg (fourC (adrV s)), .int .i64 (adrE s)]
theorem adrA_no {s : ByteArray} (h : adrOk s = false) : adrA s = #[.agg (fourC [0, 0, 0, 0]), .int .i64 91] := by unfold adrA; rw [(adr_no h).1, (adr_no h).2]
theorem adrA_yes {s : ByteArray} (h : adrOk s = true) : adrA s = #[.agg (fourC (adrTo (wsOf s 46) 4)), .int .i64 0] := by unfold adrA; rw [(adr_yes h).1, (adr_yes h).2]
theorem info_four : (Tryz.prog.info? 125).map (·.size) = some 4 := by kernel_rfl
/-- The end of a function whose first result lies in a box. -/
theorem ret_fourA {fn : Func} {R : Ending → World → Prop} {a : Act} {w : World} {g : Nat} {cs : Array Value} {e : Value} (hres : fn.results = #[.cell 2 125, .tmp 3]) (ht : a.tmps.getD 2 undef = .pointer (some ⟨g, 0, none⟩)) (h3 : a.tmps.getD 3 undef = e) (hd : a.defers = [])
    (hg : w.heap[g]? = some (.cells cs 125 (0, 0))) (hz : cs.size = 4) (hR : R (.returned (.tuple #[.agg cs, e])) w) : bodyPost Tryz.prog fn R .ret a w := by
  refine bodyPost_ret ((results_cell_tmp hres _ _ _).trans ?_) hd hR
  have hl := run_loadVar_row (P := Tryz.prog) w g 125 125 cs (0, 0) _ hg Tryz.underlying125 rfl (by rw [info_four, hz])
  rw [ht, h3]
  simp only [asAddr, Sem.run_pure, Result.andThen, hl]
theorem fourC_set (ws : List ByteArray) (k n : Nat) (hk : k < 4) (hn : octN (ws.getD k ⟨#[]⟩) = n) : (fourC (adrTo ws k)).setIfInBounds k (.int .u8 n) = fourC (adrTo ws (k + 1)) := by
  subst hn
  match k, hk with
  | 0, _ => rfl
  | 1, _ => rfl
  | 2, _ => rfl
  | 3, _ => rfl
theorem fourC_at (l : List Nat) (k : Nat) (hk : k < 4) : (fourC l)[k]? = some (.int .u8 (l.getD k 0)) := by
  match k, hk with
  | 0, _ => rfl
  | 1, _ => rfl
  | 2, _ => rfl
  | 3, _ => rfl
theorem info_byte : ∃ i, Tryz.prog.info? 5 = some i := by
  cases h : Tryz.prog.info? 5 with
  | none => have : (Tryz.prog.info? 5).isSome = true := by kernel_rfl
            rw [h] at this; cases this
  | some i => exact ⟨i, rfl⟩
theorem cells_byte : Tryz.prog.cellsOf 5 = 1 := by kernel_rfl
theorem eq_four (w : World) (a b c d : Int) : (Op.equalIn 10000 125 (.agg #[.int .u8 a, .int .u8 b, .int .u8 c, .int .u8 d]) (.agg #[.int .u8 a, .int .u8 b, .int .u8 c, .int .u8 d])).run Tryz.prog w = .ok true w := by
  obtain ⟨i, hi⟩ := info_byte
  rw [show (10000 : Nat) = 9999 + 1 from rfl, run_equalIn_array w 9999 _ _ Tryz.underlying125 hi, cells_byte]
  simp only [show List.range 4 = [0, 1, 2, 3] from rfl, Op.eqItems]
  simp [go_sem, Sem.run_bind, part, Result.andThen]
/-- Four bytes stored into a box. -/
def put4 (w : World) (g : Nat) (l : List Nat) : World := (((w.setCell ⟨g, 0, none⟩ (.int .u8 (l.getD 0 0))).setCell ⟨g, 1, none⟩ (.int .u8 (l.getD 1 0))).setCell ⟨g, 2, none⟩ (.int .u8 (l.getD 2 0))).setCell ⟨g, 3, none⟩ (.int .u8 (l.getD 3 0))
theorem put4_row {w : World} {g : Nat} {m : List Nat} (h : w.heap[g]? = some (.cells (fourC m) 125)) (l : List Nat) : (put4 w g l).heap[g]? = some (.cells (fourC l) 125) := by
  unfold put4
  have h1 := Lib.heap_setCell_same (i := 0) h (.int .u8 (l.getD 0 0))
  have h2 := Lib.heap_setCell_same (i := 1) h1 (.int .u8 (l.getD 1 0))
  have h3 := Lib.heap_setCell_same (i := 2) h2 (.int .u8 (l.getD 2 0))
  exact Lib.heap_setCell_same (i := 3) h3 (.int .u8 (l.getD 3 0))
theorem put4_below {B : Nat} {a w : World} {g : Nat} (h : Below B a w) (hg : B ≤ g) (l : List Nat) : Below B a (put4 w g l) := (((h.setCell (p := ⟨g, 0, none⟩) hg _).setCell (p := ⟨g, 1, none⟩) hg _).setCell (p := ⟨g, 2, none⟩) hg _).setCell (p := ⟨g, 3, none⟩) hg _
/-- The loop of Addr over its four words. -/
structure AdI (w : World) (ws : List ByteArray) (cap k : Nat) (wr : World) : Prop where
  le : k ≤ 4
  res : wr.heap[w.heap.size]? = some (.cells (fourC [0, 0, 0, 0]) 125)
  arr : wr.heap[w.heap.size + 1]? = some (.cells (fourC (adrTo ws k)) 125)
  wrd : wr.heap[w.heap.size + 2]? = some (.cells (Lib.cellsOf ws cap) 9)
  below : Below w.heap.size w wr
  size : w.heap.size + 3 ≤ wr.heap.size
  good : ∀ j (h : j < ws.length), j < k → ∃ n, octP ws[j].data.toList = some n
theorem AdI.call {w : World} {ws : List ByteArray} {cap k : Nat} {wr w1 : World} (h : AdI w ws cap k wr) (hb : Below wr.heap.size wr w1) : AdI w ws cap k w1 := by
  have hz := h.size
  exact ⟨h.le, (hb.block _ (by omega)).trans h.res, (hb.block _ (by omega)).trans h.arr, (hb.block _ (by omega)).trans h.wrd, h.below.trans (hb.mono (by omega)), Nat.le_trans hz hb.size, h.good⟩
theorem AdI.store {w : World} {ws : List ByteArray} {cap k : Nat} {wr : World} (h : AdI w ws cap k wr) (hk : k < 4) (hl : ws.length = 4) {n : Nat} (hn : octP (ws[k]'(by omega)).data.toList = some n) : AdI w ws cap (k + 1) (wr.setCell ⟨w.heap.size + 1, k, none⟩ (.int .u8 n)) := by
  have hz := h.size
  refine ⟨by omega, ?_, ?_, ?_, h.below.setCell (by show w.heap.size ≤ w.heap.size + 1; omega) _, by rw [World.size_setCell]; exact hz, fun j hj hjk => ?_⟩
  · rw [heap_setCell_other _ _ _ _ (by show w.heap.size ≠ w.heap.size + 1; omega)]; exact h.res
  · rw [Lib.heap_setCell_same h.arr]
    rw [fourC_set ws k n hk (by unfold octN; rw [List.getD_eq_getElem?_getD, List.getElem?_eq_getElem (by omega)]; simp [hn])]
  · rw [heap_setCell_other _ _ _ _ (by show w.heap.size + 2 ≠ w.heap.size + 1; omega)]; exact h.wrd
  · rcases Nat.lt_or_ge j k with h' | h'
    · exact h.good j hj h'
    · obtain rfl : j = k := by omega
      exact ⟨n, hn⟩
theorem alloc_heap (w : World) (o : Obj) : (w.alloc o).heap = w.heap.push o := rfl
theorem three_alloc (w : World) (o1 o2 o3 : Obj) : (((w.alloc o1).alloc o2).alloc o3).heap[w.heap.size]? = some o1 ∧ (((w.alloc o1).alloc o2).alloc o3).heap[w.heap.size + 1]? = some o2 ∧ (((w.alloc o1).alloc o2).alloc o3).heap[w.heap.size + 2]? = some o3 ∧
    Below w.heap.size w (((w.alloc o1).alloc o2).alloc o3) ∧ (((w.alloc o1).alloc o2).alloc o3).heap.size = w.heap.size + 3 := by
  have h1 : (w.alloc o1).heap.size = w.heap.size + 1 := by rw [alloc_heap, Array.size_push]
  have h2 : ((w.alloc o1).alloc o2).heap.size = w.heap.size + 2 := by rw [alloc_heap, Array.size_push, h1]
  refine ⟨?_, ?_, ?_, (((Below.refl _ _).alloc (Nat.le_refl _) _).alloc (by omega) _).alloc (by omega) _, by rw [alloc_heap, Array.size_push, h2]⟩
  · rw [alloc_heap, Array.getElem?_push, if_neg (by omega), alloc_heap, Array.getElem?_push, if_neg (by omega), alloc_heap, Array.getElem?_push, if_pos rfl]
  · rw [alloc_heap, Array.getElem?_push, if_neg (by omega), alloc_heap, Array.getElem?_push, if_pos h1.symm]
  · rw [alloc_heap, Array.getElem?_push, if_pos h2.symm]
theorem cellsOf_at {ws : List ByteArray} {cap k : Nat} (hk : k < ws.length) : (Lib.cellsOf ws cap)[k]? = some (.string ws[k]) := by
  unfold Lib.cellsOf
  rw [List.getElem?_toArray, List.getElem?_append_left (by simpa using hk), List.getElem?_map, List.getElem?_eq_getElem hk]
  rfl

set_option maxRecDepth 100000 in
set_option maxHeartbeats 1000000 in
theorem addr_calls (s : ByteArray) (w : World) (hs : s.size ≤ 140737488351296) (hv : Vs w) :
    Calls Tryz.prog 83 #[.string s] w fun e w' => e = .returned (.tuple (adrA s)) ∧ Below w.heap.size w w' := by
  have HV : Hid (Vs w) := hv
  clear hv
  have HS : Hid (∀ w, Calls Tryz.prog 94 #[.string s, .string dotB, .int .i64 5] w fun e w' =>
      e = .returned (.slice (some ⟨w.heap.size, 0, none⟩) (words5 s).length (min 5 (s.size + 1))) ∧ w' = w.alloc (.cells (Lib.cellsOf (words5 s) (min 5 (s.size + 1))) 9)) := fun w => splitN_calls s w hs
  have HZ : Hid (∀ p ∈ words5 s, p.size ≤ s.size) := fun p hp => splitB_le _ _ _ _ p hp
  by_cases h4 : (words5 s).length = 4
  case neg =>
    have HN : Hid (adrA s = #[.agg (fourC [0, 0, 0, 0]), .int .i64 91]) := adrA_no (adr_len (words5_not s h4))
    have q5 : (((words5 s).length : Int) != 4) = true := by rw [bne, beq_eq_false_iff_ne.2 (by omega)]; rfl
    have q6 : ¬ ((words5 s).length : Int) = 4 := by omega
    go_enter Tryz.func83, Tryz.ntmps83
    go_wp2_with fail
    refine (HS.out _).mono ?_
    rintro e w1 ⟨rfl, rfl⟩
    go_wp2
    exact ret_fourA (g := w.heap.size) (cs := fourC [0, 0, 0, 0]) (e := .int .i64 91) rfl rfl rfl rfl (three_alloc _ _ _ _).1 rfl ⟨by rw [HN.out], (three_alloc _ _ _ _).2.2.2.1⟩
  have HW : Hid (words5 s = wsOf s 46) := words5_four s h4
  generalize words5 s = ws at *
  generalize min 5 (s.size + 1) = cap at *
  have HL : Hid (ws.length = 4) := h4
  go_enter Tryz.func83, Tryz.ntmps83
  go_wp2_with fail
  refine (HS.out _).mono ?_
  rw [h4]
  rintro e w1 ⟨rfl, hw⟩
  have HI : Hid (AdI w ws cap 0 w1) := by
    subst hw
    obtain ⟨a, b, c, d, e⟩ := three_alloc w (.cells (fourC [0, 0, 0, 0]) 125) (.cells (fourC [0, 0, 0, 0]) 125) (.cells (Lib.cellsOf ws cap) 9)
    exact ⟨by omega, a, b, c, d, Nat.le_of_eq e.symm, fun j _ h => by omega⟩
  clear hw h4
  go_wp2
  go_loopw [18] (fun x wr => ∃ k : Nat, k ≤ 4 ∧ x = .int .i64 k ∧ Hid (AdI w ws cap k wr)) (fun x _ => 4 - (intOf x).toNat)
  case atStart => exact ⟨0, Nat.zero_le _, rfl, HI⟩
  case round =>
    obtain ⟨k, hk, rfl, HJ⟩ := hrel
    clear HI
    by_cases hlt : k < 4
    · have hkw : k < ws.length := by rw [HL.out]; exact hlt
      have c0 : wr.cell? ⟨w.heap.size + 1 + 1, k, none⟩ = some (.string ws[k]) := (cell_of_row _ _ _ _ _ _ HJ.out.wrd).trans (cellsOf_at hkw)
      have HO : Hid (Calls Tryz.prog 95 #[.string ws[k]] wr fun e w' => e = .returned (.tuple (octA ws[k])) ∧ Below wr.heap.size wr w') := octet_calls ws[k] wr (by have := HZ.out ws[k] (List.getElem_mem hkw); omega) (HV.out.stay HJ.out.below)
      obtain ⟨p, hp⟩ : ∃ p, p = ws[k] := ⟨_, rfl⟩
      cases ho : octP ws[k].data.toList with
      | some n =>
        have hn := oct_le ho
        have qn : (n : Int) ≤ 255 := by omega
        rw [octA_some ho] at HO
        have HN : Hid (octP ws[k].data.toList = some n) := ho
        clear ho
        rw [← hp] at c0 HO
        have Hp : Hid (p = ws[k]) := hp
        clear hp
        go_wp2_with fail
        refine HO.out.mono ?_
        rintro e w1 ⟨rfl, hb1⟩
        have HJ1 : Hid (AdI w ws cap k w1) := HJ.out.call hb1
        have c1 : w1.cell? ⟨w.heap.size + 1, k, none⟩ = some (.int .u8 ((adrTo ws k).getD k 0)) := (cell_of_row _ _ _ _ _ _ HJ1.out.arr).trans (fourC_at _ k hlt)
        have z1 : w1.frozen? ⟨w.heap.size + 1, k, none⟩ = false := by simp [World.frozen?, HJ1.out.arr]
        have HJ2 : Hid (AdI w ws cap (k + 1) (w1.setCell ⟨w.heap.size + 1, k, none⟩ (.int .u8 n))) := HJ1.out.store hlt HL.out HN.out
        clear hb1 HO
        go_wp2
        go_roundw
        case rel => exact ⟨k + 1, by omega, by go_num, HJ2⟩
        case measure => simp [intOf]; omega
      | none =>
        have HN : Hid (adrA s = #[.agg (fourC [0, 0, 0, 0]), .int .i64 91]) := adrA_no (adr_bad (k := k) (by rw [← HW.out]; exact hkw) (by simp only [← HW.out]; exact ho))
        rw [octA_none ho] at HO
        clear ho
        rw [← hp] at c0 HO
        clear hp
        go_wp2_with fail
        refine HO.out.mono ?_
        rintro e w1 ⟨rfl, hb1⟩
        have HJ1 : Hid (AdI w ws cap k w1) := HJ.out.call hb1
        have c1 : ∀ j, j < 4 → w1.cell? ⟨w.heap.size, j, none⟩ = some (.int .u8 0) := fun j hj => (cell_of_row _ _ _ _ _ _ HJ1.out.res).trans ((fourC_at _ j hj).trans (by match j, hj with | 0, _ => rfl | 1, _ => rfl | 2, _ => rfl | 3, _ => rfl))
        have r0 := c1 0 (by omega)
        have r1 := c1 1 (by omega)
        have r2 := c1 2 (by omega)
        have r3 := c1 3 (by omega)
        have z1 : ∀ j, w1.frozen? ⟨w.heap.size, j, none⟩ = false := fun j => by simp [World.frozen?, HJ1.out.res]
        clear hb1 HO c1
        go_wp2
        exact ret_fourA (g := w.heap.size) (cs := fourC [0, 0, 0, 0]) (e := .int .i64 91) rfl rfl rfl rfl (put4_row HJ1.out.res [0, 0, 0, 0]) rfl ⟨by rw [HN.out], put4_below HJ1.out.below (Nat.le_refl _) [0, 0, 0, 0]⟩
    · obtain rfl : k = 4 := by omega
      have HG : Hid (adrA s = #[.agg (fourC (adrTo ws 4)), .int .i64 0]) := by
        rw [HW.out]
        exact adrA_yes (adr_good (by rw [← HW.out]; exact HL.out) fun k hk => by
          have := HJ.out.good k (by rw [HW.out]; exact hk) (by rw [← HW.out, HL.out] at hk; exact hk)
          simpa only [← HW.out] using this)
      have c1 : ∀ j, j < 4 → wr.cell? ⟨w.heap.size + 1, j, none⟩ = some (.int .u8 ((adrTo ws 4).getD j 0)) := fun j hj => (cell_of_row _ _ _ _ _ _ HJ.out.arr).trans (fourC_at _ j hj)
      have r0 := c1 0 (by omega)
      have r1 := c1 1 (by omega)
      have r2 := c1 2 (by omega)
      have r3 := c1 3 (by omega)
      have d1 : ∀ j, j < 4 → wr.cell? ⟨w.heap.size, j, none⟩ = some (.int .u8 0) := fun j hj => (cell_of_row _ _ _ _ _ _ HJ.out.res).trans ((fourC_at _ j hj).trans (by match j, hj with | 0, _ => rfl | 1, _ => rfl | 2, _ => rfl | 3, _ => rfl))
      have d2 := d1 0 (by omega)
      have d3 := d1 1 (by omega)
      have d4 := d1 2 (by omega)
      have d5 := d1 3 (by omega)
      have z1 : ∀ j, wr.frozen? ⟨w.heap.size, j, none⟩ = false := fun j => by simp [World.frozen?, HJ.out.res]
      clear c1 d1
      go_wp2
      exact ret_fourA (g := w.heap.size) (cs := fourC (adrTo ws 4)) (e := .int .i64 0) rfl rfl rfl rfl (put4_row HJ.out.res (adrTo ws 4)) rfl ⟨by rw [HG.out], put4_below HJ.out.below (Nat.le_refl _) (adrTo ws 4)⟩
end Go.Proofs.YtieonnnlhhdfpaaGreatDoor

/- Layer 9 (records): FixNode. -/
namespace Go.Proofs.YtieonnnlhhdfpaaGreatDoor
open Go.RowKit
set_option linter.unusedVariables false

structure Nd where
  name : ByteArray
  addr : ByteArray
  made : Int
  changed : Int
def Nd.v (n : Nd) : Array Value := #[.string n.name, .string n.addr, .int .u64 n.made, .int .u64 n.changed]
def nodeZ : Nd := ⟨⟨#[]⟩, ⟨#[]⟩, 0, 0⟩
def nodeE (n : Nd) : Int := orE (labE n.name) (adrE n.addr)
def fixN (n : Nd) : Nd := if nodeE n = 0 then ⟨labT n.name, n.addr, 0, 0⟩ else nodeZ
theorem fixN_yes {n : Nd} (h : nodeE n = 0) : fixN n = ⟨labT n.name, n.addr, 0, 0⟩ := if_pos h
theorem fixN_no {n : Nd} (h : ¬ nodeE n = 0) : fixN n = nodeZ := if_neg h
theorem info_node : (Tryz.prog.info? 54).map (·.size) = some 4 := by kernel_rfl
theorem load_node {w : World} {g : Nat} {cs : Array Value} (h : Blk w g cs 54) (hs : cs.size = 4) : (loadVar 54 ⟨g, 0, none⟩).run Tryz.prog w = .ok (.agg cs) w :=
  run_loadVar_row (P := Tryz.prog) w g 54 54 cs (0, 0) _ h Tryz.underlying54 rfl (by rw [info_node, hs])

set_option maxRecDepth 100000 in
set_option maxHeartbeats 2000000 in
theorem fixNode_calls (n : Nd) (w : World) (h1 : n.name.size ≤ 140737488351296) (h2 : n.addr.size ≤ 140737488351296) (hv : Vs w) :
    Calls Tryz.prog 74 #[.agg n.v] w fun e w' => e = .returned (.tuple #[.agg (fixN n).v, .int .i64 (nodeE n)]) ∧ Below w.heap.size w w' := by
  obtain ⟨ne, Hne⟩ : ∃ ne, Hid (ne = nodeE n) := ⟨_, rfl⟩
  have HY : Hid (ne = 0 → (fixN n).v = #[.string (labT n.name), .string n.addr, .int .u64 0, .int .u64 0]) := fun h => by rw [fixN_yes (by rw [← Hne.out]; exact h)]; rfl
  have HN : Hid (¬ ne = 0 → (fixN n).v = #[.string ⟨#[]⟩, .string ⟨#[]⟩, .int .u64 0, .int .u64 0]) := fun h => by rw [fixN_no (by rw [← Hne.out]; exact h)]; rfl
  have HE : Hid (ne = orE (labE n.name) (adrE n.addr)) := Hne.out
  rw [← Hne.out]
  have HV : Hid (Vs w) := hv
  clear hv Hne
  obtain ⟨nm, ad, mk, ch⟩ := n
  simp only [Nd.v] at *
  have HA := adrA ad
  obtain ⟨a0, a1, a2, a3, haA⟩ : ∃ a b c d, adrA ad = #[.agg #[.int .u8 a, .int .u8 b, .int .u8 c, .int .u8 d], .int .i64 (adrE ad)] := ⟨_, _, _, _, rfl⟩
  have HAd : Hid (∀ w, Vs w → Calls Tryz.prog 83 #[.string ad] w fun e w' => e = .returned (.tuple #[.agg #[.int .u8 a0, .int .u8 a1, .int .u8 a2, .int .u8 a3], .int .i64 (adrE ad)]) ∧ Below w.heap.size w w') := fun w hv => by
    have := addr_calls ad w h2 hv
    rw [haA] at this
    exact this
  clear haA HA
  obtain ⟨w2, Hw2⟩ : ∃ w2, Hid (w2 = (w.alloc (.cells #[.string nm, .string ad, .int .u64 mk, .int .u64 ch] 54)).alloc (.cells #[.string ⟨#[]⟩, .string ⟨#[]⟩, .int .u64 0, .int .u64 0] 54)) := ⟨_, rfl⟩
  have hz : (w.alloc (.cells #[.string nm, .string ad, .int .u64 mk, .int .u64 ch] 54)).heap.size = w.heap.size + 1 := size_new _ _
  have HX : Hid (Blk w2 w.heap.size #[.string nm, .string ad, .int .u64 mk, .int .u64 ch] 54) := by rw [Hw2.out]; exact (Blk.new _ _ _).alloc _
  have HR : Hid (Blk w2 (w.heap.size + 1) #[.string ⟨#[]⟩, .string ⟨#[]⟩, .int .u64 0, .int .u64 0] 54) := by rw [Hw2.out, ← hz]; exact Blk.new _ _ _
  have HB2 : Hid (Below w.heap.size w w2) := by rw [Hw2.out]; exact (below_new w _).alloc (by rw [hz]; omega) _
  clear hz
  go_enter Tryz.func74, Tryz.ntmps74
  go_wp2_with fail
  rw [← Hw2.out]
  clear Hw2
  refine (label_calls nm w2 h1).mono ?_
  rintro e w3 ⟨rfl, hb3⟩
  have HX3 : Hid (Blk w3 w.heap.size #[.string nm, .string ad, .int .u64 mk, .int .u64 ch] 54) := HX.out.below hb3
  have HR3 : Hid (Blk w3 (w.heap.size + 1) #[.string ⟨#[]⟩, .string ⟨#[]⟩, .int .u64 0, .int .u64 0] 54) := HR.out.below hb3
  have HB3 : Hid (Below w.heap.size w w3) := HB2.out.trans (hb3.mono HB2.out.size)
  have c1 := HX3.out.cell 1 rfl
  clear hb3 HX HR HB2
  go_wp2_with fail
  refine (HAd.out w3 (HV.out.stay HB3.out)).mono ?_
  rintro e w4 ⟨rfl, hb4⟩
  have HX4 : Hid (Blk w4 w.heap.size #[.string nm, .string ad, .int .u64 mk, .int .u64 ch] 54) := HX3.out.below hb4
  have HR4 : Hid (Blk w4 (w.heap.size + 1) #[.string ⟨#[]⟩, .string ⟨#[]⟩, .int .u64 0, .int .u64 0] 54) := HR3.out.below hb4
  have HB4 : Hid (Below w.heap.size w w4) := HB3.out.trans (hb4.mono HB3.out.size)
  clear hb4 HX3 HR3 HB3 c1
  go_wp2_with fail
  obtain ⟨w5, Hw5⟩ : ∃ w5, Hid (w5 = w4.alloc (.cells #[.int .u8 a0, .int .u8 a1, .int .u8 a2, .int .u8 a3] 125)) := ⟨_, rfl⟩
  have HX5 : Hid (Blk w5 w.heap.size #[.string nm, .string ad, .int .u64 mk, .int .u64 ch] 54) := by rw [Hw5.out]; exact HX4.out.alloc _
  have HR5 : Hid (Blk w5 (w.heap.size + 1) #[.string ⟨#[]⟩, .string ⟨#[]⟩, .int .u64 0, .int .u64 0] 54) := by rw [Hw5.out]; exact HR4.out.alloc _
  have HB5 : Hid (Below w.heap.size w w5) := by rw [Hw5.out]; exact HB4.out.alloc HB4.out.size _
  have hz5 : w4.heap.size + 1 = w5.heap.size := by rw [Hw5.out]; exact (size_new _ _).symm
  clear HX4 HR4
  rw [← Hw5.out]
  clear Hw5
  refine (first2_calls (labE nm) (adrE ad) _ w5 hz5).mono ?_
  rintro e w6 ⟨he, hw6⟩
  rw [show orE (labE nm) (adrE ad) = ne from HE.out.symm] at he
  subst he
  have HX6 : Hid (Blk w6 w.heap.size #[.string nm, .string ad, .int .u64 mk, .int .u64 ch] 54) := by rw [hw6]; exact HX5.out.alloc _
  have HR6 : Hid (Blk w6 (w.heap.size + 1) #[.string ⟨#[]⟩, .string ⟨#[]⟩, .int .u64 0, .int .u64 0] 54) := by rw [hw6]; exact HR5.out.alloc _
  have HB6 : Hid (Below w.heap.size w w6) := by rw [hw6]; exact HB5.out.alloc HB5.out.size _
  clear hw6 HX5 HR5 HB5 HB4 hz5
  by_cases h0 : ne = 0
  · have HQ : Hid (_ = _) := HY.out h0
    have q : (ne != 0) = false := by simpa using h0
    have H0 : Hid (0 = ne) := h0.symm
    have c1 := HX6.out.cell 1 rfl
    clear h0 HY HN
    go_wp2_with fail
    refine (rclone_calls ad w6 h2).mono ?_
    rintro e w7 ⟨rfl, hb7⟩
    have HR7 : Hid (Blk w7 (w.heap.size + 1) #[.string ⟨#[]⟩, .string ⟨#[]⟩, .int .u64 0, .int .u64 0] 54) := HR6.out.below hb7
    have HB7 : Hid (Below w.heap.size w w7) := HB6.out.trans (hb7.mono HB6.out.size)
    have r0 := HR7.out.cell 0 rfl
    have r1 := HR7.out.cell 1 rfl
    have r2 := HR7.out.cell 2 rfl
    have r3 := HR7.out.cell 3 rfl
    have z := HR7.out.open
    clear hb7 c1
    go_wp2
    exact ret_box (g := w.heap.size + 1) (e := .int .i64 0) rfl rfl rfl rfl (load_node (putC_all (l := [.string (labT nm), .string ad, .int .u64 0, .int .u64 0]) HR7.out rfl) rfl) ⟨ret_agg HQ.out.symm H0.out, putC_below [.string (labT nm), .string ad, .int .u64 0, .int .u64 0] w7 0 HB7.out (by omega)⟩
  · have HQ : Hid (_ = _) := HN.out h0
    have q : (ne != 0) = true := by simpa using h0
    have r0 := HR6.out.cell 0 rfl
    have r1 := HR6.out.cell 1 rfl
    have r2 := HR6.out.cell 2 rfl
    have r3 := HR6.out.cell 3 rfl
    have z := HR6.out.open
    clear HY HN
    go_wp2
    exact ret_box (g := w.heap.size + 1) (e := .int .i64 ne) rfl rfl rfl rfl (load_node (putC_all (l := [.string ⟨#[]⟩, .string ⟨#[]⟩, .int .u64 0, .int .u64 0]) HR6.out rfl) rfl) ⟨ret_agg HQ.out.symm rfl, putC_below [.string ⟨#[]⟩, .string ⟨#[]⟩, .int .u64 0, .int .u64 0] w6 0 HB6.out (by omega)⟩
end Go.Proofs.YtieonnnlhhdfpaaGreatDoor

/- slices.Sort of a call's own texts. -/
namespace Go.Proofs.YtieonnnlhhdfpaaGreatDoor
open Go.RowKit
set_option linter.unusedVariables false

abbrev encS : List UInt8 → Value := fun l => Value.string ⟨l.toArray⟩
theorem sort_calls (g cap B : Nat) (ks : List (List UInt8)) (w : World) (hl : ks.length < 4611686018427387904) (h : w.ownsRow B 9 1 (.slice (some ⟨g, 0, none⟩) ks.length cap) ks.length (ks.map encS)) :
    Calls Tryz.prog 97 #[.slice (some ⟨g, 0, none⟩) ks.length cap] w fun e w' => e = .returned (.tuple #[]) ∧ w'.ownsRow B 9 1 (.slice (some ⟨g, 0, none⟩) ks.length cap) ks.length ((ks.mergeSort fun x y => decide (x ≤ y)).map encS) ∧ Grew w w' (.slice (some ⟨g, 0, none⟩) ks.length cap) (.slice (some ⟨g, 0, none⟩) ks.length cap) := by
  rcases h.2 with ⟨he, _⟩ | ⟨g', cap', cur, he, hb, hg, h1, h2, h3, h4⟩
  · cases he
  · simp only [Value.slice.injEq, Option.some.injEq, Addr.mk.injEq] at he
    obtain ⟨⟨rfl, _⟩, _, rfl⟩ := he
    refine (Tryz.slices_Sort_string g 0 cap ks w (holds_of_block hg (by rw [Nat.mul_one] at h4; exact h4)) (Array.getElem?_eq_some_iff.1 hg).1 (by omega)).mono ?_
    rintro e w' ⟨rfl, n, os, rfl⟩
    exact ⟨rfl, ownsRow_sorted (by simp) hb hg h1 h2 h3, ⟨grownBy_sorted _, fun k hk => .inl hk⟩⟩
end Go.Proofs.YtieonnnlhhdfpaaGreatDoor

/- Layer 7 (rows): slices.Sort and slices.Compact of a call's own texts. -/
namespace Go.Proofs.YtieonnnlhhdfpaaGreatDoor
open Go.RowKit
set_option linter.unusedVariables false

theorem row_short {w : World} {B g n cap : Nat} {e : TypeId} {l1 l2 : List Value} (h : w.ownsRow B e 1 (.slice (some ⟨g, 0, none⟩) n cap) n (l1 ++ l2)) : w.ownsRow B e 1 (.slice (some ⟨g, 0, none⟩) l1.length cap) l1.length l1 := by
  refine ⟨by simp, ?_⟩
  have hl := h.1
  rw [List.length_append, Nat.mul_one] at hl
  rcases h.2 with ⟨he, _⟩ | ⟨g', cap', cur, he, hb, hg, h1, h2, h3, h4⟩
  · cases he
  · simp only [Value.slice.injEq] at he
    obtain ⟨ha, _, rfl⟩ := he
    refine .inr ⟨g', cap, cur, by rw [ha], hb, hg, by omega, h2, h3, ?_⟩
    have h5 : (cur.toList.take (n * 1)).take l1.length = l1 := by rw [h4, List.take_left']; rfl
    rw [List.take_take, Nat.mul_one, show min l1.length n = l1.length by omega] at h5
    rw [Nat.mul_one]
    exact h5
theorem compactUpTo_le (d : Array (List UInt8)) (m : Nat) : (Lib.compactUpTo d m).length ≤ m := by
  induction m with
  | zero => simp [Lib.compactUpTo]
  | succ m ih =>
    rw [Lib.compactUpTo_succ, List.length_append]
    split <;> simp <;> omega
theorem compact_le (zs : List (List UInt8)) : (Lib.compact zs).length ≤ zs.length := by
  unfold Lib.compact
  exact compactUpTo_le _ _

theorem compact_calls (g cap B : Nat) (zs : List (List UInt8)) (w : World) (hl : zs.length ≤ 100000) (h : w.ownsRow B 9 1 (.slice (some ⟨g, 0, none⟩) zs.length cap) zs.length (zs.map encS)) :
    Calls Tryz.prog 98 #[.slice (some ⟨g, 0, none⟩) zs.length cap] w fun e w' => e = .returned (.slice (some ⟨g, 0, none⟩) (Lib.compact zs).length cap) ∧ w'.ownsRow B 9 1 (.slice (some ⟨g, 0, none⟩) (Lib.compact zs).length cap) (Lib.compact zs).length ((Lib.compact zs).map encS) ∧ Grew w w' (.slice (some ⟨g, 0, none⟩) zs.length cap) (.slice (some ⟨g, 0, none⟩) zs.length cap) := by
  rcases h.2 with ⟨he, _⟩ | ⟨g', cap', cur, he, hb, hg, h1, h2, h3, h4⟩
  · cases he
  · simp only [Value.slice.injEq, Option.some.injEq, Addr.mk.injEq] at he
    obtain ⟨⟨rfl, _⟩, _, rfl⟩ := he
    refine (Tryz.slices_Compact_string g 0 cap zs w (holds_of_block hg (by rw [Nat.mul_one] at h4; exact h4)) (by omega) h1).mono ?_
    rintro e w' ⟨rfl, q, rfl⟩
    have hle := compact_le zs
    have hr := ownsRow_sorted (n := q) (os := #[]) (ts := Lib.compact zs ++ List.replicate (zs.length - (Lib.compact zs).length) []) (ss := zs) (by simp; omega) hb hg h1 h2 h3
    have hgr := grownBy_sorted (w := w) (g := g) (n := q) (os := #[]) (Lib.compact zs ++ List.replicate (zs.length - (Lib.compact zs).length) []).toArray
    rw [Sort.grow_empty] at hr hgr
    rw [List.map_append] at hr
    have hs := row_short hr
    rw [List.length_map] at hs
    exact ⟨rfl, hs, ⟨hgr, fun k hk => .inl hk⟩⟩
end Go.Proofs.YtieonnnlhhdfpaaGreatDoor
