/- Layer 5 (txn): a base in memory: New, Tree, Version. -/
import Derived.Test.YtdmhffbohnfdlaaGreatTAtom
import Derived.Test.YtdmhffbohnfdlaaGreatTFire
import Derived.Test.YtdmhffbohnfdlaaGreatRgJ
namespace Go.Proofs.YtdmhffbohnfdlaaGreat
open Go.RowKit
set_option linter.unusedVariables false

/-- A base: its version's block, its tree's, its number, whether a transaction is open. -/
structure BaseAt (w : World) (bb vb tb : Nat) (nm : Int) (op : Bool) : Prop where
  blk : w.heap[bb]? = some (.cells #[.pointer (some ⟨vb, 0, none⟩), .int .i32 0, .int .u32 0, .bool op] 97)
  ver : w.heap[vb]? = some (.cells #[.pointer (some ⟨tb, 0, none⟩), .int .u64 nm] 100)
theorem BaseAt.below {w w' : World} {bb vb tb : Nat} {nm : Int} {op : Bool} (h : BaseAt w bb vb tb nm op) (hb : Below w.heap.size w w') : BaseAt w' bb vb tb nm op :=
  ⟨(hb.block _ (lt_of_heap h.blk)).trans h.blk, (hb.block _ (lt_of_heap h.ver)).trans h.ver⟩

set_option maxRecDepth 100000 in
theorem tree_cells (bb vb tb : Nat) (nm : Int) (w : World) (c0 : w.cell? ⟨bb, 0, none⟩ = some (.pointer (some ⟨vb, 0, none⟩))) (h : w.heap[vb]? = some (.cells #[.pointer (some ⟨tb, 0, none⟩), .int .u64 nm] 100)) :
    Calls Tryz.prog 18 #[.pointer (some ⟨bb, 0, none⟩)] w fun e w' => e = .returned (.pointer (some ⟨tb, 0, none⟩)) ∧ w' = w := by
  have v0 : w.cell? ⟨vb, 0, none⟩ = some (.pointer (some ⟨tb, 0, none⟩)) := by rw [cell_of_blk h]; rfl
  have HL := load_calls bb vb _ _ w c0 h
  clear h
  go_enter Tryz.func18, Tryz.ntmps18
  go_wp2_with fail
  refine HL.mono ?_
  rintro e w1 ⟨rfl, rfl⟩
  go_wp2
  go_ret
  exact ⟨rfl, rfl⟩

set_option maxRecDepth 100000 in
theorem version_cells (bb vb tb : Nat) (nm : Int) (w : World) (c0 : w.cell? ⟨bb, 0, none⟩ = some (.pointer (some ⟨vb, 0, none⟩))) (h : w.heap[vb]? = some (.cells #[.pointer (some ⟨tb, 0, none⟩), .int .u64 nm] 100)) :
    Calls Tryz.prog 19 #[.pointer (some ⟨bb, 0, none⟩)] w fun e w' => e = .returned (.int .u64 nm) ∧ w' = w := by
  have v1 : w.cell? ⟨vb, 1, none⟩ = some (.int .u64 nm) := by rw [cell_of_blk h]; rfl
  have HL := load_calls bb vb _ _ w c0 h
  clear h
  go_enter Tryz.func19, Tryz.ntmps19
  go_wp2_with fail
  refine HL.mono ?_
  rintro e w1 ⟨rfl, rfl⟩
  go_wp2
  go_ret
  exact ⟨rfl, rfl⟩

theorem BaseAt.cur {w : World} {bb vb tb : Nat} {nm : Int} {op : Bool} (h : BaseAt w bb vb tb nm op) : w.cell? ⟨bb, 0, none⟩ = some (.pointer (some ⟨vb, 0, none⟩)) := by rw [cell_of_blk h.blk]; rfl
theorem tree_calls (bb vb tb : Nat) (nm : Int) (op : Bool) (w : World) (h : BaseAt w bb vb tb nm op) :
    Calls Tryz.prog 18 #[.pointer (some ⟨bb, 0, none⟩)] w fun e w' => e = .returned (.pointer (some ⟨tb, 0, none⟩)) ∧ w' = w := tree_cells bb vb tb nm w h.cur h.ver
theorem version_calls (bb vb tb : Nat) (nm : Int) (op : Bool) (w : World) (h : BaseAt w bb vb tb nm op) :
    Calls Tryz.prog 19 #[.pointer (some ⟨bb, 0, none⟩)] w fun e w' => e = .returned (.int .u64 nm) ∧ w' = w := version_cells bb vb tb nm w h.cur h.ver
theorem BaseAt.off {w : World} {bb vb tb : Nat} {nm : Int} {op : Bool} (h : BaseAt w bb vb tb nm op) : Off w bb :=
  .inr ⟨_, _, h.blk, fun j a hj => by
    rcases j with _ | _ | _ | _ | j <;> simp at hj
    subst hj
    exact ⟨_, _, h.ver, by decide⟩, by decide, by decide, by decide, by decide⟩

/-- New: a tree of one node, whose watch isn't fired. -/
theorem newTreeW_calls (w : World) : Calls Tryz.prog 34 #[] w fun e w' => ∃ tb a g, e = .returned (.pointer (some ⟨tb, 0, none⟩)) ∧ Below w.heap.size w w' ∧ TreeAt w' tb (.nd a ⟨#[]⟩ none [] g) 0 ∧ WAt w' g (g - 1) false ∧ w.heap.size ≤ tb ∧ w.heap.size ≤ a ∧ w.heap.size ≤ g := by
  go_enter Tryz.func34, Tryz.ntmps34
  go_wp2_with fail
  refine (newNode_calls _ _ _ _ _ w).mono ?_
  rintro e w1 ⟨rfl, hb1, hs1, hn1, hw1⟩
  have H1 : Hid (Below w.heap.size w w1 ∧ w1.heap.size = w.heap.size + 3 ∧ TAt nR w1 (.nd (w.heap.size + 2) ⟨#[]⟩ none [] (w.heap.size + 1)) ∧ WAt w1 (w.heap.size + 1) w.heap.size false) :=
    ⟨hb1, hs1, TAt.laid (x := ⟨none, 0, []⟩) hn1 ⟨fun i hi => by simp at hi, Nat.le_refl _, fun _ => rfl⟩ (fun y hy => by cases hy) hw1 (fun t ht => by simp at ht) (by decide), hw1⟩
  clear hb1 hs1 hn1 hw1
  go_wp2
  go_ret
  obtain ⟨hb1, hs1, hT, hW⟩ := H1.out
  have h2 : Below w1.heap.size w1 (w1.alloc (.cells #[.pointer (some ⟨w.heap.size + 2, 0, none⟩), .int .i64 0] 125)) := (Below.refl _ _).alloc (Nat.le_refl _) _
  exact ⟨w1.heap.size, w.heap.size + 2, w.heap.size + 1, rfl, hb1.trans (h2.mono hb1.size), ⟨heap_alloc_new _ _, hT.keep h2⟩, hW.below h2, hb1.size, by omega, by omega⟩

/-- A tree of one node. -/
def Bare (B : Nat) (W : World) (tb : Nat) : Prop := ∃ a g, TreeAt W tb (.nd a ⟨#[]⟩ none [] g) 0 ∧ WAt W g (g - 1) false ∧ B < g
theorem Bare.below {B : Nat} {W W' : World} {tb : Nat} (h : Bare B W tb) (hb : Below W.heap.size W W') : Bare B W' tb := by
  obtain ⟨a, g, h1, h2, h3⟩ := h
  exact ⟨a, g, h1.keep hb, h2.below hb, h3⟩

section
variable {o : Oper} {a : Act} {W : World} {K : Act → World → Prop} {Q : Exit → Act → World → Prop}
theorem f_nilT {x : Operand} {p : Addr} (ho : o.op = .nilCheck x) (hx : a.eval x = .pointer (some p)) (h : K (a.put o.dst (.pointer (some p))) W) : o.wp Tryz.prog a W K Q :=
  wp_valF (v := .pointer (some p)) (by unfold execOp; simp only [ho, hx]; simp [go_sem]) h
theorem f_fldB0 {x : Operand} {g : Nat} (ho : o.op = .fieldAddr 97 x 0) (hx : a.eval x = .pointer (some ⟨g, 0, none⟩)) (h : K (a.put o.dst (.pointer (some ⟨g, 0, none⟩))) W) : o.wp Tryz.prog a W K Q :=
  wp_valF (v := .pointer (some ⟨g, 0, none⟩)) (by unfold execOp; simp only [ho, hx]; go_simp) h
theorem f_buildV1 {x : Operand} {p : Option Addr} (ho : o.op = .build 100 #[(0, x)]) (hx : a.eval x = .pointer p) (h : K (a.put o.dst (.agg #[.pointer p, .int .u64 0])) W) : o.wp Tryz.prog a W K Q :=
  wp_valF (v := .agg #[.pointer p, .int .u64 0]) (by unfold execOp; simp only [ho, List.map_toArray, List.map_cons, List.map_nil, hx]; go_simp) h
theorem f_boxV {x : Operand} {p : Option Addr} {n : Int} (ho : o.op = .box 100 x) (hx : a.eval x = .agg #[.pointer p, .int .u64 n]) (h : K (a.put o.dst (.pointer (some ⟨W.heap.size, 0, none⟩))) (W.alloc (.cells #[.pointer p, .int .u64 n] 100))) : o.wp Tryz.prog a W K Q := by
  have hr : (execOp a.eval o).run Tryz.prog W = .ok (.value (.pointer (some ⟨W.heap.size, 0, none⟩))) (W.alloc (.cells #[.pointer p, .int .u64 n] 100)) := by
    unfold execOp
    simp only [ho, hx]
    go_simp
  unfold Oper.wp
  rw [hr]
  exact h
end

set_option maxRecDepth 100000 in
set_option maxHeartbeats 2000000 in
theorem newBase_calls (w : World) : Calls Tryz.prog 8 #[] w fun e w' => ∃ bb vb tb, e = .returned (.pointer (some ⟨bb, 0, none⟩)) ∧ Below w.heap.size w w' ∧ BaseAt w' bb vb tb 0 false ∧ Bare w.heap.size w' tb ∧ w.heap.size ≤ bb := by
  obtain ⟨w1, HW1⟩ : ∃ w1, Hid (w1 = w.alloc (.cells #[.pointer none, .int .i32 0, .int .u32 0, .bool false] 97)) := ⟨_, rfl⟩
  have HB1 : Hid (Below w.heap.size w w1) := by rw [HW1.out]; exact (Below.refl _ _).alloc (Nat.le_refl _) _
  have HQ1 : Hid (w1.heap[w.heap.size]? = some (.cells #[.pointer none, .int .i32 0, .int .u32 0, .bool false] 97)) := by rw [HW1.out]; exact heap_alloc_new _ _
  go_enter Tryz.func8, Tryz.ntmps8
  go_upto_region 2 with fail
  rw [← HW1.out]
  clear HW1
  refine wp_region_inv 6 (fun i v W => match i with
    | 0 => v = .pointer (some ⟨w.heap.size, 0, none⟩)
    | 1 => v = .pointer (some ⟨w.heap.size, 0, none⟩)
    | 2 => v = .pointer (some ⟨w.heap.size, 0, none⟩)
    | 3 => ∃ tb, v = .pointer (some ⟨tb, 0, none⟩) ∧ Bare w.heap.size W tb
    | 4 => ∃ tb, v = .agg #[.pointer (some ⟨tb, 0, none⟩), .int .u64 0] ∧ Bare w.heap.size W tb
    | 5 => ∃ vb tb, v = .pointer (some ⟨vb, 0, none⟩) ∧ W.heap[vb]? = some (.cells #[.pointer (some ⟨tb, 0, none⟩), .int .u64 0] 100) ∧ Bare w.heap.size W tb
    | _ => False) (by kernel_rfl) (by kernel_rfl) (by kernel_rfl) [some 4, some 5, some 6, some 7, some 8, some 9] (by kernel_rfl) ?mono ?hop ?tail
  case mono =>
    intro i v W W' h hb
    match i, h with
    | 0, h => exact h
    | 1, h => exact h
    | 2, h => exact h
    | 3, ⟨tb, h1, h2⟩ => exact ⟨tb, h1, h2.below hb⟩
    | 4, ⟨tb, h1, h2⟩ => exact ⟨tb, h1, h2.below hb⟩
    | 5, ⟨vb, tb, h1, h2, h3⟩ => exact ⟨vb, tb, h1, (hb.block _ (lt_of_heap h2)).trans h2, h3.below hb⟩
  case hop =>
    intro i o hi ho a W hB hs hd
    match i, hi, ho, hd with
    | 0, _, ho, hd =>
      obtain rfl := Option.some.inj ho
      exact f_move rfl ((hs 1 (by kernel_rfl)).trans rfl) ⟨_, rfl, rfl, Below.refl _ _⟩
    | 1, _, ho, hd =>
      obtain rfl := Option.some.inj ho
      exact f_nilT rfl (hd 0 4 (by kernel_rfl) (by kernel_rfl)) ⟨_, rfl, rfl, Below.refl _ _⟩
    | 2, _, ho, hd =>
      obtain rfl := Option.some.inj ho
      exact f_fldB0 rfl (hd 1 5 (by kernel_rfl) (by kernel_rfl)) ⟨_, rfl, rfl, Below.refl _ _⟩
    | 3, _, ho, hd =>
      obtain rfl := Option.some.inj ho
      refine wp_callF (f := 34) (vals := #[]) rfl (by simp) (by go_simp) ?_
      refine (newTreeW_calls W).mono ?_
      rintro e w9 ⟨tb, a9, g9, rfl, hb9, h1, h2, -, -, h3⟩
      exact ⟨_, rfl, _, rfl, ⟨tb, rfl, a9, g9, h1, h2, by have := hB.size; have := HB1.out.size; have := lt_of_heap HQ1.out; omega⟩, hb9⟩
    | 4, _, ho, hd =>
      obtain rfl := Option.some.inj ho
      obtain ⟨tb, h1, h2⟩ := hd 3 7 (by kernel_rfl) (by kernel_rfl)
      exact f_buildV1 rfl h1 ⟨_, rfl, ⟨tb, rfl, h2⟩, Below.refl _ _⟩
    | 5, _, ho, hd =>
      obtain rfl := Option.some.inj ho
      obtain ⟨tb, h1, h2⟩ := hd 4 8 (by kernel_rfl) (by kernel_rfl)
      have hb : Below W.heap.size W (W.alloc (.cells #[.pointer (some ⟨tb, 0, none⟩), .int .u64 0] 100)) := (Below.refl _ _).alloc (Nat.le_refl _) _
      exact f_boxV rfl h1 ⟨_, rfl, ⟨W.heap.size, tb, rfl, heap_alloc_new _ _, h2.below hb⟩, hb⟩
    | k + 6, hi, _, _ => exact absurd hi (by omega)
  case tail =>
    intro vs W hB hR
    have r0 : vs 0 = .pointer (some ⟨w.heap.size, 0, none⟩) := hR 0 (by decide)
    have r2 : vs 2 = .pointer (some ⟨w.heap.size, 0, none⟩) := hR 2 (by decide)
    obtain ⟨vb, tb, r5, hv, hbare⟩ := hR 5 (by decide)
    have hbk := (hB.block _ (lt_of_heap HQ1.out)).trans HQ1.out
    have c0 : W.cell? ⟨w.heap.size, 0, none⟩ = some (.pointer none) := by rw [cell_of_blk hbk]; rfl
    have z0 : W.frozen? ⟨w.heap.size, 0, none⟩ = false := frozen_of_blk hbk
    have v0 : W.cell? ⟨vb, 0, none⟩ = some (.pointer (some ⟨tb, 0, none⟩)) := by rw [cell_of_blk hv]; rfl
    have HST := store_calls w.heap.size vb _ _ W c0 z0 v0
    have hwl := lt_of_heap HQ1.out
    have HF : Hid (Below w.heap.size w (W.setCell ⟨w.heap.size, 0, none⟩ (.pointer (some ⟨vb, 0, none⟩))) ∧ BaseAt (W.setCell ⟨w.heap.size, 0, none⟩ (.pointer (some ⟨vb, 0, none⟩))) w.heap.size vb tb 0 false ∧ Bare w.heap.size (W.setCell ⟨w.heap.size, 0, none⟩ (.pointer (some ⟨vb, 0, none⟩))) tb) := by
      have hne : vb ≠ w.heap.size := fun e => by
        subst e
        rw [hbk] at hv
        simp at hv
      refine ⟨(HB1.out.trans (hB.mono HB1.out.size)).setCell (p := ⟨w.heap.size, 0, none⟩) (Nat.le_refl _) _, ⟨by rw [setCell_blk hbk]; rfl, (heap_setCell_other _ _ _ _ hne).trans hv⟩, ?_⟩
      obtain ⟨a, g, h1, h2, h3⟩ := hbare
      have hoff : Off W w.heap.size := .inr ⟨_, _, hbk, fun j a hj => by rcases j with _ | _ | _ | _ | j <;> simp at hj, by decide, by decide, by decide, by decide⟩
      have hk : ∀ b, b < W.heap.size → ¬ b = w.heap.size → (W.setCell ⟨w.heap.size, 0, none⟩ (.pointer (some ⟨vb, 0, none⟩))).heap[b]? = W.heap[b]? := fun b _ hb => heap_setCell_other _ _ _ _ hb
      exact ⟨a, g, h1.offs (· = w.heap.size) hk (fun b e => by subst e; exact hoff), h2.offs (· = w.heap.size) hk (fun b e => by subst e; exact hoff), h3⟩
    clear hbk c0 z0 v0 hv hbare hB hR
    simp only [putL, put_lit, List.setIfInBounds_toArray, List.set_cons_succ, List.set_cons_zero, List.drop_succ_cons, List.drop_zero]
    rw [r0, r2, r5]
    go_wp2_with fail
    refine HST.mono ?_
    rintro e w9 ⟨rfl, rfl⟩
    go_wp2
    go_ret
    exact ⟨_, vb, tb, rfl, HF.out.1, HF.out.2.1, HF.out.2.2, Nat.le_refl _⟩
end Go.Proofs.YtdmhffbohnfdlaaGreat
