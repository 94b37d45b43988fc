/- Layer 9 (records): RowNode, RowCheck. -/
import Derived.Test.YtgjcchafmcccjaaDoorRcRowX
import Derived.Test.YtgjcchafmcccjaaDoorRcRowC
namespace Go.Proofs.YtgjcchafmcccjaaDoor
open Go.RowKit
set_option linter.unusedVariables false

theorem info_nodeR : (Tryd.prog.info? 44).map (·.size) = some 4 := by kernel_rfl
theorem load_nodeR {w : World} {g : Nat} {cs : Array Value} (h : Blk w g cs 44) (hs : cs.size = 4) : (loadVar 44 ⟨g, 0, none⟩).run Tryd.prog w = .ok (.agg cs) w :=
  run_loadVar_row (P := Tryd.prog) w g 44 44 cs (0, 0) _ h Tryd.underlying44 rfl (by rw [info_nodeR, hs])
set_option maxRecDepth 100000 in
set_option maxHeartbeats 4000000 in
theorem rowNode_calls (ca : Option Addr) (cc : Nat) (cs : List CV) (w : World) (hl : cs.length ≤ 1000) (ht : ∀ k, (celAt cs k).t.size ≤ 140737488351296) (hr : CellsAt w ca (ccs cs)) :
    Calls Tryd.prog 20 #[.agg #[.slice ca cs.length cc]] w fun e w' => e = .returned (.agg (Nd.v ⟨(celAt cs 0).t, (celAt cs 1).t, (celAt cs 2).n, (celAt cs 3).n⟩)) ∧ Below w.heap.size w w' := by
  simp only [Nd.v]
  have P0 : Hid (∀ W, Below w.heap.size w W → Calls Tryd.prog 41 #[.agg #[.slice ca cs.length cc], .int .i64 0] W fun e w' => e = .returned (.string (celAt cs 0).t) ∧ Below W.heap.size W w') := fun W hW => textAt_calls ca cc cs 0 W (by decide) hl (ht 0) (hr.below hW)
  have P1 : Hid (∀ W, Below w.heap.size w W → Calls Tryd.prog 41 #[.agg #[.slice ca cs.length cc], .int .i64 1] W fun e w' => e = .returned (.string (celAt cs 1).t) ∧ Below W.heap.size W w') := fun W hW => textAt_calls ca cc cs 1 W (by decide) hl (ht 1) (hr.below hW)
  have P2 : Hid (∀ W, Below w.heap.size w W → Calls Tryd.prog 42 #[.agg #[.slice ca cs.length cc], .int .i64 2] W fun e w' => e = .returned (.int .u64 (celAt cs 2).n) ∧ Below W.heap.size W w') := fun W hW => numAt_calls ca cc cs 2 W (by decide) hl (hr.below hW)
  have P3 : Hid (∀ W, Below w.heap.size w W → Calls Tryd.prog 42 #[.agg #[.slice ca cs.length cc], .int .i64 3] W fun e w' => e = .returned (.int .u64 (celAt cs 3).n) ∧ Below W.heap.size W w') := fun W hW => numAt_calls ca cc cs 3 W (by decide) hl (hr.below hW)
  clear ht hr
  obtain ⟨x0, Hx0⟩ : ∃ x, Hid (x = (celAt cs 0).t) := ⟨_, rfl⟩
  rw [← Hx0.out] at P0 ⊢
  obtain ⟨x1, Hx1⟩ : ∃ x, Hid (x = (celAt cs 1).t) := ⟨_, rfl⟩
  rw [← Hx1.out] at P1 ⊢
  obtain ⟨x2, Hx2⟩ : ∃ x, Hid (x = (celAt cs 2).n) := ⟨_, rfl⟩
  rw [← Hx2.out] at P2 ⊢
  obtain ⟨x3, Hx3⟩ : ∃ x, Hid (x = (celAt cs 3).n) := ⟨_, rfl⟩
  rw [← Hx3.out] at P3 ⊢
  obtain ⟨n, Hn⟩ : ∃ n, Hid (n = cs.length) := ⟨_, rfl⟩
  rw [← Hn.out] at P0 P1 P2 P3 ⊢
  obtain ⟨w2, Hw2⟩ : ∃ x, Hid (x = (w.alloc (.cells #[.slice ca n cc] 60)).alloc (.cells #[.string ⟨#[]⟩, .string ⟨#[]⟩, .int .u64 0, .int .u64 0] 44)) := ⟨_, rfl⟩
  have hz : (w.alloc (.cells #[.slice ca n cc] 60)).heap.size = w.heap.size + 1 := size_new _ _
  have KX : Hid (Blk w2 w.heap.size #[.slice ca n cc] 60) := by rw [Hw2.out]; exact (Blk.new _ _ _).alloc _
  have KR : Hid (Blk w2 (w.heap.size + 1) #[.string ⟨#[]⟩, .string ⟨#[]⟩, .int .u64 0, .int .u64 0] 44) := by rw [Hw2.out, ← hz]; exact Blk.new _ _ _
  have HB2 : Hid (Below w.heap.size w w2) := by rw [Hw2.out]; exact (below_new w _).alloc (by rw [hz]; omega) _
  clear hz
  have C0 : Hid (∀ W, Below w2.heap.size w2 W → Calls Tryd.prog 41 #[.agg #[.slice ca n cc], .int .i64 0] W fun e w' => e = .returned (.string x0) ∧ Below W.heap.size W w') := fun W hW => P0.out W (HB2.out.trans (hW.mono HB2.out.size))
  have C1 : Hid (∀ W, Below w2.heap.size w2 W → Calls Tryd.prog 41 #[.agg #[.slice ca n cc], .int .i64 1] W fun e w' => e = .returned (.string x1) ∧ Below W.heap.size W w') := fun W hW => P1.out W (HB2.out.trans (hW.mono HB2.out.size))
  have C2 : Hid (∀ W, Below w2.heap.size w2 W → Calls Tryd.prog 42 #[.agg #[.slice ca n cc], .int .i64 2] W fun e w' => e = .returned (.int .u64 x2) ∧ Below W.heap.size W w') := fun W hW => P2.out W (HB2.out.trans (hW.mono HB2.out.size))
  have C3 : Hid (∀ W, Below w2.heap.size w2 W → Calls Tryd.prog 42 #[.agg #[.slice ca n cc], .int .i64 3] W fun e w' => e = .returned (.int .u64 x3) ∧ Below W.heap.size W w') := fun W hW => P3.out W (HB2.out.trans (hW.mono HB2.out.size))
  clear P0 P1 P2 P3
  go_enter Tryd.func20, Tryd.ntmps20
  go_wp2
  rw [← Hw2.out]
  clear Hw2
  refine wp_region_inv 8 (fun i v W => match i with
    | 0 => v = .agg #[.slice ca n cc]
    | 1 => v = .string x0
    | 2 => v = .agg #[.slice ca n cc]
    | 3 => v = .string x1
    | 4 => v = .agg #[.slice ca n cc]
    | 5 => v = .int .u64 x2
    | 6 => v = .agg #[.slice ca n cc]
    | 7 => v = .int .u64 x3
    | _ => False) (by kernel_rfl) (by kernel_rfl) (by kernel_rfl) [some 3, some 4, some 5, some 6, some 7, some 8, some 9, some 10] (by kernel_rfl) ?mono ?hop ?tail
  case mono =>
    intro i v W W' h hb
    match i, h with
    | 0, h => exact h
    | 1, h => exact h
    | 2, h => exact h
    | 3, h => exact h
    | 4, h => exact h
    | 5, h => exact h
    | 6, h => exact h
    | 7, h => exact h
  case hop =>
    intro i o hi ho a W hB hs hd
    match i, hi, ho, hd with
    | 0, _, ho, hd =>
      obtain rfl := Option.some.inj ho
      exact wp_load_row 60 (.tmp 1) rfl w.heap.size ((hs 1 (by kernel_rfl)).trans rfl) 60 #[.slice ca n cc] (0, 0) _ (KX.out.below hB) Tryd.underlying60 rfl (by rw [info_row]; rfl) ⟨_, rfl, rfl, Below.refl _ _⟩
    | 1, _, ho, hd =>
      obtain rfl := Option.some.inj ho
      have h1 : a.eval (.tmp 3) = .agg #[.slice ca n cc] := hd 0 3 (by kernel_rfl) (by kernel_rfl)
      refine wp_callF (f := 41) (vals := #[.agg #[.slice ca n cc], .int .i64 0]) rfl (map2 h1 rfl) (by go_simp) ?_
      exact (C0.out W hB).mono fun e w' ⟨he, hb⟩ => ⟨_, he, _, rfl, rfl, hb⟩
    | 2, _, ho, hd =>
      obtain rfl := Option.some.inj ho
      exact wp_load_row 60 (.tmp 1) rfl w.heap.size ((hs 1 (by kernel_rfl)).trans rfl) 60 #[.slice ca n cc] (0, 0) _ (KX.out.below hB) Tryd.underlying60 rfl (by rw [info_row]; rfl) ⟨_, rfl, rfl, Below.refl _ _⟩
    | 3, _, ho, hd =>
      obtain rfl := Option.some.inj ho
      have h1 : a.eval (.tmp 5) = .agg #[.slice ca n cc] := hd 2 5 (by kernel_rfl) (by kernel_rfl)
      refine wp_callF (f := 41) (vals := #[.agg #[.slice ca n cc], .int .i64 1]) rfl (map2 h1 rfl) (by go_simp) ?_
      exact (C1.out W hB).mono fun e w' ⟨he, hb⟩ => ⟨_, he, _, rfl, rfl, hb⟩
    | 4, _, ho, hd =>
      obtain rfl := Option.some.inj ho
      exact wp_load_row 60 (.tmp 1) rfl w.heap.size ((hs 1 (by kernel_rfl)).trans rfl) 60 #[.slice ca n cc] (0, 0) _ (KX.out.below hB) Tryd.underlying60 rfl (by rw [info_row]; rfl) ⟨_, rfl, rfl, Below.refl _ _⟩
    | 5, _, ho, hd =>
      obtain rfl := Option.some.inj ho
      have h1 : a.eval (.tmp 7) = .agg #[.slice ca n cc] := hd 4 7 (by kernel_rfl) (by kernel_rfl)
      refine wp_callF (f := 42) (vals := #[.agg #[.slice ca n cc], .int .i64 2]) rfl (map2 h1 rfl) (by go_simp) ?_
      exact (C2.out W hB).mono fun e w' ⟨he, hb⟩ => ⟨_, he, _, rfl, rfl, hb⟩
    | 6, _, ho, hd =>
      obtain rfl := Option.some.inj ho
      exact wp_load_row 60 (.tmp 1) rfl w.heap.size ((hs 1 (by kernel_rfl)).trans rfl) 60 #[.slice ca n cc] (0, 0) _ (KX.out.below hB) Tryd.underlying60 rfl (by rw [info_row]; rfl) ⟨_, rfl, rfl, Below.refl _ _⟩
    | 7, _, ho, hd =>
      obtain rfl := Option.some.inj ho
      have h1 : a.eval (.tmp 9) = .agg #[.slice ca n cc] := hd 6 9 (by kernel_rfl) (by kernel_rfl)
      refine wp_callF (f := 42) (vals := #[.agg #[.slice ca n cc], .int .i64 3]) rfl (map2 h1 rfl) (by go_simp) ?_
      exact (C3.out W hB).mono fun e w' ⟨he, hb⟩ => ⟨_, he, _, rfl, rfl, hb⟩
    | k + 8, hi, _, _ => exact absurd hi (by omega)
  case tail =>
    intro vs W hB hR
    have r0 : vs 0 = .agg #[.slice ca n cc] := hR 0 (by decide)
    have r1 : vs 1 = .string x0 := hR 1 (by decide)
    have r2 : vs 2 = .agg #[.slice ca n cc] := hR 2 (by decide)
    have r3 : vs 3 = .string x1 := hR 3 (by decide)
    have r4 : vs 4 = .agg #[.slice ca n cc] := hR 4 (by decide)
    have r5 : vs 5 = .int .u64 x2 := hR 5 (by decide)
    have r6 : vs 6 = .agg #[.slice ca n cc] := hR 6 (by decide)
    have r7 : vs 7 = .int .u64 x3 := hR 7 (by decide)
    have HBW : Hid (Below w2.heap.size w2 W) := hB
    have KRW : Hid (Blk W (w.heap.size + 1) #[.string ⟨#[]⟩, .string ⟨#[]⟩, .int .u64 0, .int .u64 0] 44) := KR.out.below hB
    clear hR hB
    simp only [putL, put_lit, List.setIfInBounds_toArray, List.set_cons_succ, List.set_cons_zero, List.drop_succ_cons, List.drop_zero]
    rw [r0, r1, r2, r3, r4, r5, r6, r7]
    clear r0 r1 r2 r3 r4 r5 r6 r7
    have kz := KRW.out.open
    have kr0 := KRW.out.cell 0 rfl
    have kr1 := KRW.out.cell 1 rfl
    have kr2 := KRW.out.cell 2 rfl
    have kr3 := KRW.out.cell 3 rfl
    go_wp2
    exact ret_boxR (g := w.heap.size + 1) (w := putC W (w.heap.size + 1) 0 [.string x0, .string x1, .int .u64 x2, .int .u64 x3]) rfl rfl rfl (load_nodeR (putC_all (l := [.string x0, .string x1, .int .u64 x2, .int .u64 x3]) KRW.out rfl) rfl) ⟨rfl, putC_below [.string x0, .string x1, .int .u64 x2, .int .u64 x3] W 0 (HB2.out.trans (HBW.out.mono HB2.out.size)) (by omega)⟩

set_option maxRecDepth 100000 in
set_option maxHeartbeats 8000000 in
theorem rowCheck_calls (ca : Option Addr) (cc : Nat) (cs : List CV) (w : World) (hl : cs.length ≤ 1000) (ht : ∀ k, (celAt cs k).t.size ≤ 140737488351296) (hr : CellsAt w ca (ccs cs)) :
    Calls Tryd.prog 23 #[.agg #[.slice ca cs.length cc]] w fun e w' => e = .returned (.agg (Ck.v ⟨(celAt cs 0).t, (celAt cs 1).t, (celAt cs 2).t, IntKind.i64.wrap (celAt cs 3).n, (celAt cs 4).t, (celAt cs 5).n, (celAt cs 6).n⟩)) ∧ Below w.heap.size w w' := by
  simp only [Ck.v]
  have P0 : Hid (∀ W, Below w.heap.size w W → Calls Tryd.prog 41 #[.agg #[.slice ca cs.length cc], .int .i64 0] W fun e w' => e = .returned (.string (celAt cs 0).t) ∧ Below W.heap.size W w') := fun W hW => textAt_calls ca cc cs 0 W (by decide) hl (ht 0) (hr.below hW)
  have P1 : Hid (∀ W, Below w.heap.size w W → Calls Tryd.prog 41 #[.agg #[.slice ca cs.length cc], .int .i64 1] W fun e w' => e = .returned (.string (celAt cs 1).t) ∧ Below W.heap.size W w') := fun W hW => textAt_calls ca cc cs 1 W (by decide) hl (ht 1) (hr.below hW)
  have P2 : Hid (∀ W, Below w.heap.size w W → Calls Tryd.prog 41 #[.agg #[.slice ca cs.length cc], .int .i64 2] W fun e w' => e = .returned (.string (celAt cs 2).t) ∧ Below W.heap.size W w') := fun W hW => textAt_calls ca cc cs 2 W (by decide) hl (ht 2) (hr.below hW)
  have P3 : Hid (∀ W, Below w.heap.size w W → Calls Tryd.prog 42 #[.agg #[.slice ca cs.length cc], .int .i64 3] W fun e w' => e = .returned (.int .u64 (celAt cs 3).n) ∧ Below W.heap.size W w') := fun W hW => numAt_calls ca cc cs 3 W (by decide) hl (hr.below hW)
  have P4 : Hid (∀ W, Below w.heap.size w W → Calls Tryd.prog 41 #[.agg #[.slice ca cs.length cc], .int .i64 4] W fun e w' => e = .returned (.string (celAt cs 4).t) ∧ Below W.heap.size W w') := fun W hW => textAt_calls ca cc cs 4 W (by decide) hl (ht 4) (hr.below hW)
  have P5 : Hid (∀ W, Below w.heap.size w W → Calls Tryd.prog 42 #[.agg #[.slice ca cs.length cc], .int .i64 5] W fun e w' => e = .returned (.int .u64 (celAt cs 5).n) ∧ Below W.heap.size W w') := fun W hW => numAt_calls ca cc cs 5 W (by decide) hl (hr.below hW)
  have P6 : Hid (∀ W, Below w.heap.size w W → Calls Tryd.prog 42 #[.agg #[.slice ca cs.length cc], .int .i64 6] W fun e w' => e = .returned (.int .u64 (celAt cs 6).n) ∧ Below W.heap.size W w') := fun W hW => numAt_calls ca cc cs 6 W (by decide) hl (hr.below hW)
  clear ht hr
  obtain ⟨x0, Hx0⟩ : ∃ x, Hid (x = (celAt cs 0).t) := ⟨_, rfl⟩
  rw [← Hx0.out] at P0 ⊢
  obtain ⟨x1, Hx1⟩ : ∃ x, Hid (x = (celAt cs 1).t) := ⟨_, rfl⟩
  rw [← Hx1.out] at P1 ⊢
  obtain ⟨x2, Hx2⟩ : ∃ x, Hid (x = (celAt cs 2).t) := ⟨_, rfl⟩
  rw [← Hx2.out] at P2 ⊢
  obtain ⟨x3, Hx3⟩ : ∃ x, Hid (x = (celAt cs 3).n) := ⟨_, rfl⟩
  rw [← Hx3.out] at P3 ⊢
  obtain ⟨y3, Hy3⟩ : ∃ y, Hid (y = IntKind.i64.wrap x3) := ⟨_, rfl⟩
  rw [← Hy3.out]
  obtain ⟨x4, Hx4⟩ : ∃ x, Hid (x = (celAt cs 4).t) := ⟨_, rfl⟩
  rw [← Hx4.out] at P4 ⊢
  obtain ⟨x5, Hx5⟩ : ∃ x, Hid (x = (celAt cs 5).n) := ⟨_, rfl⟩
  rw [← Hx5.out] at P5 ⊢
  obtain ⟨x6, Hx6⟩ : ∃ x, Hid (x = (celAt cs 6).n) := ⟨_, rfl⟩
  rw [← Hx6.out] at P6 ⊢
  obtain ⟨n, Hn⟩ : ∃ n, Hid (n = cs.length) := ⟨_, rfl⟩
  rw [← Hn.out] at P0 P1 P2 P3 P4 P5 P6 ⊢
  obtain ⟨w2, Hw2⟩ : ∃ x, Hid (x = (w.alloc (.cells #[.slice ca n cc] 60)).alloc (.cells #[.string ⟨#[]⟩, .string ⟨#[]⟩, .string ⟨#[]⟩, .int .i64 0, .string ⟨#[]⟩, .int .u64 0, .int .u64 0] 49)) := ⟨_, rfl⟩
  have hz : (w.alloc (.cells #[.slice ca n cc] 60)).heap.size = w.heap.size + 1 := size_new _ _
  have KX : Hid (Blk w2 w.heap.size #[.slice ca n cc] 60) := by rw [Hw2.out]; exact (Blk.new _ _ _).alloc _
  have KR : Hid (Blk w2 (w.heap.size + 1) #[.string ⟨#[]⟩, .string ⟨#[]⟩, .string ⟨#[]⟩, .int .i64 0, .string ⟨#[]⟩, .int .u64 0, .int .u64 0] 49) := by rw [Hw2.out, ← hz]; exact Blk.new _ _ _
  have HB2 : Hid (Below w.heap.size w w2) := by rw [Hw2.out]; exact (below_new w _).alloc (by rw [hz]; omega) _
  clear hz
  have C0 : Hid (∀ W, Below w2.heap.size w2 W → Calls Tryd.prog 41 #[.agg #[.slice ca n cc], .int .i64 0] W fun e w' => e = .returned (.string x0) ∧ Below W.heap.size W w') := fun W hW => P0.out W (HB2.out.trans (hW.mono HB2.out.size))
  have C1 : Hid (∀ W, Below w2.heap.size w2 W → Calls Tryd.prog 41 #[.agg #[.slice ca n cc], .int .i64 1] W fun e w' => e = .returned (.string x1) ∧ Below W.heap.size W w') := fun W hW => P1.out W (HB2.out.trans (hW.mono HB2.out.size))
  have C2 : Hid (∀ W, Below w2.heap.size w2 W → Calls Tryd.prog 41 #[.agg #[.slice ca n cc], .int .i64 2] W fun e w' => e = .returned (.string x2) ∧ Below W.heap.size W w') := fun W hW => P2.out W (HB2.out.trans (hW.mono HB2.out.size))
  have C3 : Hid (∀ W, Below w2.heap.size w2 W → Calls Tryd.prog 42 #[.agg #[.slice ca n cc], .int .i64 3] W fun e w' => e = .returned (.int .u64 x3) ∧ Below W.heap.size W w') := fun W hW => P3.out W (HB2.out.trans (hW.mono HB2.out.size))
  have C4 : Hid (∀ W, Below w2.heap.size w2 W → Calls Tryd.prog 41 #[.agg #[.slice ca n cc], .int .i64 4] W fun e w' => e = .returned (.string x4) ∧ Below W.heap.size W w') := fun W hW => P4.out W (HB2.out.trans (hW.mono HB2.out.size))
  have C5 : Hid (∀ W, Below w2.heap.size w2 W → Calls Tryd.prog 42 #[.agg #[.slice ca n cc], .int .i64 5] W fun e w' => e = .returned (.int .u64 x5) ∧ Below W.heap.size W w') := fun W hW => P5.out W (HB2.out.trans (hW.mono HB2.out.size))
  have C6 : Hid (∀ W, Below w2.heap.size w2 W → Calls Tryd.prog 42 #[.agg #[.slice ca n cc], .int .i64 6] W fun e w' => e = .returned (.int .u64 x6) ∧ Below W.heap.size W w') := fun W hW => P6.out W (HB2.out.trans (hW.mono HB2.out.size))
  clear P0 P1 P2 P3 P4 P5 P6
  go_enter Tryd.func23, Tryd.ntmps23
  go_wp2
  rw [← Hw2.out]
  clear Hw2
  refine wp_region_inv 15 (fun i v W => match i with
    | 0 => v = .agg #[.slice ca n cc]
    | 1 => v = .string x0
    | 2 => v = .agg #[.slice ca n cc]
    | 3 => v = .string x1
    | 4 => v = .agg #[.slice ca n cc]
    | 5 => v = .string x2
    | 6 => v = .agg #[.slice ca n cc]
    | 7 => v = .int .u64 x3
    | 8 => v = .int .i64 y3
    | 9 => v = .agg #[.slice ca n cc]
    | 10 => v = .string x4
    | 11 => v = .agg #[.slice ca n cc]
    | 12 => v = .int .u64 x5
    | 13 => v = .agg #[.slice ca n cc]
    | 14 => v = .int .u64 x6
    | _ => False) (by kernel_rfl) (by kernel_rfl) (by kernel_rfl) [some 3, some 4, some 5, some 6, some 7, some 8, some 9, some 10, some 11, some 12, some 13, some 14, some 15, some 16, some 17] (by kernel_rfl) ?mono ?hop ?tail
  case mono =>
    intro i v W W' h hb
    match i, h with
    | 0, h => exact h
    | 1, h => exact h
    | 2, h => exact h
    | 3, h => exact h
    | 4, h => exact h
    | 5, h => exact h
    | 6, h => exact h
    | 7, h => exact h
    | 8, h => exact h
    | 9, h => exact h
    | 10, h => exact h
    | 11, h => exact h
    | 12, h => exact h
    | 13, h => exact h
    | 14, h => exact h
  case hop =>
    intro i o hi ho a W hB hs hd
    match i, hi, ho, hd with
    | 0, _, ho, hd =>
      obtain rfl := Option.some.inj ho
      exact wp_load_row 60 (.tmp 1) rfl w.heap.size ((hs 1 (by kernel_rfl)).trans rfl) 60 #[.slice ca n cc] (0, 0) _ (KX.out.below hB) Tryd.underlying60 rfl (by rw [info_row]; rfl) ⟨_, rfl, rfl, Below.refl _ _⟩
    | 1, _, ho, hd =>
      obtain rfl := Option.some.inj ho
      have h1 : a.eval (.tmp 3) = .agg #[.slice ca n cc] := hd 0 3 (by kernel_rfl) (by kernel_rfl)
      refine wp_callF (f := 41) (vals := #[.agg #[.slice ca n cc], .int .i64 0]) rfl (map2 h1 rfl) (by go_simp) ?_
      exact (C0.out W hB).mono fun e w' ⟨he, hb⟩ => ⟨_, he, _, rfl, rfl, hb⟩
    | 2, _, ho, hd =>
      obtain rfl := Option.some.inj ho
      exact wp_load_row 60 (.tmp 1) rfl w.heap.size ((hs 1 (by kernel_rfl)).trans rfl) 60 #[.slice ca n cc] (0, 0) _ (KX.out.below hB) Tryd.underlying60 rfl (by rw [info_row]; rfl) ⟨_, rfl, rfl, Below.refl _ _⟩
    | 3, _, ho, hd =>
      obtain rfl := Option.some.inj ho
      have h1 : a.eval (.tmp 5) = .agg #[.slice ca n cc] := hd 2 5 (by kernel_rfl) (by kernel_rfl)
      refine wp_callF (f := 41) (vals := #[.agg #[.slice ca n cc], .int .i64 1]) rfl (map2 h1 rfl) (by go_simp) ?_
      exact (C1.out W hB).mono fun e w' ⟨he, hb⟩ => ⟨_, he, _, rfl, rfl, hb⟩
    | 4, _, ho, hd =>
      obtain rfl := Option.some.inj ho
      exact wp_load_row 60 (.tmp 1) rfl w.heap.size ((hs 1 (by kernel_rfl)).trans rfl) 60 #[.slice ca n cc] (0, 0) _ (KX.out.below hB) Tryd.underlying60 rfl (by rw [info_row]; rfl) ⟨_, rfl, rfl, Below.refl _ _⟩
    | 5, _, ho, hd =>
      obtain rfl := Option.some.inj ho
      have h1 : a.eval (.tmp 7) = .agg #[.slice ca n cc] := hd 4 7 (by kernel_rfl) (by kernel_rfl)
      refine wp_callF (f := 41) (vals := #[.agg #[.slice ca n cc], .int .i64 2]) rfl (map2 h1 rfl) (by go_simp) ?_
      exact (C2.out W hB).mono fun e w' ⟨he, hb⟩ => ⟨_, he, _, rfl, rfl, hb⟩
    | 6, _, ho, hd =>
      obtain rfl := Option.some.inj ho
      exact wp_load_row 60 (.tmp 1) rfl w.heap.size ((hs 1 (by kernel_rfl)).trans rfl) 60 #[.slice ca n cc] (0, 0) _ (KX.out.below hB) Tryd.underlying60 rfl (by rw [info_row]; rfl) ⟨_, rfl, rfl, Below.refl _ _⟩
    | 7, _, ho, hd =>
      obtain rfl := Option.some.inj ho
      have h1 : a.eval (.tmp 9) = .agg #[.slice ca n cc] := hd 6 9 (by kernel_rfl) (by kernel_rfl)
      refine wp_callF (f := 42) (vals := #[.agg #[.slice ca n cc], .int .i64 3]) rfl (map2 h1 rfl) (by go_simp) ?_
      exact (C3.out W hB).mono fun e w' ⟨he, hb⟩ => ⟨_, he, _, rfl, rfl, hb⟩
    | 8, _, ho, hd =>
      obtain rfl := Option.some.inj ho
      have h1 : a.eval (.tmp 10) = .int .u64 x3 := hd 7 10 (by kernel_rfl) (by kernel_rfl)
      exact wp_conv rfl h1 ⟨_, rfl, congrArg (Value.int .i64) Hy3.out.symm, Below.refl _ _⟩
    | 9, _, ho, hd =>
      obtain rfl := Option.some.inj ho
      exact wp_load_row 60 (.tmp 1) rfl w.heap.size ((hs 1 (by kernel_rfl)).trans rfl) 60 #[.slice ca n cc] (0, 0) _ (KX.out.below hB) Tryd.underlying60 rfl (by rw [info_row]; rfl) ⟨_, rfl, rfl, Below.refl _ _⟩
    | 10, _, ho, hd =>
      obtain rfl := Option.some.inj ho
      have h1 : a.eval (.tmp 12) = .agg #[.slice ca n cc] := hd 9 12 (by kernel_rfl) (by kernel_rfl)
      refine wp_callF (f := 41) (vals := #[.agg #[.slice ca n cc], .int .i64 4]) rfl (map2 h1 rfl) (by go_simp) ?_
      exact (C4.out W hB).mono fun e w' ⟨he, hb⟩ => ⟨_, he, _, rfl, rfl, hb⟩
    | 11, _, ho, hd =>
      obtain rfl := Option.some.inj ho
      exact wp_load_row 60 (.tmp 1) rfl w.heap.size ((hs 1 (by kernel_rfl)).trans rfl) 60 #[.slice ca n cc] (0, 0) _ (KX.out.below hB) Tryd.underlying60 rfl (by rw [info_row]; rfl) ⟨_, rfl, rfl, Below.refl _ _⟩
    | 12, _, ho, hd =>
      obtain rfl := Option.some.inj ho
      have h1 : a.eval (.tmp 14) = .agg #[.slice ca n cc] := hd 11 14 (by kernel_rfl) (by kernel_rfl)
      refine wp_callF (f := 42) (vals := #[.agg #[.slice ca n cc], .int .i64 5]) rfl (map2 h1 rfl) (by go_simp) ?_
      exact (C5.out W hB).mono fun e w' ⟨he, hb⟩ => ⟨_, he, _, rfl, rfl, hb⟩
    | 13, _, ho, hd =>
      obtain rfl := Option.some.inj ho
      exact wp_load_row 60 (.tmp 1) rfl w.heap.size ((hs 1 (by kernel_rfl)).trans rfl) 60 #[.slice ca n cc] (0, 0) _ (KX.out.below hB) Tryd.underlying60 rfl (by rw [info_row]; rfl) ⟨_, rfl, rfl, Below.refl _ _⟩
    | 14, _, ho, hd =>
      obtain rfl := Option.some.inj ho
      have h1 : a.eval (.tmp 16) = .agg #[.slice ca n cc] := hd 13 16 (by kernel_rfl) (by kernel_rfl)
      refine wp_callF (f := 42) (vals := #[.agg #[.slice ca n cc], .int .i64 6]) rfl (map2 h1 rfl) (by go_simp) ?_
      exact (C6.out W hB).mono fun e w' ⟨he, hb⟩ => ⟨_, he, _, rfl, rfl, hb⟩
    | k + 15, hi, _, _ => exact absurd hi (by omega)
  case tail =>
    intro vs W hB hR
    have r0 : vs 0 = .agg #[.slice ca n cc] := hR 0 (by decide)
    have r1 : vs 1 = .string x0 := hR 1 (by decide)
    have r2 : vs 2 = .agg #[.slice ca n cc] := hR 2 (by decide)
    have r3 : vs 3 = .string x1 := hR 3 (by decide)
    have r4 : vs 4 = .agg #[.slice ca n cc] := hR 4 (by decide)
    have r5 : vs 5 = .string x2 := hR 5 (by decide)
    have r6 : vs 6 = .agg #[.slice ca n cc] := hR 6 (by decide)
    have r7 : vs 7 = .int .u64 x3 := hR 7 (by decide)
    have r8 : vs 8 = .int .i64 y3 := hR 8 (by decide)
    have r9 : vs 9 = .agg #[.slice ca n cc] := hR 9 (by decide)
    have r10 : vs 10 = .string x4 := hR 10 (by decide)
    have r11 : vs 11 = .agg #[.slice ca n cc] := hR 11 (by decide)
    have r12 : vs 12 = .int .u64 x5 := hR 12 (by decide)
    have r13 : vs 13 = .agg #[.slice ca n cc] := hR 13 (by decide)
    have r14 : vs 14 = .int .u64 x6 := hR 14 (by decide)
    have HBW : Hid (Below w2.heap.size w2 W) := hB
    have KRW : Hid (Blk W (w.heap.size + 1) #[.string ⟨#[]⟩, .string ⟨#[]⟩, .string ⟨#[]⟩, .int .i64 0, .string ⟨#[]⟩, .int .u64 0, .int .u64 0] 49) := KR.out.below hB
    clear hR hB
    simp only [putL, put_lit, List.setIfInBounds_toArray, List.set_cons_succ, List.set_cons_zero, List.drop_succ_cons, List.drop_zero]
    rw [r0, r1, r2, r3, r4, r5, r6, r7, r8, r9, r10, r11, r12, r13, r14]
    clear r0 r1 r2 r3 r4 r5 r6 r7 r8 r9 r10 r11 r12 r13 r14
    have kz := KRW.out.open
    have kr0 := KRW.out.cell 0 rfl
    have kr1 := KRW.out.cell 1 rfl
    have kr2 := KRW.out.cell 2 rfl
    have kr3 := KRW.out.cell 3 rfl
    have kr4 := KRW.out.cell 4 rfl
    have kr5 := KRW.out.cell 5 rfl
    have kr6 := KRW.out.cell 6 rfl
    go_wp2
    exact ret_boxR (g := w.heap.size + 1) (w := putC W (w.heap.size + 1) 0 [.string x0, .string x1, .string x2, .int .i64 y3, .string x4, .int .u64 x5, .int .u64 x6]) rfl rfl rfl (load_chk (putC_all (l := [.string x0, .string x1, .string x2, .int .i64 y3, .string x4, .int .u64 x5, .int .u64 x6]) KRW.out rfl) rfl) ⟨rfl, putC_below [.string x0, .string x1, .string x2, .int .i64 y3, .string x4, .int .u64 x5, .int .u64 x6] W 0 (HB2.out.trans (HBW.out.mono HB2.out.size)) (by omega)⟩
end Go.Proofs.YtgjcchafmcccjaaDoor
