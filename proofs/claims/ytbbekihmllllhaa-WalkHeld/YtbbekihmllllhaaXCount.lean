/- Layer 4 (walk): Count. -/
import Derived.Test.YtbbekihmllllhaaXUnder
namespace Go.Proofs.Ytbbekihmllllhaa
open Go.RowKit Go.Shelf
set_option linter.unusedVariables false
attribute [local go_sem] Oper.semAt_some

theorem kp_put {n₀ : Nat} {X : Nat → Prop} {w : World} (hn : n₀ ≤ w.heap.size) (W' : World) (l' : Nat) (o o' : Obj) (hl' : w.heap.size ≤ l') (h1 : W'.heap[l']? = some o) (h2 : o.isCells = false) : Kp n₀ X W' (W'.putObj l' o') := by
  refine ⟨(Below.refl _ W').grown (grownBy_putObj' W' l' o') (by have := lt_of_heap h1; omega) (fun k e => by cases e; omega), fun b cs ty hbb _ _ => World.putObj_heap_other (fun e => ?_)⟩
  subst e
  rw [h1] at hbb
  cases hbb
  cases h2
/-- A store into a box of a kind that no walk reads. -/
theorem kp_store {n₀ : Nat} {X : Nat → Prop} {W : World} {b i : Nat} {cs : Array Value} {ty : TypeId} (hb : n₀ ≤ b) (h : W.heap[b]? = some (.cells cs ty)) (ht : ¬ KTy ty) (u : Value) : Kp n₀ X W (W.setCell ⟨b, i, none⟩ u) :=
  ⟨(Below.refl _ W).setCell hb u, fun k ds t hk htk _ => heap_setCell_other _ _ _ _ (fun e => by
    have e' : k = b := e
    subst e'
    rw [h] at hk
    simp at hk
    exact ht (by rw [hk.2]; exact htk))⟩

structure CoI (w : World) (n : Nat) (W : World) : Prop where
  below : Below w.heap.size w W
  box : W.heap[w.heap.size]? = some (.cells #[.int .i64 (n : Int)] 3)

set_option maxRecDepth 100000 in
set_option maxHeartbeats 4000000 in
theorem count_calls (tb : Nat) (T : Tr) (ne : Int) (d : Nat) (w : World) (hT : Tin w tb T ne d) (p : ByteArray) (hp : p.size ≤ 140737488355328) (hN : (ents (d + 1) T).length ≤ 1152921504606846976) :
    Calls Try.prog 17 #[.pointer (some ⟨tb, 0, none⟩), .string p] w fun e w' => e = .returned (.int .i64 ((und (d + 1) T p).length : Int)) ∧ Below w.heap.size w w' := by
  obtain ⟨w1, HW1⟩ : ∃ w1, Hid (w1 = w.alloc (.cells #[.int .i64 0] 3)) := ⟨_, rfl⟩
  have hb1 : Below w.heap.size w w1 := by rw [HW1.out]; exact (Below.refl _ _).alloc (Nat.le_refl _) _
  have q1 : w1.heap[w.heap.size]? = some (.cells #[.int .i64 0] 3) := by rw [HW1.out]; exact heap_alloc_new _ _
  have hs1 : w1.heap.size = w.heap.size + 1 := by rw [HW1.out]; simp [World.size_alloc]
  have HF := under_calls (some ⟨tb, 0, none⟩) p w1
  have HQ : Hid (Below w.heap.size w w1 ∧ w1.heap[w.heap.size]? = some (.cells #[.int .i64 0] 3)) := ⟨hb1, q1⟩
  have hfl : (fil (d + 1) T p).length ≤ 1152921504606846976 := Nat.le_trans (List.length_filter_le _ _) hN
  clear hb1 q1 hN
  refine (callsIn_wide (n := 8)).1 ?_
  refine callsIn_of_wp_marks Try.func17 rfl trivial ?_ rfl
  refine wpIn_wide.2 ?_
  simp only [Try.ntmps17, List.size_toArray, List.length_cons, List.length_nil, Nat.reduceAdd, Nat.reduceSub, Array.replicate_succ, Array.replicate_zero, List.push_toArray, List.append_toArray, List.nil_append, List.cons_append]
  go_wp2_with fail
  rw [← HW1.out]
  clear HW1
  refine HF.mono ?_
  clear HF
  rintro e w2 ⟨rfl, hw2⟩
  obtain ⟨hb2, hs2, d1, d2⟩ := box_blocks hw2
  have hb02 : Below w.heap.size w w2 := HQ.out.1.trans (hb2.mono HQ.out.1.size)
  have c2 : w2.heap[w.heap.size]? = some (.cells #[.int .i64 0] 3) := (hb2.block _ (by omega)).trans HQ.out.2
  rw [hs1] at d1 d2 hs2 ⊢
  clear hw2 hb2
  go_wp2_with fail
  refine (wpIn_wide (n := 8)).1 ?_
  refine range_law (n := 8) (by omega) (gf := 62) (lb := #[.pointer (some ⟨w.heap.size + 1, 0, none⟩), .pointer (some ⟨w.heap.size + 1 + 1, 0, none⟩)]) rfl (enters_of Try.func62 (by kernel_rfl) rfl)
    (under_seq w tb T ne d hT p hp (fun _ => False) (w.heap.size + 1) (w.heap.size + 1 + 1) w2 hb02 (fun b h => h.elim) d1 d2 (fun h => h)) (fun h1 h2 => h1.trans h2) (kp_put hb02.size) (Below.refl _ _) (fun _ => rfl)
    (fun pre W => CoI w pre.length W)
    (fun _ _ _ => False) ?hI (fun _ _ _ _ _ h _ _ => h) ?h0 ?a1 ?assign ?body ?done ?stop
  case assign =>
    intro l' m x W' K hK
    dsimp only [encE]
    gi_wp2
    exact hK
  case hI =>
    intro pre A C row hs hg hr
    exact ⟨hs.below.grown hg hs.below.size (fun r e => by have := (hr r e).1; have := hb02.size; omega), heap_kept hs.box hg (fun r e => (hr r e).2)⟩
  case h0 => exact ⟨hb02, c2⟩
  case body =>
    rintro l' m pre x W' hsz' hI' hlen
    have cc : W'.cell? ⟨w.heap.size, 0, none⟩ = some (.int .i64 (pre.length : Int)) := by rw [cell_of_blk hI'.box]; rfl
    have cz : W'.frozen? ⟨w.heap.size, 0, none⟩ = false := frozen_of_blk hI'.box
    have HI' : Hid _ := hI'
    clear hI'
    gi_wp2
    refine ⟨(KeepsOthers.setCell _ _ _).from _, kp_store (Nat.le_refl _) HI'.out.box (by unfold KTy; decide) _, ?_⟩
    refine ⟨HI'.out.below.setCell (p := ⟨w.heap.size, 0, none⟩) (Nat.le_refl _) _, ?_⟩
    rw [setCell_blk HI'.out.box]
    simp
  case done =>
    rintro D xs W' hD hS hI' hK
    have cc : W'.cell? ⟨w.heap.size, 0, none⟩ = some (.int .i64 (xs.length : Int)) := by rw [cell_of_blk hI'.box]; rfl
    have hlen : xs.length = (und (d + 1) T p).length := by have := congrArg List.length hS; simpa using this
    have HB : Hid (Below w.heap.size w W') := hI'.below
    clear hI' hS
    go_wp2
    refine ⟨by simp, .inl ⟨_, _, rfl, run_takeDeferred hK, ?_⟩⟩
    refine ⟨_, results_tmp rfl _ _ _, rfl, ?_⟩
    exact HB.out.grown (grownBy_putObj' _ _ _) HB.out.size (fun k e => by cases e; have := hb02.size; omega)
  case stop =>
    rintro D c xs W' _ _ h _
    exact h.elim
end Go.Proofs.Ytbbekihmllllhaa
