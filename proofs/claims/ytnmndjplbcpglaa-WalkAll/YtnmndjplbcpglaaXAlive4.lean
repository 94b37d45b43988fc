import Derived.Test.YtnmndjplbcpglaaXUnder
import Derived.Test.YtnmndjplbcpglaaXBuilt4
/- Layer 4 (walk): Count. -/
namespace Go.Proofs.Ytnmndjplbcpglaa
open Go.RowKit Go.Shelf
set_option linter.unusedVariables false
attribute [local go_sem] Oper.semAt_some

theorem kp_put {n₀ : Nat} {X : Nat → Prop} {w : World} (hn : n₀ ≤ w.heap.size) (W' : World) (l' : Nat) (o o' : Obj) (hl' : w.heap.size ≤ l') (h1 : W'.heap[l']? = some o) (h2 : o.isCells = false) : Kp n₀ X W' (W'.putObj l' o') := by
  refine ⟨(Below.refl _ W').grown (grownBy_putObj' W' l' o') (by have := lt_of_heap h1; omega) (fun k e => by cases e; omega), fun b cs ty hbb _ _ => World.putObj_heap_other (fun e => ?_)⟩
  subst e
  rw [h1] at hbb
  cases hbb
  cases h2
/-- A store into a box of a kind that no walk reads. -/
theorem kp_store {n₀ : Nat} {X : Nat → Prop} {W : World} {b i : Nat} {cs : Array Value} {ty : TypeId} (hb : n₀ ≤ b) (h : W.heap[b]? = some (.cells cs ty)) (ht : ¬ KTy ty) (u : Value) : Kp n₀ X W (W.setCell ⟨b, i, none⟩ u) :=
  ⟨(Below.refl _ W).setCell hb u, fun k ds t hk htk _ => heap_setCell_other _ _ _ _ (fun e => by
    have e' : k = b := e
    subst e'
    rw [h] at hk
    simp at hk
    exact ht (by rw [hk.2]; exact htk))⟩

structure CoI (w : World) (n : Nat) (W : World) : Prop where
  below : Below w.heap.size w W
  box : W.heap[w.heap.size]? = some (.cells #[.int .i64 (n : Int)] 3)

set_option maxRecDepth 100000 in
set_option maxHeartbeats 4000000 in
theorem count_calls (tb : Nat) (T : Tr) (ne : Int) (d : Nat) (w : World) (hT : Tin w tb T ne d) (p : ByteArray) (hp : p.size ≤ 140737488355328) (hN : (ents (d + 1) T).length ≤ 1152921504606846976) :
    Calls Try.prog 18 #[.pointer (some ⟨tb, 0, none⟩), .string p] w fun e w' => e = .returned (.int .i64 ((und (d + 1) T p).length : Int)) ∧ Below w.heap.size w w' := by
  obtain ⟨w1, HW1⟩ : ∃ w1, Hid (w1 = w.alloc (.cells #[.int .i64 0] 3)) := ⟨_, rfl⟩
  have hb1 : Below w.heap.size w w1 := by rw [HW1.out]; exact (Below.refl _ _).alloc (Nat.le_refl _) _
  have q1 : w1.heap[w.heap.size]? = some (.cells #[.int .i64 0] 3) := by rw [HW1.out]; exact heap_alloc_new _ _
  have hs1 : w1.heap.size = w.heap.size + 1 := by rw [HW1.out]; simp [World.size_alloc]
  have HF := under_calls (some ⟨tb, 0, none⟩) p w1
  have HQ : Hid (Below w.heap.size w w1 ∧ w1.heap[w.heap.size]? = some (.cells #[.int .i64 0] 3)) := ⟨hb1, q1⟩
  have hfl : (fil (d + 1) T p).length ≤ 1152921504606846976 := Nat.le_trans (List.length_filter_le _ _) hN
  clear hb1 q1 hN
  refine (callsIn_wide (n := 8)).1 ?_
  refine callsIn_of_wp_marks Try.func18 rfl trivial ?_ rfl
  refine wpIn_wide.2 ?_
  simp only [Try.ntmps18, List.size_toArray, List.length_cons, List.length_nil, Nat.reduceAdd, Nat.reduceSub, Array.replicate_succ, Array.replicate_zero, List.push_toArray, List.append_toArray, List.nil_append, List.cons_append]
  go_wp2_with fail
  rw [← HW1.out]
  clear HW1
  refine HF.mono ?_
  clear HF
  rintro e w2 ⟨rfl, hw2⟩
  obtain ⟨hb2, hs2, d1, d2⟩ := box_blocks hw2
  have hb02 : Below w.heap.size w w2 := HQ.out.1.trans (hb2.mono HQ.out.1.size)
  have c2 : w2.heap[w.heap.size]? = some (.cells #[.int .i64 0] 3) := (hb2.block _ (by omega)).trans HQ.out.2
  rw [hs1] at d1 d2 hs2 ⊢
  clear hw2 hb2
  go_wp2_with fail
  refine (wpIn_wide (n := 8)).1 ?_
  refine range_law (n := 8) (by omega) (gf := 59) (lb := #[.pointer (some ⟨w.heap.size + 1, 0, none⟩), .pointer (some ⟨w.heap.size + 1 + 1, 0, none⟩)]) rfl (enters_of Try.func59 (by kernel_rfl) rfl)
    (under_seq w tb T ne d hT p hp (fun _ => False) (w.heap.size + 1) (w.heap.size + 1 + 1) w2 hb02 (fun b h => h.elim) d1 d2 (fun h => h)) (fun h1 h2 => h1.trans h2) (kp_put hb02.size) (Below.refl _ _) (fun _ => rfl)
    (fun pre W => CoI w pre.length W)
    (fun _ _ _ => False) ?hI (fun _ _ _ _ _ h _ _ => h) ?h0 ?a1 ?assign ?body ?done ?stop
  case assign =>
    intro l' m x W' K hK
    dsimp only [encE]
    gi_wp2
    exact hK
  case hI =>
    intro pre A C row hs hg hr
    exact ⟨hs.below.grown hg hs.below.size (fun r e => by have := (hr r e).1; have := hb02.size; omega), heap_kept hs.box hg (fun r e => (hr r e).2)⟩
  case h0 => exact ⟨hb02, c2⟩
  case body =>
    rintro l' m pre x W' hsz' hI' hlen
    have cc : W'.cell? ⟨w.heap.size, 0, none⟩ = some (.int .i64 (pre.length : Int)) := by rw [cell_of_blk hI'.box]; rfl
    have cz : W'.frozen? ⟨w.heap.size, 0, none⟩ = false := frozen_of_blk hI'.box
    have HI' : Hid _ := hI'
    clear hI'
    gi_wp2
    refine ⟨(KeepsOthers.setCell _ _ _).from _, kp_store (Nat.le_refl _) HI'.out.box (by unfold KTy; decide) _, ?_⟩
    refine ⟨HI'.out.below.setCell (p := ⟨w.heap.size, 0, none⟩) (Nat.le_refl _) _, ?_⟩
    rw [setCell_blk HI'.out.box]
    simp
  case done =>
    rintro D xs W' hD hS hI' hK
    have cc : W'.cell? ⟨w.heap.size, 0, none⟩ = some (.int .i64 (xs.length : Int)) := by rw [cell_of_blk hI'.box]; rfl
    have hlen : xs.length = (und (d + 1) T p).length := by have := congrArg List.length hS; simpa using this
    have HB : Hid (Below w.heap.size w W') := hI'.below
    clear hI' hS
    go_wp2
    refine ⟨by simp, .inl ⟨_, _, rfl, run_takeDeferred hK, ?_⟩⟩
    refine ⟨_, results_tmp rfl _ _ _, rfl, ?_⟩
    exact HB.out.grown (grownBy_putObj' _ _ _) HB.out.size (fun k e => by cases e; have := hb02.size; omega)
  case stop =>
    rintro D c xs W' _ _ h _
    exact h.elim
end Go.Proofs.Ytnmndjplbcpglaa

/- Layer 4 (walk): what the document fixes of a walk over two entries. -/
namespace Go.Proofs.Ytnmndjplbcpglaa
open Go.RowKit Go.Shelf
set_option linter.unusedVariables false
attribute [local go_sem] Oper.semAt_some

abbrev tA : ByteArray := ⟨#[97]⟩
abbrev tB : ByteArray := ⟨#[98]⟩
def two : List En := [(tB, 2), (tA, 1)]
theorem doc_two : docOf two = [(tA, 1), (tB, 2)] := by decide
def sumE (l : List En) : Int := l.foldl (fun s e => wrap64 (wrap64 (10 * s) + e.2)) 0
theorem sumE_snoc (l : List En) (e : En) : sumE (l ++ [e]) = wrap64 (wrap64 (10 * sumE l) + e.2) := by simp [sumE]
theorem sum_two : sumE [(tA, 1), (tB, 2)] = 12 := by first | rfl | simp [sumE, wrap64]

structure AlW (w₀ : World) (bs : Nat) (s : Int) (W : World) : Prop where
  below : Below w₀.heap.size w₀ W
  box : W.heap[bs]? = some (.cells #[.int .i64 s] 3)

theorem eql_seq (fn : Fn) (first cap : Array Value) (w : World) : (binOp .eql 32 (.func fn first cap) .nilFunc).run Try.prog w = .ok (.bool false) w := by
  have hu := Try.underlying32
  have h : (Op.equal 32 (.func fn first cap) .nilFunc).run Try.prog w = .ok false w := by
    show (Op.equalIn (9999 + 1) _ _ _).run _ _ = _
    rw [Op.equalIn]
    simp [run_underlying hu, Sem.run_bind, Result.andThen]
  simp [binOp, h, go_sem]
theorem fil_all {n : Nat} {t : Tr} (hr : t.p = kE) : fil n t ⟨#[]⟩ = ents n t := by
  rw [fil_root hr]
  refine filter_all fun x _ => ?_
  have : kyb (⟨#[]⟩ : ByteArray) = [] := rfl
  simp [notLt, this, not_lt_nil]

set_option maxRecDepth 100000 in
set_option maxHeartbeats 4000000 in
theorem walkAlive_calls (w : World) : Calls Try.prog 5 #[] w fun e w' => e = .returned (.bool true) ∧ Below w.heap.size w w' := by
  obtain ⟨w1, HW1⟩ : ∃ w1, Hid (w1 = w.alloc (.cells #[.string ⟨#[98]⟩, .int .i64 2, .string ⟨#[97]⟩, .int .i64 1] 35)) := ⟨_, rfl⟩
  have hb1 : Below w.heap.size w w1 := by rw [HW1.out]; exact (Below.refl _ _).alloc (Nat.le_refl _) _
  have q1 : w1.heap[w.heap.size]? = some (.cells #[.string ⟨#[98]⟩, .int .i64 2, .string ⟨#[97]⟩, .int .i64 1] 35) := by rw [HW1.out]; exact heap_alloc_new _ _
  have hE : EntsAt w1 (some ⟨w.heap.size, 0, none⟩) two := fun i hi => by
    match i, hi with
    | 0, _ => exact ⟨_, _, rfl, by rw [cell_of_blk q1]; rfl, by rw [cell_of_blk q1]; rfl, by show tB.size ≤ _; decide⟩
    | 1, _ => exact ⟨_, _, rfl, by rw [cell_of_blk q1]; rfl, by rw [cell_of_blk q1]; rfl, by show tA.size ≤ _; decide⟩
  have HBU := built4_calls (some ⟨w.heap.size, 0, none⟩) 2 two w1 hE (by decide)
  have HB1 : Hid (Below w.heap.size w w1) := hb1
  rw [doc_two] at HBU
  clear hb1 q1 hE
  refine (callsIn_wide (n := 8)).1 ?_
  refine callsIn_of_wp_marks Try.func5 rfl trivial ?_ rfl
  refine wpIn_wide.2 ?_
  simp only [Try.ntmps5, List.size_toArray, List.length_nil, Nat.reduceSub, Array.replicate_succ, Array.replicate_zero, List.push_toArray, List.append_toArray, List.nil_append, List.cons_append]
  go_wp2_with fail
  rw [← HW1.out]
  clear HW1
  refine HBU.mono ?_
  clear HBU
  rintro e w2 ⟨tb, T, ne, d, ps, rfl, hH, -⟩
  have HB2 : Hid (Below w.heap.size w w2) := HB1.out.trans (hH.good.below.mono HB1.out.size)
  have HH2 : Hid (Held w1 w2 tb T ne 2 [(tA, 1), (tB, 2)]) := hH
  clear hH
  obtain ⟨w4, HW4⟩ : ∃ w4, Hid (w4 = (w2.alloc (.cells (d.cells 2 ps.length) 28)).alloc (.cells #[.int .i64 0] 3)) := ⟨_, rfl⟩
  have s3 : (w2.alloc (.cells (d.cells 2 ps.length) 28)).heap.size = w2.heap.size + 1 := by simp [World.size_alloc]
  have hb4 : Below w2.heap.size w2 w4 := by rw [HW4.out]; exact ((Below.refl _ _).alloc (Nat.le_refl _) _).alloc (by omega) _
  have hs4 : w4.heap.size = w2.heap.size + 2 := by rw [HW4.out]; simp [World.size_alloc]
  have q4 : w4.heap[w2.heap.size + 1]? = some (.cells #[.int .i64 0] 3) := by rw [HW4.out]; exact new_at s3 _
  have HQ4 : Hid (Below w2.heap.size w2 w4 ∧ w4.heap[w2.heap.size + 1]? = some (.cells #[.int .i64 0] 3)) := ⟨hb4, q4⟩
  have HA := all_calls (some ⟨tb, 0, none⟩) w4
  clear hb4 q4 s3
  unfold Dv.cells
  unfold Dv.cells at HW4
  go_wp2_with fail
  rw [← HW4.out]
  clear HW4
  refine HA.mono ?_
  clear HA
  rintro e w5 ⟨rfl, hw5⟩
  obtain ⟨hb5, hs5, d1, d2⟩ := from_boxes hw5
  have hb25 : Below w2.heap.size w2 w5 := HQ4.out.1.trans (hb5.mono HQ4.out.1.size)
  have c5 : w5.heap[w2.heap.size + 1]? = some (.cells #[.int .i64 0] 3) := (hb5.block _ (by omega)).trans HQ4.out.2
  rw [hs4] at d1 d2 hs5 ⊢
  have hTin := HH2.out.tin
  have hents := HH2.out.ents
  have hfil : fil (2 + 1) T ⟨#[]⟩ = [(tA, 1), (tB, 2)] := (fil_all hTin.root).trans hents
  have hund : und (2 + 1) T tA = [(tA, 1)] := by
    unfold und
    rw [fil_root hTin.root, hents]
    decide
  have hef := eql_seq
  clear hw5 hb5
  go_wp2_with fail
  refine (wpIn_wide (n := 8)).1 ?_
  refine range_law (n := 8) (by omega) (gf := 43) (lb := #[.pointer (some ⟨w2.heap.size + 2, 0, none⟩), .pointer (some ⟨w2.heap.size + 2 + 1, 0, none⟩)]) rfl (enters_of Try.func43 (by kernel_rfl) rfl)
    (from_seq w2 tb T ne 2 hTin ⟨#[]⟩ (by decide) (fun _ => False) (w2.heap.size + 2) (w2.heap.size + 2 + 1) w5 hb25 (fun b h => h.elim) d1 d2) (fun h1 h2 => h1.trans h2) (kp_put hb25.size) (Below.refl _ _) (fun _ => rfl)
    (fun pre W => AlW w2 (w2.heap.size + 1) (sumE (pre.map (·.1))) W)
    (fun _ _ _ => False) ?hI (fun _ _ _ _ _ h _ _ => h) ?h0 ?a1 ?assign ?body ?done ?stop
  case assign =>
    intro l' m x W' K hK
    dsimp only [encE]
    gi_wp2
    exact hK
  case hI =>
    intro pre A C row hs hg hr
    exact ⟨hs.below.grown hg hs.below.size (fun r e => by have := (hr r e).1; omega), heap_kept hs.box hg (fun r e => (hr r e).2)⟩
  case h0 => exact ⟨hb25, c5⟩
  case body =>
    rintro l' m pre x W' hsz' hI' hlen
    have cc : W'.cell? ⟨w2.heap.size + 1, 0, none⟩ = some (.int .i64 (sumE (pre.map (·.1)))) := by rw [cell_of_blk hI'.box]; rfl
    have cz : W'.frozen? ⟨w2.heap.size + 1, 0, none⟩ = false := frozen_of_blk hI'.box
    have HI' : Hid _ := hI'
    clear hI'
    gi_wp2
    refine ⟨(KeepsOthers.setCell _ _ _).from _, kp_store (by omega) HI'.out.box (by unfold KTy; decide) _, ?_⟩
    refine ⟨HI'.out.below.setCell (p := ⟨w2.heap.size + 1, 0, none⟩) (by show w2.heap.size ≤ w2.heap.size + 1; omega) _, ?_⟩
    rw [setCell_blk HI'.out.box, List.map_append]
    simp only [List.map_cons, List.map_nil]
    rw [sumE_snoc]
    rfl
  case done =>
    rintro D xs W' hD hS hI' hK
    have cc : W'.cell? ⟨w2.heap.size + 1, 0, none⟩ = some (.int .i64 12) := by
      rw [cell_of_blk hI'.box, hS, hfil, sum_two]; rfl
    have HB : Hid (Below w2.heap.size w2 W') := hI'.below
    have HCO := count_calls tb T ne 2 W' ⟨hTin.tree.keep hI'.below, hTin.wf, hTin.dep, hTin.root⟩ tA (by decide) (by rw [hents]; decide)
    rw [hund] at HCO
    have HK : Hid (W'.heap[D]? = some (.deferred (some []))) := hK
    have hDW := lt_of_heap hK
    clear hI' hS hK
    go_wp2_with fail
    refine HCO.mono ?_
    clear HCO
    rintro e w9 ⟨rfl, hb9⟩
    have HB9 : Hid (Below W'.heap.size W' w9) := hb9
    clear hb9
    go_wp2_with fail
    have hK9 : w9.heap[D]? = some (.deferred (some [])) := (HB9.out.block _ hDW).trans HK.out
    refine ⟨by simp, .inl ⟨_, _, rfl, run_takeDeferred hK9, ?_⟩⟩
    refine ⟨_, results_tmp rfl _ _ _, rfl, ?_⟩
    have hbw : Below w.heap.size w w9 := (HB2.out.trans (HB.out.mono HB2.out.size)).trans (HB9.out.mono (HB2.out.trans (HB.out.mono HB2.out.size)).size)
    exact hbw.grown (grownBy_putObj' _ _ _) hbw.size (fun k e => by cases e; have h1 := HB2.out.size; omega)
  case stop =>
    rintro D c xs W' _ _ h _
    exact h.elim
end Go.Proofs.Ytnmndjplbcpglaa
