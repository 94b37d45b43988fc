import Derived.Test.YtnmndjplbcpglaaXBuilt4
import Derived.Test.YtnmndjplbcpglaaXFrom
import Derived.Test.YtnmndjplbcpglaaXIdxU
/- Layer 4 (walk): these. -/
namespace Go.Proofs.Ytnmndjplbcpglaa
open Go.RowKit
set_option linter.unusedVariables false

structure ThI (w : World) (tc : Array Value) (W : World) : Prop where
  below : Below w.heap.size w W
  tb : W.heap[w.heap.size]? = some (.cells tc 28)

set_option maxRecDepth 100000 in
set_option maxHeartbeats 4000000 in
theorem these_calls (gao : Option Addr) (gcap : Nat) (got : List En) (d : Dv) (es : List En) (ps : List ByteArray) (x : Sv) (is : List Nat) (w : World) (hg : EntsAt w gao got) (hd : DocAt w d es ps) (hx : x.At w) (hv : x.vs = natV is) (hl : got.length = is.length) (hin : ∀ i ∈ is, i < es.length) (hgot : got = is.map (fun i => es.getD i (⟨#[]⟩, 0))) (hn : es.length ≤ 5864062014650) (hm : is.length ≤ 5864062014650) :
    Calls Try.prog 9 #[.slice gao got.length gcap, .agg (d.cells es.length ps.length), .slice x.ao is.length x.cap] w fun e w' => e = .returned (.bool true) ∧ Below w.heap.size w w' := by
  obtain ⟨w1, HW1⟩ : ∃ w1, Hid (w1 = w.alloc (.cells (d.cells es.length ps.length) 28)) := ⟨_, rfl⟩
  have HI1 : Hid (ThI w (d.cells es.length ps.length) w1) := ⟨by rw [HW1.out]; exact (Below.refl _ _).alloc (Nat.le_refl _) _, by rw [HW1.out]; exact heap_alloc_new _ _⟩
  have HALL : Hid (∀ j (hj : j < is.length), ∃ (gb goff pb poff kb koff vb voff at_ : Nat) (k : ByteArray) (v : Int), gao = some ⟨gb, goff, none⟩ ∧ w.cell? ⟨gb, goff + j * 2, none⟩ = some (.string k) ∧ w.cell? ⟨gb, goff + j * 2 + 1, none⟩ = some (.int .i64 v) ∧
      x.ao = some ⟨pb, poff, none⟩ ∧ w.cell? ⟨pb, poff + j, none⟩ = some (.int .i64 (at_ : Int)) ∧ at_ < es.length ∧ d.k.ao = some ⟨kb, koff, none⟩ ∧ w.cell? ⟨kb, koff + at_, none⟩ = some (.string k) ∧ d.v.ao = some ⟨vb, voff, none⟩ ∧ w.cell? ⟨vb, voff + at_, none⟩ = some (.int .i64 v)) := fun j hj => by
    obtain ⟨gb, goff, a1, a2, a3, -⟩ := hg j (by omega)
    obtain ⟨pb, poff, b1, b2⟩ := hx.cells j (by rw [hv, natV_length]; exact hj)
    have hat := hin _ (List.getElem_mem hj)
    have hgj : got[j]'(by omega) = es[is[j]] := by simp [hgot, hat]
    obtain ⟨kb, koff, c1, c2⟩ := hd.k.str hd.kk is[j] (by rw [keysOf_len]; exact hat)
    obtain ⟨vb, voff, d1, d2⟩ := hd.v.int hd.vv is[j] (by simp [valsOf]; exact hat)
    refine ⟨gb, goff, pb, poff, kb, koff, vb, voff, is[j], es[is[j]].1, es[is[j]].2, a1, by rw [a2, hgj], by rw [a3, hgj], b1, ?_, hat, c1, by rw [c2]; simp [keysOf], d1, by rw [d2]; simp [valsOf]⟩
    rw [b2]; simp [hv, natV, ints]
  have hlen : got.length = is.length := hl
  rw [hlen]
  clear hg hd hx hv hl hin hgot
  obtain ⟨⟨ka, kc, kv⟩, ⟨va, vc, vv⟩, dl, dp, dm⟩ := d
  obtain ⟨xa, xc, xv⟩ := x
  dsimp only at HALL ⊢
  unfold Dv.cells
  unfold Dv.cells at HW1
  go_enter Try.func9, Try.ntmps9
  go_wp2_with fail
  rw [← HW1.out]
  clear HW1
  go_loopw [16] (fun i wr => ∃ j : Nat, j ≤ is.length ∧ i = .int .i64 j ∧ Hid (ThI w (Dv.cells ⟨⟨ka, kc, kv⟩, ⟨va, vc, vv⟩, dl, dp, dm⟩ es.length ps.length) wr)) (fun i _ => is.length - (intOf i).toNat)
  case atStart => exact ⟨0, Nat.zero_le _, rfl, HI1⟩
  case round =>
    obtain ⟨j, hj, rfl, HI⟩ := hrel
    clear HI1
    by_cases hlt : j < is.length
    · obtain ⟨gb, goff, pb, poff, kb, koff, vb, voff, at_, k, v, rfl, a2, a3, rfl, b2, hat, rfl, c2, rfl, d2⟩ := HALL.out j hlt
      have hbl := HI.out.below
      have a2' : wr.cell? ⟨gb, goff + j * 2, none⟩ = some (.string k) := by rw [hbl.cell (World.block_lt_of_cell? w _ a2)]; exact a2
      have a3' : wr.cell? ⟨gb, goff + j * 2 + 1, none⟩ = some (.int .i64 v) := by rw [hbl.cell (World.block_lt_of_cell? w _ a3)]; exact a3
      obtain ⟨w5, HW5⟩ : ∃ w5, Hid (w5 = wr.alloc (.cells #[.string k, .int .i64 v] 35)) := ⟨_, rfl⟩
      have hb5 : Below wr.heap.size wr w5 := by rw [HW5.out]; exact (Below.refl _ _).alloc (Nat.le_refl _) _
      have q5 : w5.heap[wr.heap.size]? = some (.cells #[.string k, .int .i64 v] 35) := by rw [HW5.out]; exact heap_alloc_new _ _
      have hb05 : Below w.heap.size w w5 := hbl.trans (hb5.mono hbl.size)
      have t5 : w5.heap[w.heap.size]? = some (.cells (Dv.cells ⟨⟨some ⟨kb, koff, none⟩, kc, kv⟩, ⟨some ⟨vb, voff, none⟩, vc, vv⟩, dl, dp, dm⟩ es.length ps.length) 28) := (hb5.block _ (lt_of_heap HI.out.tb)).trans HI.out.tb
      have e0 : w5.cell? ⟨wr.heap.size, 0, none⟩ = some (.string k) := by rw [cell_of_blk q5]; rfl
      have e1 : w5.cell? ⟨wr.heap.size, 1, none⟩ = some (.int .i64 v) := by rw [cell_of_blk q5]; rfl
      have m0 : w5.cell? ⟨w.heap.size, 0, none⟩ = some (.slice (some ⟨kb, koff, none⟩) es.length kc) := by rw [cell_of_blk t5]; rfl
      have m1 : w5.cell? ⟨w.heap.size, 1, none⟩ = some (.slice (some ⟨vb, voff, none⟩) es.length vc) := by rw [cell_of_blk t5]; rfl
      have b2' : w5.cell? ⟨pb, poff + j, none⟩ = some (.int .i64 (at_ : Int)) := by rw [hb05.cell (World.block_lt_of_cell? w _ b2)]; exact b2
      have c2' : w5.cell? ⟨kb, koff + at_, none⟩ = some (.string k) := by rw [hb05.cell (World.block_lt_of_cell? w _ c2)]; exact c2
      have d2' : w5.cell? ⟨vb, voff + at_, none⟩ = some (.int .i64 v) := by rw [hb05.cell (World.block_lt_of_cell? w _ d2)]; exact d2
      have i1 : (0 : Int) ≤ (j : Int) ∧ (j : Int) < (is.length : Int) := by omega
      have i2 : (0 : Int) ≤ (at_ : Int) ∧ (at_ : Int) < (es.length : Int) := by omega
      have HI5 : Hid (ThI w (Dv.cells ⟨⟨some ⟨kb, koff, none⟩, kc, kv⟩, ⟨some ⟨vb, voff, none⟩, vc, vv⟩, dl, dp, dm⟩ es.length ps.length) w5) := ⟨hb05, t5⟩
      clear a2 a3 b2 c2 d2 hbl hb5 q5 t5 hb05 HI
      go_wp2_with fail
      rw [← HW5.out]
      clear HW5
      go_quiet (fail)
      have HI6 : Hid (ThI w (Dv.cells ⟨⟨some ⟨kb, koff, none⟩, kc, kv⟩, ⟨some ⟨vb, voff, none⟩, vc, vv⟩, dl, dp, dm⟩ es.length ps.length) (w5.drewN nq)) := ⟨below_drewN HI5.out.below nq, HI5.out.tb⟩
      clear HI5 a2' a3' e0 e1 m0 m1 b2' c2' d2'
      go_wp2_with fail
      go_roundw
      case rel => exact ⟨j + 1, by omega, by go_num, HI6⟩
      case measure => simp [intOf]; omega
    · have hjl : j = is.length := by omega
      subst hjl
      go_wp2_with fail
      go_ret
      exact ⟨rfl, HI.out.below⟩
end Go.Proofs.Ytnmndjplbcpglaa

/- Layer 4 (walk): Count. -/
namespace Go.Proofs.Ytnmndjplbcpglaa
open Go.RowKit Go.Shelf
set_option linter.unusedVariables false
attribute [local go_sem] Oper.semAt_some

theorem kp_put {n₀ : Nat} {X : Nat → Prop} {w : World} (hn : n₀ ≤ w.heap.size) (W' : World) (l' : Nat) (o o' : Obj) (hl' : w.heap.size ≤ l') (h1 : W'.heap[l']? = some o) (h2 : o.isCells = false) : Kp n₀ X W' (W'.putObj l' o') := by
  refine ⟨(Below.refl _ W').grown (grownBy_putObj' W' l' o') (by have := lt_of_heap h1; omega) (fun k e => by cases e; omega), fun b cs ty hbb _ _ => World.putObj_heap_other (fun e => ?_)⟩
  subst e
  rw [h1] at hbb
  cases hbb
  cases h2
/-- A store into a box of a kind that no walk reads. -/
theorem kp_store {n₀ : Nat} {X : Nat → Prop} {W : World} {b i : Nat} {cs : Array Value} {ty : TypeId} (hb : n₀ ≤ b) (h : W.heap[b]? = some (.cells cs ty)) (ht : ¬ KTy ty) (u : Value) : Kp n₀ X W (W.setCell ⟨b, i, none⟩ u) :=
  ⟨(Below.refl _ W).setCell hb u, fun k ds t hk htk _ => heap_setCell_other _ _ _ _ (fun e => by
    have e' : k = b := e
    subst e'
    rw [h] at hk
    simp at hk
    exact ht (by rw [hk.2]; exact htk))⟩

structure CoI (w : World) (n : Nat) (W : World) : Prop where
  below : Below w.heap.size w W
  box : W.heap[w.heap.size]? = some (.cells #[.int .i64 (n : Int)] 3)

set_option maxRecDepth 100000 in
set_option maxHeartbeats 4000000 in
theorem count_calls (tb : Nat) (T : Tr) (ne : Int) (d : Nat) (w : World) (hT : Tin w tb T ne d) (p : ByteArray) (hp : p.size ≤ 140737488355328) (hN : (ents (d + 1) T).length ≤ 1152921504606846976) :
    Calls Try.prog 18 #[.pointer (some ⟨tb, 0, none⟩), .string p] w fun e w' => e = .returned (.int .i64 ((und (d + 1) T p).length : Int)) ∧ Below w.heap.size w w' := by
  obtain ⟨w1, HW1⟩ : ∃ w1, Hid (w1 = w.alloc (.cells #[.int .i64 0] 3)) := ⟨_, rfl⟩
  have hb1 : Below w.heap.size w w1 := by rw [HW1.out]; exact (Below.refl _ _).alloc (Nat.le_refl _) _
  have q1 : w1.heap[w.heap.size]? = some (.cells #[.int .i64 0] 3) := by rw [HW1.out]; exact heap_alloc_new _ _
  have hs1 : w1.heap.size = w.heap.size + 1 := by rw [HW1.out]; simp [World.size_alloc]
  have HF := under_calls (some ⟨tb, 0, none⟩) p w1
  have HQ : Hid (Below w.heap.size w w1 ∧ w1.heap[w.heap.size]? = some (.cells #[.int .i64 0] 3)) := ⟨hb1, q1⟩
  have hfl : (fil (d + 1) T p).length ≤ 1152921504606846976 := Nat.le_trans (List.length_filter_le _ _) hN
  clear hb1 q1 hN
  refine (callsIn_wide (n := 8)).1 ?_
  refine callsIn_of_wp_marks Try.func18 rfl trivial ?_ rfl
  refine wpIn_wide.2 ?_
  simp only [Try.ntmps18, List.size_toArray, List.length_cons, List.length_nil, Nat.reduceAdd, Nat.reduceSub, Array.replicate_succ, Array.replicate_zero, List.push_toArray, List.append_toArray, List.nil_append, List.cons_append]
  go_wp2_with fail
  rw [← HW1.out]
  clear HW1
  refine HF.mono ?_
  clear HF
  rintro e w2 ⟨rfl, hw2⟩
  obtain ⟨hb2, hs2, d1, d2⟩ := box_blocks hw2
  have hb02 : Below w.heap.size w w2 := HQ.out.1.trans (hb2.mono HQ.out.1.size)
  have c2 : w2.heap[w.heap.size]? = some (.cells #[.int .i64 0] 3) := (hb2.block _ (by omega)).trans HQ.out.2
  rw [hs1] at d1 d2 hs2 ⊢
  clear hw2 hb2
  go_wp2_with fail
  refine (wpIn_wide (n := 8)).1 ?_
  refine range_law (n := 8) (by omega) (gf := 59) (lb := #[.pointer (some ⟨w.heap.size + 1, 0, none⟩), .pointer (some ⟨w.heap.size + 1 + 1, 0, none⟩)]) rfl (enters_of Try.func59 (by kernel_rfl) rfl)
    (under_seq w tb T ne d hT p hp (fun _ => False) (w.heap.size + 1) (w.heap.size + 1 + 1) w2 hb02 (fun b h => h.elim) d1 d2 (fun h => h)) (fun h1 h2 => h1.trans h2) (kp_put hb02.size) (Below.refl _ _) (fun _ => rfl)
    (fun pre W => CoI w pre.length W)
    (fun _ _ _ => False) ?hI (fun _ _ _ _ _ h _ _ => h) ?h0 ?a1 ?assign ?body ?done ?stop
  case assign =>
    intro l' m x W' K hK
    dsimp only [encE]
    gi_wp2
    exact hK
  case hI =>
    intro pre A C row hs hg hr
    exact ⟨hs.below.grown hg hs.below.size (fun r e => by have := (hr r e).1; have := hb02.size; omega), heap_kept hs.box hg (fun r e => (hr r e).2)⟩
  case h0 => exact ⟨hb02, c2⟩
  case body =>
    rintro l' m pre x W' hsz' hI' hlen
    have cc : W'.cell? ⟨w.heap.size, 0, none⟩ = some (.int .i64 (pre.length : Int)) := by rw [cell_of_blk hI'.box]; rfl
    have cz : W'.frozen? ⟨w.heap.size, 0, none⟩ = false := frozen_of_blk hI'.box
    have HI' : Hid _ := hI'
    clear hI'
    gi_wp2
    refine ⟨(KeepsOthers.setCell _ _ _).from _, kp_store (Nat.le_refl _) HI'.out.box (by unfold KTy; decide) _, ?_⟩
    refine ⟨HI'.out.below.setCell (p := ⟨w.heap.size, 0, none⟩) (Nat.le_refl _) _, ?_⟩
    rw [setCell_blk HI'.out.box]
    simp
  case done =>
    rintro D xs W' hD hS hI' hK
    have cc : W'.cell? ⟨w.heap.size, 0, none⟩ = some (.int .i64 (xs.length : Int)) := by rw [cell_of_blk hI'.box]; rfl
    have hlen : xs.length = (und (d + 1) T p).length := by have := congrArg List.length hS; simpa using this
    have HB : Hid (Below w.heap.size w W') := hI'.below
    clear hI' hS
    go_wp2
    refine ⟨by simp, .inl ⟨_, _, rfl, run_takeDeferred hK, ?_⟩⟩
    refine ⟨_, results_tmp rfl _ _ _, rfl, ?_⟩
    exact HB.out.grown (grownBy_putObj' _ _ _) HB.out.size (fun k e => by cases e; have := hb02.size; omega)
  case stop =>
    rintro D c xs W' _ _ h _
    exact h.elim
end Go.Proofs.Ytnmndjplbcpglaa
