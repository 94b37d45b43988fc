import Derived.Test.YtnmndjplbcpglaaXBuilt4
import Derived.Test.YtnmndjplbcpglaaXCount
/- Layer 4 (walk): what the document fixes of a walk over two entries. -/
namespace Go.Proofs.Ytnmndjplbcpglaa
open Go.RowKit Go.Shelf
set_option linter.unusedVariables false
attribute [local go_sem] Oper.semAt_some

abbrev tA : ByteArray := ⟨#[97]⟩
abbrev tB : ByteArray := ⟨#[98]⟩
def two : List En := [(tB, 2), (tA, 1)]
theorem doc_two : docOf two = [(tA, 1), (tB, 2)] := by decide
def sumE (l : List En) : Int := l.foldl (fun s e => wrap64 (wrap64 (10 * s) + e.2)) 0
theorem sumE_snoc (l : List En) (e : En) : sumE (l ++ [e]) = wrap64 (wrap64 (10 * sumE l) + e.2) := by simp [sumE]
theorem sum_two : sumE [(tA, 1), (tB, 2)] = 12 := by first | rfl | simp [sumE, wrap64]

structure AlW (w₀ : World) (bs : Nat) (s : Int) (W : World) : Prop where
  below : Below w₀.heap.size w₀ W
  box : W.heap[bs]? = some (.cells #[.int .i64 s] 3)

theorem eql_seq (fn : Fn) (first cap : Array Value) (w : World) : (binOp .eql 32 (.func fn first cap) .nilFunc).run Try.prog w = .ok (.bool false) w := by
  have hu := Try.underlying32
  have h : (Op.equal 32 (.func fn first cap) .nilFunc).run Try.prog w = .ok false w := by
    show (Op.equalIn (9999 + 1) _ _ _).run _ _ = _
    rw [Op.equalIn]
    simp [run_underlying hu, Sem.run_bind, Result.andThen]
  simp [binOp, h, go_sem]
theorem fil_all {n : Nat} {t : Tr} (hr : t.p = kE) : fil n t ⟨#[]⟩ = ents n t := by
  rw [fil_root hr]
  refine filter_all fun x _ => ?_
  have : kyb (⟨#[]⟩ : ByteArray) = [] := rfl
  simp [notLt, this, not_lt_nil]

set_option maxRecDepth 100000 in
set_option maxHeartbeats 4000000 in
theorem walkAlive_calls (w : World) : Calls Try.prog 5 #[] w fun e w' => e = .returned (.bool true) ∧ Below w.heap.size w w' := by
  obtain ⟨w1, HW1⟩ : ∃ w1, Hid (w1 = w.alloc (.cells #[.string ⟨#[98]⟩, .int .i64 2, .string ⟨#[97]⟩, .int .i64 1] 35)) := ⟨_, rfl⟩
  have hb1 : Below w.heap.size w w1 := by rw [HW1.out]; exact (Below.refl _ _).alloc (Nat.le_refl _) _
  have q1 : w1.heap[w.heap.size]? = some (.cells #[.string ⟨#[98]⟩, .int .i64 2, .string ⟨#[97]⟩, .int .i64 1] 35) := by rw [HW1.out]; exact heap_alloc_new _ _
  have hE : EntsAt w1 (some ⟨w.heap.size, 0, none⟩) two := fun i hi => by
    match i, hi with
    | 0, _ => exact ⟨_, _, rfl, by rw [cell_of_blk q1]; rfl, by rw [cell_of_blk q1]; rfl, by show tB.size ≤ _; decide⟩
    | 1, _ => exact ⟨_, _, rfl, by rw [cell_of_blk q1]; rfl, by rw [cell_of_blk q1]; rfl, by show tA.size ≤ _; decide⟩
  have HBU := built4_calls (some ⟨w.heap.size, 0, none⟩) 2 two w1 hE (by decide)
  have HB1 : Hid (Below w.heap.size w w1) := hb1
  rw [doc_two] at HBU
  clear hb1 q1 hE
  refine (callsIn_wide (n := 8)).1 ?_
  refine callsIn_of_wp_marks Try.func5 rfl trivial ?_ rfl
  refine wpIn_wide.2 ?_
  simp only [Try.ntmps5, List.size_toArray, List.length_nil, Nat.reduceSub, Array.replicate_succ, Array.replicate_zero, List.push_toArray, List.append_toArray, List.nil_append, List.cons_append]
  go_wp2_with fail
  rw [← HW1.out]
  clear HW1
  refine HBU.mono ?_
  clear HBU
  rintro e w2 ⟨tb, T, ne, d, ps, rfl, hH, -⟩
  have HB2 : Hid (Below w.heap.size w w2) := HB1.out.trans (hH.good.below.mono HB1.out.size)
  have HH2 : Hid (Held w1 w2 tb T ne 2 [(tA, 1), (tB, 2)]) := hH
  clear hH
  obtain ⟨w4, HW4⟩ : ∃ w4, Hid (w4 = (w2.alloc (.cells (d.cells 2 ps.length) 28)).alloc (.cells #[.int .i64 0] 3)) := ⟨_, rfl⟩
  have s3 : (w2.alloc (.cells (d.cells 2 ps.length) 28)).heap.size = w2.heap.size + 1 := by simp [World.size_alloc]
  have hb4 : Below w2.heap.size w2 w4 := by rw [HW4.out]; exact ((Below.refl _ _).alloc (Nat.le_refl _) _).alloc (by omega) _
  have hs4 : w4.heap.size = w2.heap.size + 2 := by rw [HW4.out]; simp [World.size_alloc]
  have q4 : w4.heap[w2.heap.size + 1]? = some (.cells #[.int .i64 0] 3) := by rw [HW4.out]; exact new_at s3 _
  have HQ4 : Hid (Below w2.heap.size w2 w4 ∧ w4.heap[w2.heap.size + 1]? = some (.cells #[.int .i64 0] 3)) := ⟨hb4, q4⟩
  have HA := all_calls (some ⟨tb, 0, none⟩) w4
  clear hb4 q4 s3
  unfold Dv.cells
  unfold Dv.cells at HW4
  go_wp2_with fail
  rw [← HW4.out]
  clear HW4
  refine HA.mono ?_
  clear HA
  rintro e w5 ⟨rfl, hw5⟩
  obtain ⟨hb5, hs5, d1, d2⟩ := from_boxes hw5
  have hb25 : Below w2.heap.size w2 w5 := HQ4.out.1.trans (hb5.mono HQ4.out.1.size)
  have c5 : w5.heap[w2.heap.size + 1]? = some (.cells #[.int .i64 0] 3) := (hb5.block _ (by omega)).trans HQ4.out.2
  rw [hs4] at d1 d2 hs5 ⊢
  have hTin := HH2.out.tin
  have hents := HH2.out.ents
  have hfil : fil (2 + 1) T ⟨#[]⟩ = [(tA, 1), (tB, 2)] := (fil_all hTin.root).trans hents
  have hund : und (2 + 1) T tA = [(tA, 1)] := by
    unfold und
    rw [fil_root hTin.root, hents]
    decide
  have hef := eql_seq
  clear hw5 hb5
  go_wp2_with fail
  refine (wpIn_wide (n := 8)).1 ?_
  refine range_law (n := 8) (by omega) (gf := 43) (lb := #[.pointer (some ⟨w2.heap.size + 2, 0, none⟩), .pointer (some ⟨w2.heap.size + 2 + 1, 0, none⟩)]) rfl (enters_of Try.func43 (by kernel_rfl) rfl)
    (from_seq w2 tb T ne 2 hTin ⟨#[]⟩ (by decide) (fun _ => False) (w2.heap.size + 2) (w2.heap.size + 2 + 1) w5 hb25 (fun b h => h.elim) d1 d2) (fun h1 h2 => h1.trans h2) (kp_put hb25.size) (Below.refl _ _) (fun _ => rfl)
    (fun pre W => AlW w2 (w2.heap.size + 1) (sumE (pre.map (·.1))) W)
    (fun _ _ _ => False) ?hI (fun _ _ _ _ _ h _ _ => h) ?h0 ?a1 ?assign ?body ?done ?stop
  case assign =>
    intro l' m x W' K hK
    dsimp only [encE]
    gi_wp2
    exact hK
  case hI =>
    intro pre A C row hs hg hr
    exact ⟨hs.below.grown hg hs.below.size (fun r e => by have := (hr r e).1; omega), heap_kept hs.box hg (fun r e => (hr r e).2)⟩
  case h0 => exact ⟨hb25, c5⟩
  case body =>
    rintro l' m pre x W' hsz' hI' hlen
    have cc : W'.cell? ⟨w2.heap.size + 1, 0, none⟩ = some (.int .i64 (sumE (pre.map (·.1)))) := by rw [cell_of_blk hI'.box]; rfl
    have cz : W'.frozen? ⟨w2.heap.size + 1, 0, none⟩ = false := frozen_of_blk hI'.box
    have HI' : Hid _ := hI'
    clear hI'
    gi_wp2
    refine ⟨(KeepsOthers.setCell _ _ _).from _, kp_store (by omega) HI'.out.box (by unfold KTy; decide) _, ?_⟩
    refine ⟨HI'.out.below.setCell (p := ⟨w2.heap.size + 1, 0, none⟩) (by show w2.heap.size ≤ w2.heap.size + 1; omega) _, ?_⟩
    rw [setCell_blk HI'.out.box, List.map_append]
    simp only [List.map_cons, List.map_nil]
    rw [sumE_snoc]
    rfl
  case done =>
    rintro D xs W' hD hS hI' hK
    have cc : W'.cell? ⟨w2.heap.size + 1, 0, none⟩ = some (.int .i64 12) := by
      rw [cell_of_blk hI'.box, hS, hfil, sum_two]; rfl
    have HB : Hid (Below w2.heap.size w2 W') := hI'.below
    have HCO := count_calls tb T ne 2 W' ⟨hTin.tree.keep hI'.below, hTin.wf, hTin.dep, hTin.root⟩ tA (by decide) (by rw [hents]; decide)
    rw [hund] at HCO
    have HK : Hid (W'.heap[D]? = some (.deferred (some []))) := hK
    have hDW := lt_of_heap hK
    clear hI' hS hK
    go_wp2_with fail
    refine HCO.mono ?_
    clear HCO
    rintro e w9 ⟨rfl, hb9⟩
    have HB9 : Hid (Below W'.heap.size W' w9) := hb9
    clear hb9
    go_wp2_with fail
    have hK9 : w9.heap[D]? = some (.deferred (some [])) := (HB9.out.block _ hDW).trans HK.out
    refine ⟨by simp, .inl ⟨_, _, rfl, run_takeDeferred hK9, ?_⟩⟩
    refine ⟨_, results_tmp rfl _ _ _, rfl, ?_⟩
    have hbw : Below w.heap.size w w9 := (HB2.out.trans (HB.out.mono HB2.out.size)).trans (HB9.out.mono (HB2.out.trans (HB.out.mono HB2.out.size)).size)
    exact hbw.grown (grownBy_putObj' _ _ _) hbw.size (fun k e => by cases e; have h1 := HB2.out.size; omega)
  case stop =>
    rintro D c xs W' _ _ h _
    exact h.elim
end Go.Proofs.Ytnmndjplbcpglaa

/- Layer 4 (walk): the slice in which a law gathers entries. -/
namespace Go.Proofs.Ytnmndjplbcpglaa
open Go.RowKit Go.Shelf
set_option linter.unusedVariables false
attribute [local go_sem] Oper.semAt_some

def enCells (l : List En) : List Value := l.flatMap fun e => [.string e.1, .int .i64 e.2]
theorem enCells_length (l : List En) : (enCells l).length = l.length * 2 := by
  induction l with
  | nil => rfl
  | cons e l ih => simp only [enCells, List.flatMap_cons, List.length_append, List.length_cons, List.length_nil] at ih ⊢; omega
theorem enCells_snoc (l : List En) (e : En) : enCells (l ++ [e]) = enCells l ++ [.string e.1, .int .i64 e.2] := by simp [enCells]
theorem enCells_get (l : List En) : ∀ (i : Nat) (h : i < l.length), (enCells l)[i * 2]? = some (.string l[i].1) ∧ (enCells l)[i * 2 + 1]? = some (.int .i64 l[i].2) := by
  induction l with
  | nil => intro i h; simp at h
  | cons e l ih =>
    intro i h
    have hc : enCells (e :: l) = .string e.1 :: .int .i64 e.2 :: enCells l := rfl
    rw [hc]
    cases i with
    | zero => exact ⟨rfl, rfl⟩
    | succ i =>
      have := ih i (by simpa using h)
      rw [show (i + 1) * 2 = i * 2 + 1 + 1 by omega]
      simpa using this
def OwnE (W : World) (B : Nat) (v : Value) (l : List En) : Prop := W.ownsRow B 35 2 v l.length (enCells l)
theorem infoE : (Try.prog.info? 35).map (fun i => (i.zero, i.size, i.bytes)) = some (some (.agg #[.string ⟨#[]⟩, .int .i64 0]), 2, 24) := by kernel_rfl
theorem OwnE.ents {W : World} {B : Nat} {v : Value} {l : List En} (h : OwnE W B v l) (hz : ∀ e ∈ l, e.1.size ≤ 140737488351296) : ∃ ao cap, v = .slice ao l.length cap ∧ EntsAt W ao l := by
  rcases h.2 with ⟨rfl, h0⟩ | ⟨g, cap, cur, rfl, hb, hg, hnc, hcm, hcs, htake⟩
  · exact ⟨none, 0, by rw [h0], fun i hi => by omega⟩
  · refine ⟨_, cap, rfl, fun i hi => ⟨g, 0, rfl, ?_, ?_, hz _ (List.getElem_mem hi)⟩⟩
    · have h1 := World.ownsRow.cellAt h (i * 2) (by omega)
      rw [(enCells_get l i hi).1] at h1
      rw [Nat.zero_add]; exact h1
    · have h1 := World.ownsRow.cellAt h (i * 2 + 1) (by omega)
      rw [(enCells_get l i hi).2] at h1
      rw [Nat.zero_add]; exact h1
theorem entry_new (W : World) (k : ByteArray) (v : Int) : ∀ j u, ([Value.string k, Value.int .i64 v] : List Value)[j]? = some u → (W.alloc (.cells #[.string k, .int .i64 v] 35)).cell? ((⟨W.heap.size, 0, none⟩ : Addr).add j) = some u := cells_new W [.string k, .int .i64 v] 35

/-- The law's own slice lies in its box. -/
structure GoI (w₀ : World) (bg : Nat) (l : List En) (W : World) : Prop where
  below : Below w₀.heap.size w₀ W
  got : ∃ ao n cap, W.heap[bg]? = some (.cells #[.slice ao n cap] 22) ∧ OwnE W w₀.heap.size (.slice ao n cap) l
theorem GoI.ownFrom {w₀ : World} {bg B : Nat} (hB : w₀.heap.size ≤ B) : OwnM B (fun (l : List En) W => GoI w₀ bg l W) := fun l A C row hs hg hr => by
  obtain ⟨ao, n, cap, h1, h2⟩ := hs.got
  refine ⟨hs.below.grown hg hs.below.size (fun r e => by have := (hr r e).1; omega), ao, n, cap, heap_kept h1 hg (fun r e => (hr r e).2), World.ownsRow.kept h2 hg ?_⟩
  rcases h2.2 with ⟨h3, _⟩ | ⟨g, cap', cur, h3, _, hgb, _⟩
  · exact .inl (by rw [h3]; rfl)
  · refine .inr fun e' => ?_
    rw [h3] at e'
    obtain ⟨-, o, ho, hc⟩ := hr g (by simpa [Value.ownBlock] using e'.symm)
    rw [hgb] at ho; cases ho; cases hc
/-- What an append and the store back leave. -/
theorem GoI.appended {w₀ W w1 : World} {bg : Nat} {l : List En} {ao : Option Addr} {n cap : Nat} {ao' : Option Addr} {n' cap' : Nat} {k : ByteArray} {v : Int} {tmp : Obj} {m : Nat} (hm : m = l.length + 1) (hbg : w₀.heap.size ≤ bg) (hb : Below w₀.heap.size w₀ W) (hbox : W.heap[bg]? = some (.cells #[.slice ao n cap] 22)) (hown : OwnE W w₀.heap.size (.slice ao n cap) l)
    (ho : w1.ownsRow w₀.heap.size 35 2 (.slice ao' n' cap') m (enCells l ++ [.string k, .int .i64 v])) (hg : (W.alloc tmp).grownBy w1 (Value.slice ao n cap).ownBlock) :
    w1.heap[bg]? = some (.cells #[.slice ao n cap] 22) ∧ KeepsOthers W (w1.setCell ⟨bg, 0, none⟩ (.slice ao' n' cap')) ∧ Kp w₀.heap.size (fun _ => False) W (w1.setCell ⟨bg, 0, none⟩ (.slice ao' n' cap')) ∧ GoI w₀ bg (l ++ [(k, v)]) (w1.setCell ⟨bg, 0, none⟩ (.slice ao' n' cap')) := by
  subst hm
  have typed : ∀ r, (Value.slice ao n cap).ownBlock = some r → w₀.heap.size ≤ r ∧ ∃ cs, W.heap[r]? = some (.cells cs 35) := fun r hr => ⟨(World.ownsRow.lt hown r hr).1, ownsRow_typed hown r hr⟩
  have kept : ∀ b, b < W.heap.size → some b ≠ (Value.slice ao n cap).ownBlock → w1.heap[b]? = W.heap[b]? := fun b hlt hne => (hg.block b (by simp; omega) hne).trans (Below.heap_alloc _ _ _ hlt)
  have keptT : ∀ (b : Nat) (cs : Array Value) (ty : TypeId), W.heap[b]? = some (.cells cs ty) → ty ≠ 35 → w1.heap[b]? = some (.cells cs ty) := fun b cs ty hbk hty => (kept b (lt_of_heap hbk) (fun e => by
    obtain ⟨ds, hd⟩ := (typed b e.symm).2
    rw [hbk] at hd
    simp at hd
    exact hty hd.2)).trans hbk
  have box1 := keptT bg _ _ hbox (by decide)
  have hsz : W.heap.size ≤ w1.heap.size := by have := hg.size; simp at this; omega
  have below1 : Below w₀.heap.size W w1 := ((Below.refl _ W).alloc hb.size tmp).grown hg (by have := hb.size; simp; omega) (fun r e => (typed r e).1)
  refine ⟨box1, ⟨by rw [size_setCell']; exact hsz, fun b o ho' hc => ?_⟩, ⟨below1.setCell (p := ⟨bg, 0, none⟩) hbg _, fun b cs ty hbk hty _ => ?_⟩, (hb.trans below1).setCell (p := ⟨bg, 0, none⟩) hbg _, ao', n', cap', ?_, ?_⟩
  · rw [heap_setCell_other _ _ _ _ (fun e => by
      have e' : b = bg := e
      subst e'
      rw [hbox] at ho'; cases ho'; cases hc)]
    exact (kept b (lt_of_heap ho') (fun e => by
      obtain ⟨ds, hd⟩ := (typed b e.symm).2
      rw [ho'] at hd; cases hd; cases hc)).trans ho'
  · have hne : ty ≠ 35 ∧ ty ≠ 22 := by
      rcases hty with rfl | rfl | rfl | rfl <;> exact ⟨by decide, by decide⟩
    rw [heap_setCell_other _ _ _ _ (fun e => by
      have e' : b = bg := e
      subst e'
      rw [hbox] at hbk
      simp at hbk
      exact hne.2 hbk.2.symm), keptT b cs ty hbk hne.1, hbk]
  · rw [setCell_blk box1]; rfl
  · unfold OwnE
    rw [enCells_snoc, List.length_append]
    refine ownsRow_setCell_other ho (fun e => ?_) _
    exact own_ne (ownsRow_typed ho _ e) box1 (by decide) rfl
end Go.Proofs.Ytnmndjplbcpglaa
