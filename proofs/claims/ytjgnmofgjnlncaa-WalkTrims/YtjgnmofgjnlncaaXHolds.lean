import Derived.Test.YtjgnmofgjnlncaaXHeldI
import Derived.Test.YtjgnmofgjnlncaaRDelete
import Derived.Deep.RegionHeld3
import Derived.Test.YtjgnmofgjnlncaaXHeld
import Derived.Test.YtjgnmofgjnlncaaRClone
import Derived.BigQuiet
/- Layer 4 (walk): the walk of WalkHeld. -/
namespace Go.Proofs.Ytjgnmofgjnlncaa
open Go.RowKit Go.Shelf
set_option linter.unusedVariables false
attribute [local go_sem] Oper.semAt_some

theorem filAll {w W : World} {tb : Nat} {T : Tr} {ne : Int} {d : Nat} {es : List En} (h : Held w W tb T ne d es) : fil (d + 1) T ⟨#[]⟩ = es := by
  rw [fil_root h.good.root, h.ents]
  refine filter_all fun e _ => ?_
  unfold notLt
  simp only [Bool.not_eq_true', decide_eq_false_iff_not]
  exact not_lt_nil _

end Go.Proofs.Ytjgnmofgjnlncaa

/- Layer 3 (radix): Len, Get. -/
namespace Go.Proofs.Ytjgnmofgjnlncaa
open Go.RowKit
set_option linter.unusedVariables false

theorem len_calls (tb : Nat) (t : Tr) (n : Int) (w : World) (h : TreeAt w tb t n) : Calls Try.prog 33 #[.pointer (some ⟨tb, 0, none⟩)] w fun e w' => e = .returned (.int .i64 n) ∧ w' = w := by
  have c1 : w.cell? ⟨tb, 1, none⟩ = some (.int .i64 n) := by rw [cell_of_blk h.blk]; rfl
  clear h
  go_enter Try.func33, Try.ntmps33
  go_wp2
  go_ret
  exact ⟨rfl, rfl⟩

end Go.Proofs.Ytjgnmofgjnlncaa

/- Layer 4 (walk): the law's own 'holds': a tree holds just the document's entries. -/
namespace Go.Proofs.Ytjgnmofgjnlncaa
open Go.RowKit Go.Shelf
set_option linter.unusedVariables false
attribute [local go_sem] Oper.semAt_some

set_option maxRecDepth 100000 in
set_option maxHeartbeats 8000000 in
theorem holds_calls (w₀ : World) (tb : Nat) (T : Tr) (ne : Int) (dd : Nat) (es : List En) (d : Dv) (ps : List ByteArray) (w : World) (hH : Held w₀ w tb T ne dd es) (hD : DocAt w d es ps) (hN : es.length ≤ 5864062014640) :
    Calls Try.prog 14 #[.pointer (some ⟨tb, 0, none⟩), .agg (d.cells es.length ps.length)] w fun e w' => e = .returned (.bool true) ∧ Below w.heap.size w w' := by
  obtain ⟨w1, HW1⟩ : ∃ w1, Hid (w1 = w.alloc (.cells (d.cells es.length ps.length) 28)) := ⟨_, rfl⟩
  have hb1 : Below w.heap.size w w1 := by rw [HW1.out]; exact (Below.refl _ _).alloc (Nat.le_refl _) _
  have hs1 : w1.heap.size = w.heap.size + 1 := by rw [HW1.out]; simp [World.size_alloc]
  have q3 : w1.heap[w.heap.size]? = some (.cells (d.cells es.length ps.length) 28) := by rw [HW1.out]; exact heap_alloc_new _ _
  have k0 : w1.cell? ⟨w.heap.size, 0, none⟩ = some (.slice d.k.ao es.length d.k.cap) := by rw [cell_of_blk q3]; rfl
  have hcnt := hH.cnt
  subst hcnt
  have HH : Hid (Held w₀ w tb T (es.length : Int) dd es) := hH
  have HD2 : Hid (DocAt w d es ps) := hD
  have HT : Hid (∀ n, TreeAt (w1.drewN n) tb T (es.length : Int)) := fun n => ((hH.keep hb1).keep (drewN_below w1 n)).good.tree
  have HQ1 : Hid (Below w.heap.size w w1 ∧ w1.heap[w.heap.size]? = some (.cells (d.cells es.length ps.length) 28)) := ⟨hb1, q3⟩
  clear hb1 q3 hH hD
  unfold Dv.cells
  unfold Dv.cells at HW1
  refine (callsIn_wide (n := 8)).1 ?_
  refine callsIn_of_wp_marks Try.func14 rfl trivial ?_ rfl
  refine wpIn_wide.2 ?_
  simp only [Try.ntmps14, List.size_toArray, List.length_cons, List.length_nil, Nat.reduceAdd, Nat.reduceSub, Array.replicate_succ, Array.replicate_zero, List.push_toArray, List.append_toArray, List.nil_append, List.cons_append]
  go_wp2_with fail
  rw [← HW1.out]
  clear HW1
  go_quiet ((go_at_call 33; exact Calls.quiet_of_same (len_calls tb T (es.length : Int) _ (HT.out _))))
  obtain ⟨w4, HW4⟩ : ∃ w4, Hid (w4 = (w1.drewN nq).alloc (.cells #[.slice none 0 0] 22)) := ⟨_, rfl⟩
  have hb14 : Below w1.heap.size w1 w4 := by rw [HW4.out]; exact (drewN_below w1 nq).alloc (Nat.le_refl _) _
  have hs4 : w4.heap.size = w.heap.size + 2 := by rw [HW4.out, World.size_alloc]; show w1.heap.size + 1 = _; rw [hs1]
  have q4 : w4.heap[w.heap.size + 1]? = some (.cells #[.slice none 0 0] 22) := by rw [HW4.out]; exact new_at hs1 _
  have HQ4 : Hid (Below w.heap.size w w4 ∧ w4.heap[w.heap.size]? = some (.cells (d.cells es.length ps.length) 28) ∧ w4.heap[w.heap.size + 1]? = some (.cells #[.slice none 0 0] 22)) := ⟨HQ1.out.1.trans (hb14.mono HQ1.out.1.size), (hb14.block _ (lt_of_heap HQ1.out.2)).trans HQ1.out.2, q4⟩
  have HF := all_calls (some ⟨tb, 0, none⟩) w4
  clear hb14 q4 k0
  go_wp2_with fail
  rw [← HW4.out]
  clear HW4
  refine HF.mono ?_
  clear HF
  rintro e w5 ⟨rfl, hw5⟩
  obtain ⟨hb5, hs5, d1, d2⟩ := from_boxes hw5
  have hb25 : Below w.heap.size w w5 := HQ4.out.1.trans (hb5.mono HQ4.out.1.size)
  have m5 : w5.heap[w.heap.size]? = some (.cells (d.cells es.length ps.length) 28) := (hb5.block _ (by omega)).trans HQ4.out.2.1
  have g5 : w5.heap[w.heap.size + 1]? = some (.cells #[.slice none 0 0] 22) := (hb5.block _ (by omega)).trans HQ4.out.2.2
  rw [hs4] at d1 d2 hs5 ⊢
  have hTin := HH.out.tin
  have hfil := filAll HH.out
  have hfl : (fil (dd + 1) T ⟨#[]⟩).length ≤ es.length := by rw [hfil]; exact Nat.le_refl _
  have hef := eql_seq
  obtain ⟨i0, hi, hz0, hz1, hz2⟩ := infoOf infoE
  clear hw5 hb5 hs1
  go_wp2_with fail
  refine (wpIn_wide (n := 8)).1 ?_
  refine range_law (n := 8) (by omega) (gf := 48) (lb := #[.pointer (some ⟨w.heap.size + 2, 0, none⟩), .pointer (some ⟨w.heap.size + 2 + 1, 0, none⟩)]) rfl (enters_of Try.func48 (by kernel_rfl) rfl)
    (from_seq w tb T (es.length : Int) dd hTin ⟨#[]⟩ (by decide) (fun _ => False) (w.heap.size + 2) (w.heap.size + 2 + 1) w5 hb25 (fun b h => h.elim) d1 d2) (fun h1 h2 => h1.trans h2) (kp_put hb25.size) (Below.refl _ _) (fun _ => rfl)
    (fun pre W => GoI w (w.heap.size + 1) (pre.map (·.1)) W ∧ W.heap[w.heap.size]? = some (.cells (d.cells es.length ps.length) 28))
    (fun _ _ _ => False) ?hI (fun _ _ _ _ _ h _ _ => h) ?h0 ?a1 ?assign ?body ?done ?stop
  case assign =>
    intro l' m x W' K hK
    dsimp only [encE]
    gi_wp2
    exact hK
  case hI =>
    intro pre A C row hs hg hr
    exact ⟨GoI.ownFrom (by omega) _ A C row hs.1 hg hr, heap_kept hs.2 hg (fun r e => (hr r e).2)⟩
  case h0 => exact ⟨⟨hb25, none, 0, 0, g5, World.ownsRow_nil _ _ _ _⟩, m5⟩
  case body =>
    rintro l' m pre x W' hsz' ⟨hI', hm'⟩ hlen
    obtain ⟨gao, gn, gcap, hbox, hown⟩ := hI'.got
    have cc : W'.cell? ⟨w.heap.size + 1, 0, none⟩ = some (.slice gao gn gcap) := by rw [cell_of_blk hbox]; rfl
    have hbs := hI'.below.size
    have HG : Hid (Below w.heap.size w W' ∧ W'.heap[w.heap.size + 1]? = some (.cells #[.slice gao gn gcap] 22) ∧ OwnE W' w.heap.size (.slice gao gn gcap) (pre.map (·.1)) ∧ W'.heap[w.heap.size]? = some (.cells (d.cells es.length ps.length) 28)) := ⟨hI'.below, hbox, hown, hm'⟩
    have hpl : (pre.map (·.1)).length = pre.length := by simp
    clear hI' hbox hown hm'
    gi_wp2_with (gi_at_builtin; refine wpListIn_append_own _ rfl (.tmp 26) (.tmp 30) 22 rfl w.heap.size 35 i0 (.agg #[.string ⟨#[]⟩, .int .i64 0]) 2 24 Try.underlying22 hi hz0 hz1 hz2 rfl (by decide) _ (pre.map (·.1)).length _ rfl (World.ownsRow.alloc HG.out.2.2.1 _) ⟨W'.heap.size, 0, none⟩ 1 1 [.string x.1.1, .int .i64 x.1.2] rfl rfl (entry_new _ _ _) (by simp [Value.oneCell']) (by rw [hpl]; unfold maxLen; omega) (by rw [hpl]; omega) (by simp; omega) ?_)
    intro v8 w8 ho8 hg8 _
    obtain ⟨ag, cg, hv8, -, -⟩ := World.ownsRow.form ho8 (by omega)
    subst hv8
    obtain ⟨b8, ko8, kp8, go8⟩ := GoI.appended (m := pre.length + 1) (by rw [hpl]) (by omega) HG.out.1 HG.out.2.1 HG.out.2.2.1 ho8 hg8
    have c8 : w8.cell? ⟨w.heap.size + 1, 0, none⟩ = some (.slice gao gn gcap) := by rw [cell_of_blk b8]; rfl
    have z8 : w8.frozen? ⟨w.heap.size + 1, 0, none⟩ = false := frozen_of_blk b8
    have m8 : (w8.setCell ⟨w.heap.size + 1, 0, none⟩ (.slice (some ⟨ag, 0, none⟩) (pre.length + 1) cg)).heap[w.heap.size]? = some (.cells (d.cells es.length ps.length) 28) := by
      rw [heap_setCell_other _ _ _ _ (by show w.heap.size ≠ w.heap.size + 1; omega)]
      have hlt := lt_of_heap HG.out.2.2.2
      refine (hg8.block _ (by simp; omega) (fun e => ?_)).trans ((Below.heap_alloc _ _ _ hlt).trans HG.out.2.2.2)
      exact own_ne (ownsRow_typed HG.out.2.2.1 _ e.symm) HG.out.2.2.2 (by decide) rfl
    have HR : Hid (_ ∧ _ ∧ _ ∧ _) := ⟨ko8, kp8, go8, m8⟩
    clear ho8 hg8 b8 ko8 kp8 go8 m8 cc
    gi_wp2
    refine ⟨HR.out.1.from _, HR.out.2.1, ?_, HR.out.2.2.2⟩
    rw [List.map_append]
    exact HR.out.2.2.1
  case done =>
    rintro D xs W' hD hS ⟨hI', hm'⟩ hK
    obtain ⟨gao, gn, gcap, hbox, hown⟩ := hI'.got
    have hsz : ∀ e ∈ xs.map (·.1), e.1.size ≤ 140737488351296 := by rw [hS]; exact fil_size hTin.tree.tat
    obtain ⟨gao', gcap', hge, hgE⟩ := hown.ents hsz
    simp only [Value.slice.injEq] at hge
    obtain ⟨rfl, rfl, rfl⟩ := hge
    obtain ⟨is, his⟩ : ∃ is, is = idxTo (notLt (kyb ⟨#[]⟩)) es es.length := ⟨_, rfl⟩
    have hgot : xs.map (·.1) = is.map (fun i => es.getD i (⟨#[]⟩, 0)) := by
      rw [his, idxTo_map _ _ _ (Nat.le_refl _), List.take_length, hS, hfil]
      refine (filter_all fun e _ => ?_).symm
      unfold notLt
      simp only [Bool.not_eq_true', decide_eq_false_iff_not]
      exact not_lt_nil _
    have hgl : (xs.map (·.1)).length = is.length := by rw [hgot]; simp
    have hil : is.length ≤ es.length := by rw [his]; exact idxTo_len _ _ _
    have hDW : DocAt W' d es ps := HD2.out.keep hI'.below
    have HRF := refFrom_calls d es ps ⟨#[]⟩ W'.drew (hDW.keep ⟨rfl, rfl, rfl, Nat.le_refl _, fun _ _ => rfl⟩) (by decide) (by omega)
    rw [← his] at HRF
    have HTH := fun (W2 : World) (h2 : Below W'.heap.size W' W2) (x : Sv) (hx : x.At W2) (hv : x.vs = natV is) => these_calls gao gcap (xs.map (·.1)) d es ps x is W2 (hgE.below h2) (hDW.keep h2) hx hv hgl (by rw [his]; exact idxTo_lt _ _ _) hgot (by omega) (by omega)
    rw [hgl] at HTH hbox
    have g0 : W'.cell? ⟨w.heap.size + 1, 0, none⟩ = some (.slice gao is.length gcap) := by rw [cell_of_blk hbox]; rfl
    have m0 : W'.cell? ⟨w.heap.size, 0, none⟩ = some (.slice d.k.ao es.length d.k.cap) := by rw [cell_of_blk hm']; rfl
    have m1 : W'.cell? ⟨w.heap.size, 1, none⟩ = some (.slice d.v.ao es.length d.v.cap) := by rw [cell_of_blk hm']; rfl
    have m2 : W'.cell? ⟨w.heap.size, 2, none⟩ = some (.slice d.l.ao es.length d.l.cap) := by rw [cell_of_blk hm']; rfl
    have m3 : W'.cell? ⟨w.heap.size, 3, none⟩ = some (.slice d.p.ao ps.length d.p.cap) := by rw [cell_of_blk hm']; rfl
    have m4 : W'.cell? ⟨w.heap.size, 4, none⟩ = some (.slice d.m.ao ps.length d.m.cap) := by rw [cell_of_blk hm']; rfl
    have HK : Hid (W'.heap[D]? = some (.deferred (some [])) ∧ Below w.heap.size w W') := ⟨hK, hI'.below⟩
    have hDW' := lt_of_heap hK
    have hlb := lt_of_heap hbox
    have hlm := lt_of_heap hm'
    unfold Dv.cells at HRF HTH
    clear hK hI' hbox hown hgE hDW hm' hsz hgot hgl his hS
    go_wp2_with fail
    go_region_held3 (fun W => W.cell? ⟨w.heap.size + 1, 0, none⟩ = some (.slice gao is.length gcap) ∧ W.cell? ⟨w.heap.size, 0, none⟩ = some (.slice d.k.ao es.length d.k.cap) ∧ W.cell? ⟨w.heap.size, 1, none⟩ = some (.slice d.v.ao es.length d.v.cap) ∧ W.cell? ⟨w.heap.size, 2, none⟩ = some (.slice d.l.ao es.length d.l.cap) ∧ W.cell? ⟨w.heap.size, 3, none⟩ = some (.slice d.p.ao ps.length d.p.cap) ∧ W.cell? ⟨w.heap.size, 4, none⟩ = some (.slice d.m.ao ps.length d.m.cap)) (first | (exact q9) | (exact q8) | go_keep)
      (first
        | (go_at_call 11
           refine HRF.mono ?_
           rintro e w8 ⟨x, rfl, hxv, hxA, hb8⟩
           have hb8' : Below W'.heap.size W' w8 := ⟨hb8.os, hb8.tape, hb8.output, hb8.size, hb8.block⟩
           have q8 : w8.cell? ⟨w.heap.size + 1, 0, none⟩ = some (.slice gao is.length gcap) ∧ w8.cell? ⟨w.heap.size, 0, none⟩ = some (.slice d.k.ao es.length d.k.cap) ∧ w8.cell? ⟨w.heap.size, 1, none⟩ = some (.slice d.v.ao es.length d.v.cap) ∧ w8.cell? ⟨w.heap.size, 2, none⟩ = some (.slice d.l.ao es.length d.l.cap) ∧ w8.cell? ⟨w.heap.size, 3, none⟩ = some (.slice d.p.ao ps.length d.p.cap) ∧ w8.cell? ⟨w.heap.size, 4, none⟩ = some (.slice d.m.ao ps.length d.m.cap) :=
             ⟨(hb8'.cell hlb).trans g0, (hb8'.cell hlm).trans m0, (hb8'.cell hlm).trans m1, (hb8'.cell hlm).trans m2, (hb8'.cell hlm).trans m3, (hb8'.cell hlm).trans m4⟩
           have HB8 : Hid (Below W'.heap.size W' w8) := hb8'
           have HX8 : Hid (x.vs = natV is ∧ x.At w8) := ⟨hxv, hxA⟩
           clear hb8 hb8' hxv hxA HRF)
        | (go_at_call 10
           refine (HTH w8 HB8.out x HX8.out.2 HX8.out.1).mono ?_
           rintro e w9 ⟨rfl, hb9⟩
           have hs8 := HB8.out.size
           have q9 : w9.cell? ⟨w.heap.size + 1, 0, none⟩ = some (.slice gao is.length gcap) ∧ w9.cell? ⟨w.heap.size, 0, none⟩ = some (.slice d.k.ao es.length d.k.cap) ∧ w9.cell? ⟨w.heap.size, 1, none⟩ = some (.slice d.v.ao es.length d.v.cap) ∧ w9.cell? ⟨w.heap.size, 2, none⟩ = some (.slice d.l.ao es.length d.l.cap) ∧ w9.cell? ⟨w.heap.size, 3, none⟩ = some (.slice d.p.ao ps.length d.p.cap) ∧ w9.cell? ⟨w.heap.size, 4, none⟩ = some (.slice d.m.ao ps.length d.m.cap) :=
             ⟨(hb9.cell (Nat.lt_of_lt_of_le hlb hs8)).trans q8.1, (hb9.cell (Nat.lt_of_lt_of_le hlm hs8)).trans q8.2.1, (hb9.cell (Nat.lt_of_lt_of_le hlm hs8)).trans q8.2.2.1, (hb9.cell (Nat.lt_of_lt_of_le hlm hs8)).trans q8.2.2.2.1, (hb9.cell (Nat.lt_of_lt_of_le hlm hs8)).trans q8.2.2.2.2.1, (hb9.cell (Nat.lt_of_lt_of_le hlm hs8)).trans q8.2.2.2.2.2⟩
           have HB9 : Hid (Below W'.heap.size W' w9) := HB8.out.trans (hb9.mono hs8)
           clear hb9 HTH hs8))
    all_goals go_wp2_with fail
    all_goals (
      have hK9 : w9.heap[D]? = some (.deferred (some [])) := (HB9.out.block _ hDW').trans HK.out.1
      refine ⟨by simp, .inl ⟨_, _, rfl, run_takeDeferred hK9, ?_⟩⟩
      refine ⟨_, results_tmp rfl _ _ _, rfl, ?_⟩
      have hbz : Below w.heap.size w w9 := HK.out.2.trans (HB9.out.mono HK.out.2.size)
      exact hbz.grown (grownBy_putObj' _ _ _) hbz.size (fun k e => by cases e; omega))
  case stop =>
    rintro D c xs W' _ _ h _
    exact h.elim
end Go.Proofs.Ytjgnmofgjnlncaa
