/- Layer 7 (rows): the document's Copy. -/
import Derived.Test.YtjbnbpclelbohaaRwCopyM
namespace Go.Proofs.Ytjbnbpclelbohaa
open Go.RowKit
set_option linter.unusedVariables false
attribute [local go_sem] Oper.semAt_some

/-- While Copy gathers its cells. -/
structure CpI (w : World) (ca : Option Addr) (cc : Nat) (cs : List CV) (v : Value) (ds : List CV) (wr : World) : Prop where
  r : wr.heap[w.heap.size]? = some (.cells #[.slice ca cs.length cc] 24)
  res : wr.heap[w.heap.size + 1]? = some (.cells #[.slice none 0 0] 24)
  out : wr.heap[w.heap.size + 2]? = some (.cells #[v] 24)
  own : OwnR wr w.heap.size v ds
  be : Below w.heap.size w wr
theorem CpI.grewS {w : World} {ca : Option Addr} {cc : Nat} {cs ds : List CV} {v u u' : Value} {n : Nat} {l : List Value} {wr w2 w3 : World} (h : CpI w ca cc cs v ds wr) (hb : Below wr.heap.size wr w2) (ho : w2.ownsRow wr.heap.size 9 1 u n l) (hg : Grew w2 w3 u u') : CpI w ca cc cs v ds w3 := by
  have k1 : ∀ {b : Nat} {q : Array Value}, wr.heap[b]? = some (.cells q 24) → w3.heap[b]? = some (.cells q 24) := fun hc => by
    have a1 := (hb.block _ (lt_blk hc)).trans hc
    exact (hg.grown.block _ (lt_blk a1) (fun e => row_ne ho a1 (by decide) e.symm)).trans a1
  exact ⟨k1 h.r, k1 h.res, k1 h.out, h.own.grew hb ho hg, (h.be.trans (hb.mono h.be.size)).trans (hg.toBelow (Nat.le_trans h.be.size hb.size) fun k hk => Nat.le_trans h.be.size (World.ownsRow.lt ho k hk).1)⟩
theorem CpI.push {w : World} {ca : Option Addr} {cc : Nat} {cs ds : List CV} {c : CV} {v v' : Value} {w3 w4 : World} (h : CpI w ca cc cs v ds w3) (hc : w3.ownsRow w.heap.size 9 1 c.v c.l.length (c.l.map Value.string)) (hr : w4.ownsRow w.heap.size 55 3 v' (ds.length + 1) (ccs ds ++ [.string c.t, .int .u64 c.n, c.v])) (hg : Grew w3 w4 v v') :
    CpI w ca cc cs v' (ds ++ [c]) (w4.setCell ⟨w.heap.size + 2, 0, none⟩ v') := by
  have k1 : ∀ {b : Nat} {q : Array Value}, w3.heap[b]? = some (.cells q 24) → w4.heap[b]? = some (.cells q 24) := fun hc => (hg.grown.block _ (lt_blk hc) (fun e => row_ne h.own.row hc (by decide) e.symm)).trans hc
  have ho := OwnR.push (w0 := w) h.own hc hr hg
  have h4 := k1 h.out
  have kn : ∀ {b : Nat} {q : Array Value}, b ≠ w.heap.size + 2 → w4.heap[b]? = some (.cells q 24) → (w4.setCell ⟨w.heap.size + 2, 0, none⟩ v').heap[b]? = some (.cells q 24) := fun hne hb => by rw [heap_setCell_other _ _ _ _ hne]; exact hb
  refine ⟨kn (by omega) (k1 h.r), kn (by omega) (k1 h.res), set_blk (i := 0) h4 v', ⟨row_set ho.row (row_ne ho.row h4 (by decide)) v', fun d hd => row_set (ho.lst d hd) (row_ne (ho.lst d hd) h4 (by decide)) v'⟩, ?_⟩
  exact (h.be.trans (hg.toBelow h.be.size fun k hk => (World.ownsRow.lt h.own.row k hk).1)).setCell (by show w.heap.size ≤ w.heap.size + 2; omega) v'
theorem copy_results {W : World} {b : Nat} {v : Value} {tmps : Array Value} (h : W.cell? ⟨b, 0, none⟩ = some v) (h2 : tmps[2]?.getD undef = .pointer (some ⟨b, 0, none⟩)) :
    (results Try.f10 tmps).run Try.prog W = .ok (.agg #[v]) W := by
  simp [results, Try.results10, go_sem, h2, h]
theorem str_one (l : List ByteArray) : ∀ u ∈ l.map Value.string, u.oneCell' = true := by
  intro u hu
  obtain ⟨s, _, rfl⟩ := List.mem_map.1 hu
  rfl

set_option maxRecDepth 100000 in
set_option maxHeartbeats 4000000 in
theorem refCopy_calls (ca : Option Addr) (cc : Nat) (cs : List CV) (w : World) (hcm : cs.length * 48 ≤ 140737488351232) (hr : RowAt w ca cs) :
    Calls Try.prog 10 #[.agg #[.slice ca cs.length cc]] w fun e w' => (∃ a c ds, e = .returned (.agg #[.slice a ds.length c]) ∧ Alike ds cs ∧ OwnR w' w.heap.size (.slice a ds.length c) ds) ∧ Below w.heap.size w w' := by
  have HR : Hid (RowAt w ca cs) := hr
  clear hr
  obtain ⟨w3, hw3⟩ : ∃ w3, w3 = ((w.alloc (.cells #[.slice ca cs.length cc] 24)).alloc (.cells #[.slice none 0 0] 24)).alloc (.cells #[.slice none 0 0] 24) := ⟨_, rfl⟩
  have HI3 : Hid (CpI w ca cc cs (.slice none 0 0) [] w3) := by
    have hb3 : Below w.heap.size w w3 := by rw [hw3]; exact (((Below.refl _ _).alloc (Nat.le_refl _) _).alloc (by simp only [World.size_alloc]; omega) _).alloc (by simp only [World.size_alloc]; omega) _
    refine ⟨?_, ?_, ?_, OwnR.nil _ _, hb3⟩
    · rw [hw3]; exact old_blk (old_blk (new_blk _ _) _) _
    · rw [hw3]
      refine old_blk ?_ _
      have := new_blk (w.alloc (.cells #[.slice ca cs.length cc] 24)) (.cells #[.slice none 0 0] 24)
      rw [World.size_alloc] at this
      exact this
    · rw [hw3]
      have := new_blk ((w.alloc (.cells #[.slice ca cs.length cc] 24)).alloc (.cells #[.slice none 0 0] 24)) (.cells #[.slice none 0 0] 24)
      rw [World.size_alloc, World.size_alloc] at this
      exact this
  have r0 : w3.cell? ⟨w.heap.size, 0, none⟩ = some (.slice ca cs.length cc) := by rw [cell_blk HI3.out.r]; rfl
  go_enter Try.func10, Try.ntmps10
  go_upto_region 2 with fail
  rw [← hw3]
  clear hw3
  go_wp2
  go_loopw [5, 6, 11] (fun a5 v6 i wr => ∃ (k : Nat) (a : Option Addr) (c : Nat) (ds : List CV), k ≤ cs.length ∧ i = .int .i64 k ∧ ds.length = k ∧ Hid (Alike ds (cs.take k)) ∧ Hid (CpI w ca cc cs (.slice a k c) ds wr)) (fun _ _ i _ => cs.length - (intOf i).toNat)
  case atStart => exact ⟨0, none, 0, [], Nat.zero_le _, rfl, rfl, rfl, HI3⟩
  case round =>
    obtain ⟨k, a, c, ds, hk, rfl, hdl, HA, HI⟩ := hrel
    clear HI3 r0
    by_cases hlt : k < cs.length
    · obtain ⟨cb, co, rfl, d0, d1, d2⟩ := ((HR.out.below HI.out.be).row).cel k hlt
      have HWF : Hid cs[k].wf := HR.out.wf _ (List.getElem_mem hlt)
      have hll := HWF.out.2.2.2
      have HA2 : Hid (∀ x : CV, x.core = cs[k].core → Alike (ds ++ [x]) (cs.take (k + 1))) := fun x hx => by
        unfold Alike
        rw [List.take_succ_eq_append_getElem hlt, List.map_append, List.map_append, show ds.map CV.core = (cs.take k).map CV.core from HA.out]
        simp [hx]
      obtain ⟨w1, hw1⟩ : ∃ w1, w1 = wr.alloc (.cells #[.string cs[k].t, .int .u64 cs[k].n, .slice cs[k].la cs[k].l.length cs[k].lc] 55) := ⟨_, rfl⟩
      have hb1 : Below wr.heap.size wr w1 := by rw [hw1]; exact (Below.refl _ _).alloc (Nat.le_refl _) _
      have HX1 : Hid (w1.heap[wr.heap.size]? = some (.cells #[.string cs[k].t, .int .u64 cs[k].n, .slice cs[k].la cs[k].l.length cs[k].lc] 55)) := by rw [Hid, hw1]; exact new_blk _ _
      go_upto_region 5 with fail
      rw [← hw1]
      clear hw1 d0 d1 d2
      obtain ⟨w2, hw2⟩ : ∃ w2, w2 = w1.alloc (.cells #[] 9) := ⟨_, rfl⟩
      have hb12 : Below w1.heap.size w1 w2 := by rw [hw2]; exact (Below.refl _ _).alloc (Nat.le_refl _) _
      have HB2 : Hid (Below wr.heap.size wr w2) := hb1.trans (hb12.mono hb1.size)
      have HX2 : Hid (w2.heap[wr.heap.size]? = some (.cells #[.string cs[k].t, .int .u64 cs[k].n, .slice cs[k].la cs[k].l.length cs[k].lc] 55)) := (hb12.block _ (lt_blk HX1.out)).trans HX1.out
      have HL2 : Hid (w2.ownsRow wr.heap.size 9 1 (.slice (some ⟨w1.heap.size, 0, none⟩) 0 0) 0 []) := by rw [Hid, hw2]; exact World.ownsRow_lit (size := 1) w1 #[] 0 hb1.size (by unfold maxLen; omega) rfl
      have HSR : Hid (CellsAt w2 cs[k].la (cs[k].l.map Value.string)) := ((HR.out.below HI.out.be).below HB2.out).lst _ (List.getElem_mem hlt)
      go_upto_region 6 with fail
      rw [← hw2]
      clear hw2 hb12 hb1 HX1
      have x2 : w2.cell? ⟨wr.heap.size, 2, none⟩ = some (.slice cs[k].la cs[k].l.length cs[k].lc) := by rw [cell_blk HX2.out]; rfl
      have hB2 : wr.heap.size ≤ w2.heap.size := HB2.out.size
      generalize hcc2 : cs[k] = ck at *
      go_wp2_with (at_builtin; refine append_src _ rfl (.tmp 16) (.tmp 18) 39 9 _ 1 16 Try.underlying39 info_str rfl (by decide) rfl wr.heap.size _ 0 [] rfl HL2.out ck.la ck.l.length ck.lc (ck.l.map Value.string) rfl (by simp) HSR.out (str_one _) (by unfold maxLen; omega) (by omega) hB2 ?_)
      intro v3 w3 ho3 hg3
      have HX3 : Hid (w3.heap[wr.heap.size]? = some (.cells #[.string ck.t, .int .u64 ck.n, .slice ck.la ck.l.length ck.lc] 55)) := (hg3.grown.block _ (lt_blk HX2.out) (fun e => row_ne HL2.out HX2.out (by decide) e.symm)).trans HX2.out
      have HI3 : Hid (CpI w (some ⟨cb, co, none⟩) cc cs (.slice a k c) ds w3) := HI.out.grewS HB2.out HL2.out hg3
      obtain ⟨a3, c3, rfl, -⟩ := row_forms ho3
      have HO3 : Hid (w3.ownsRow w.heap.size 9 1 (.slice a3 ck.l.length c3) ck.l.length (ck.l.map Value.string)) := row_mono ho3 HI.out.be.size
      clear ho3 hg3 HI HL2 HX2 HB2 x2 hB2
      have x0 : w3.cell? ⟨wr.heap.size, 0, none⟩ = some (.string ck.t) := by rw [cell_blk HX3.out]; rfl
      have x1 : w3.cell? ⟨wr.heap.size, 1, none⟩ = some (.int .u64 ck.n) := by rw [cell_blk HX3.out]; rfl
      have o0 : w3.cell? ⟨w.heap.size + 2, 0, none⟩ = some (.slice a k c) := by rw [cell_blk HI3.out.out]; rfl
      have hrow : w3.ownsRow w.heap.size 55 3 (.slice a k c) k (ccs ds) := by have := HI3.out.own.row; rw [hdl] at this; exact this
      have hB3 : w.heap.size ≤ w3.heap.size := HI3.out.be.size
      go_wp2_with (at_builtin; refine append_rowW _ rfl (.tmp 21) (.tmp 28) 22 55 _ 3 48 Try.underlying22 info_cell rfl (by decide) rfl w.heap.size _ k _ rfl [.string ck.t, .int .u64 ck.n, .slice a3 ck.l.length c3] rfl (by intro u hu; simp at hu; rcases hu with rfl | rfl | rfl <;> rfl) _ _ rfl rfl rfl hrow (by unfold maxLen; omega) (by omega) hB3 ?_)
      intro v4 w4 hr4 hg4
      have HI4 : Hid (CpI w (some ⟨cb, co, none⟩) cc cs v4 (ds ++ [⟨ck.t, ck.n, ck.l, a3, c3⟩]) (w4.setCell ⟨w.heap.size + 2, 0, none⟩ v4)) := HI3.out.push (c := ⟨ck.t, ck.n, ck.l, a3, c3⟩) HO3.out (by rw [hdl]; exact hr4) hg4
      have HOB : Hid (w4.heap[w.heap.size + 2]? = some (.cells #[.slice a k c] 24)) := (hg4.grown.block _ (lt_blk HI3.out.out) (fun e => row_ne HI3.out.own.row HI3.out.out (by decide) e.symm)).trans HI3.out.out
      have o4 : w4.cell? ⟨w.heap.size + 2, 0, none⟩ = some (.slice a k c) := by rw [cell_blk HOB.out]; rfl
      have z4 : w4.frozen? ⟨w.heap.size + 2, 0, none⟩ = false := frozen_blk HOB.out
      obtain ⟨a4, c4, rfl, -⟩ := row_forms hr4
      have HA4 : Hid (Alike (ds ++ [⟨ck.t, ck.n, ck.l, a3, c3⟩]) (cs.take (k + 1))) := HA2.out _ rfl
      have hl4 : (ds ++ [(⟨ck.t, ck.n, ck.l, a3, c3⟩ : CV)]).length = k + 1 := by simp; omega
      clear hr4 hg4 hrow HI3 HO3 HX3 x0 x1 o0 HOB HA HA2
      go_wp2
      go_roundw
      case rel => exact ⟨k + 1, a4, c4, _, by omega, by go_num, hl4, HA4, HI4⟩
      case measure => simp [intOf]; omega
    · obtain rfl : k = cs.length := by omega
      rw [List.take_length] at HA
      have o0 : wr.cell? ⟨w.heap.size + 2, 0, none⟩ = some (.slice a cs.length c) := by rw [cell_blk HI.out.out]; rfl
      have s0 : wr.cell? ⟨w.heap.size + 1, 0, none⟩ = some (.slice none 0 0) := by rw [cell_blk HI.out.res]; rfl
      have z0 : wr.frozen? ⟨w.heap.size + 1, 0, none⟩ = false := frozen_blk HI.out.res
      go_wp2
      refine bodyPost_ret (copy_results (b := w.heap.size + 1) (v := .slice a cs.length c) ?_ rfl) rfl ⟨⟨a, c, ds, by rw [hdl], HA.out, ?_⟩, ?_⟩
      · rw [cell_blk (set_blk (i := 0) HI.out.res _)]; rfl
      · rw [hdl]
        exact ⟨row_set HI.out.own.row (row_ne HI.out.own.row HI.out.res (by decide)) _, fun d hd => row_set (HI.out.own.lst d hd) (row_ne (HI.out.own.lst d hd) HI.out.res (by decide)) _⟩
      · exact HI.out.be.setCell (by show w.heap.size ≤ w.heap.size + 1; omega) _
end Go.Proofs.Ytjbnbpclelbohaa
