/- Layer 7 (rows): RowsFound, the walk. -/
import Derived.Test.YtjbnbpclelbohaaRwStep
import Derived.Test.YtjbnbpclelbohaaRwTable
import Derived.Test.YtjbnbpclelbohaaRwFixedL
import Derived.Test.YtjbnbpclelbohaaRwCopy
import Derived.Test.YtjbnbpclelbohaaRwRefF
import Derived.Deep.QuietTactic
import Derived.BigQuiet
namespace Go.Proofs.Ytjbnbpclelbohaa
open Go.RowKit
set_option linter.unusedVariables false
attribute [local go_sem] Oper.semAt_some

theorem info_rowR : (Try.prog.info? 24).map (fun i => (i.zero, i.size, i.bytes)) = some (some (.agg #[.slice none 0 0]), 1, 24) := by kernel_rfl
theorem und_row2 : Try.prog.underlying 47 = some (.array 2 24) := by kernel_rfl
theorem run_row0 (x y : Value) (w : World) : (Instr.index 47 (.agg #[x, y]) (.int .i64 0)).run Try.prog w = .ok (.agg #[x]) w := by
  obtain ⟨i0, hi0, hb⟩ := Option.map_eq_some_iff.1 info_rowR
  simp only [Prod.mk.injEq] at hb
  obtain ⟨hz0, hz1, hz2⟩ := hb
  simp [Instr.index, run_underlying und_row2, asIntOf, part, sizeOf, typeInfo, hi0, hz1, go_sem]
theorem run_row1 (x y : Value) (w : World) : (Instr.index 47 (.agg #[x, y]) (.int .i64 1)).run Try.prog w = .ok (.agg #[y]) w := by
  obtain ⟨i0, hi0, hb⟩ := Option.map_eq_some_iff.1 info_rowR
  simp only [Prod.mk.injEq] at hb
  obtain ⟨hz0, hz1, hz2⟩ := hb
  simp [Instr.index, run_underlying und_row2, asIntOf, part, sizeOf, typeInfo, hi0, hz1, go_sem]
attribute [local go_sem] run_row0 run_row1
/-- While the law gathers its own parts. -/
structure Fo2 (w0 : World) (tb twb xb pk : Nat) (ct c2 : Array Value) (x : XV) (v0 v1 : Value) (A B : List Pt) (W : World) : Prop where
  tab : W.heap[tb]? = some (.cells ct 29)
  two : W.heap[twb]? = some (.cells c2 47)
  bx : W.heap[xb]? = some (.cells #[.string x.x.n, .slice x.va x.x.ov.length x.vc, .bool x.x.u, .bool x.x.l, .bool x.x.s] 50)
  pb : W.heap[pk]? = some (.cells #[v0, v1] 52)
  o0 : OwnP W w0.heap.size v0 A
  o1 : OwnP W w0.heap.size v1 B
  ne : ∀ k, v0.ownBlock = some k → v1.ownBlock ≠ some k
  be : Below w0.heap.size w0 W
  hi : w0.heap.size ≤ pk
theorem Fo2.below {w0 : World} {tb twb xb pb : Nat} {ct c2 : Array Value} {x : XV} {v0 v1 : Value} {A B : List Pt} {W W' : World} (h : Fo2 w0 tb twb xb pb ct c2 x v0 v1 A B W) (hb : Below W.heap.size W W') : Fo2 w0 tb twb xb pb ct c2 x v0 v1 A B W' :=
  ⟨(hb.block _ (lt_blk h.tab)).trans h.tab, (hb.block _ (lt_blk h.two)).trans h.two, (hb.block _ (lt_blk h.bx)).trans h.bx, (hb.block _ (lt_blk h.pb)).trans h.pb, h.o0.below hb, h.o1.below hb, h.ne, h.be.trans (hb.mono h.be.size), h.hi⟩
theorem blk_ne {W : World} {b b' : Nat} {q q' : Array Value} {t t' : TypeId} (h : W.heap[b]? = some (.cells q t)) (h' : W.heap[b']? = some (.cells q' t')) (hne : t ≠ t') : b ≠ b' := fun e => by
  subst e
  rw [h] at h'
  simp at h'
  exact hne h'.2
theorem set_other {W : World} {b pb i : Nat} {q q' : Array Value} {t t' : TypeId} (hp : W.heap[pb]? = some (.cells q' t')) (h : W.heap[b]? = some (.cells q t)) (hne : t ≠ t') (u : Value) : (W.setCell ⟨pb, i, none⟩ u).heap[b]? = some (.cells q t) := by
  rw [heap_setCell_other _ _ _ _ (blk_ne h hp hne)]; exact h
/-- The slice at place 0 (or 1) has grown, and is stored again. -/
theorem Fo2.put0 {w0 : World} {tb twb xb pb : Nat} {ct c2 : Array Value} {x : XV} {v0 v0' v1 : Value} {A A' B : List Pt} {W W' : World} (h : Fo2 w0 tb twb xb pb ct c2 x v0 v1 A B W) (ho : OwnP W' w0.heap.size v0' A') (hg : Grew W W' v0 v0') :
    Fo2 w0 tb twb xb pb ct c2 x v0' v1 A' B (W'.setCell ⟨pb, 0, none⟩ v0') := by
  have k1 : ∀ {b : Nat} {q : Array Value} {ty : TypeId}, W.heap[b]? = some (.cells q ty) → 57 ≠ ty → W'.heap[b]? = some (.cells q ty) := fun hc n1 => (hg.grown.block _ (lt_blk hc) (fun e => row_ne h.o0 hc n1 e.symm)).trans hc
  have hpb := k1 h.pb (by decide)
  have h1 : OwnP W' w0.heap.size v1 B := row_grew h.o1 hg fun k hk e => h.ne k hk e
  refine ⟨set_other hpb (k1 h.tab (by decide)) (by decide) _, set_other hpb (k1 h.two (by decide)) (by decide) _, set_other hpb (k1 h.bx (by decide)) (by decide) _, set_blk (i := 0) hpb v0', OwnP.storedOther ho (row_ne ho hpb (by decide)) _, OwnP.storedOther h1 (row_ne h1 hpb (by decide)) _, fun k hk e => ?_, ?_, h.hi⟩
  · rcases hg.place k hk with h2 | h2
    · exact h.ne k h2 e
    · have := (h.o1.lt k e).2
      omega
  · exact (h.be.trans (h.o0.toBelow h.be.size hg)).setCell h.hi _
theorem Fo2.put1 {w0 : World} {tb twb xb pb : Nat} {ct c2 : Array Value} {x : XV} {v0 v1 v1' : Value} {A B B' : List Pt} {W W' : World} (h : Fo2 w0 tb twb xb pb ct c2 x v0 v1 A B W) (ho : OwnP W' w0.heap.size v1' B') (hg : Grew W W' v1 v1') :
    Fo2 w0 tb twb xb pb ct c2 x v0 v1' A B' (W'.setCell ⟨pb, 1, none⟩ v1') := by
  have k1 : ∀ {b : Nat} {q : Array Value} {ty : TypeId}, W.heap[b]? = some (.cells q ty) → 57 ≠ ty → W'.heap[b]? = some (.cells q ty) := fun hc n1 => (hg.grown.block _ (lt_blk hc) (fun e => row_ne h.o1 hc n1 e.symm)).trans hc
  have hpb := k1 h.pb (by decide)
  have h1 : OwnP W' w0.heap.size v0 A := row_grew h.o0 hg fun k hk e => h.ne k e hk
  refine ⟨set_other hpb (k1 h.tab (by decide)) (by decide) _, set_other hpb (k1 h.two (by decide)) (by decide) _, set_other hpb (k1 h.bx (by decide)) (by decide) _, set_blk (i := 1) hpb v1', OwnP.storedOther h1 (row_ne h1 hpb (by decide)) _, OwnP.storedOther ho (row_ne ho hpb (by decide)) _, fun k hk e => ?_, ?_, h.hi⟩
  · rcases hg.place k e with h2 | h2
    · exact h.ne k hk h2
    · have := (h.o0.lt k hk).2
      omega
  · exact (h.be.trans (h.o1.toBelow h.be.size hg)).setCell h.hi _
/-- A box of another type stays through both. -/
theorem box_put {W W' : World} {B0 b pb i : Nat} {v v' : Value} {A : List Pt} {q q' : Array Value} {t : TypeId} (ho : OwnP W B0 v A) (hg : Grew W W' v v') (hb : W.heap[b]? = some (.cells q t)) (hp : W.heap[pb]? = some (.cells q' 52)) (h1 : 57 ≠ t) (h2 : t ≠ 52) (u : Value) : (W'.setCell ⟨pb, i, none⟩ u).heap[b]? = some (.cells q t) :=
  set_other ((hg.grown.block _ (lt_blk hp) (fun e => row_ne ho hp (by decide) e.symm)).trans hp) ((hg.grown.block _ (lt_blk hb) (fun e => row_ne ho hb h1 e.symm)).trans hb) h2 u
def StF (P0 P1 : List Pt) (hl : Bool) (j : Int) (li : Bool) (A B : List Pt) : Prop := (j = 0 ∧ li = false ∧ A = [] ∧ B = []) ∨ (j = 1 ∧ li = hl ∧ A = P0 ∧ B = []) ∨ (j = 2 ∧ li = hl ∧ A = P0 ∧ B = P1)
theorem hasL_snoc {fs : List Fd} {ov : List Int} {m p : Nat} (hm : m < ov.length) (hp : ov[m] = (p : Int)) (hf : p < fs.length) : hasL fs (ov.take (m + 1)) = (hasL fs (ov.take m) || (fs[p].k == 3)) := by
  unfold hasL
  rw [List.take_succ_eq_append_getElem hm, List.any_append, hp]
  simp only [List.any_cons, List.any_nil, Bool.or_false]
  rw [show ((p : Int).toNat) = p from rfl, List.getD_eq_getElem?_getD, List.getElem?_eq_getElem hf]
  show (_ || decide (fs[p].k = 3)) = _
  by_cases h : fs[p].k = 3 <;> simp [h]
theorem law_snoc {fs : List Fd} {l : Bool} {cs : List CV} {ov : List Int} {m p : Nat} (hm : m < ov.length) (hp : ov[m] = (p : Int)) (hf : p < fs.length) (hc : p < cs.length) : (ov.take (m + 1)).map (partL fs l cs) = (ov.take m).map (partL fs l cs) ++ [if fs[p].k = 2 then ⟨2, ⟨#[]⟩, cs[p].n⟩ else ⟨1, lowIfS l cs[p].t, 0⟩] := by
  rw [List.take_succ_eq_append_getElem hm, List.map_append, hp, List.map_cons, List.map_nil]
  congr 2
  unfold partL
  rw [show ((p : Int).toNat) = p from rfl, List.getD_eq_getElem?_getD, List.getElem?_eq_getElem hf, List.getD_eq_getElem?_getD, List.getElem?_eq_getElem hc]
  rfl
theorem bhP_plain {w : World} {t : TV} {x : XV} {cs : List CV} (h : TRd w t) (hro : ROk t.tb) (hx : x ∈ t.xs) (hl : cs.length = t.fs.length) (hw : ∀ c ∈ cs, c.wf) : ∀ q ∈ bhP t x cs, Plain q ∧ q.wf := by
  intro q hq
  unfold bhP behindP at hq
  split at hq
  · simp at hq
  · have h0 : 0 < t.xs.length := List.length_pos_of_mem hx
    have hy : t.xs[0]? = some t.xs[0] := List.getElem?_eq_getElem h0
    have hg : t.tb.xs.getD 0 ⟨⟨#[]⟩, [], false, false, false⟩ = t.xs[0].x := by
      rw [List.getD_eq_getElem?_getD]
      show ((t.xs.map (·.x))[0]?).getD _ = _
      rw [List.getElem?_map, hy]; rfl
    have hm : t.xs[0] ∈ t.xs := List.getElem_mem h0
    rw [hg, show ownP t.tb.fs t.xs[0].x cs ⟨#[]⟩ = lawP t.fs t.xs[0].x cs from lawP_own (h.kinds hm) (noList_of (hro.firsts _ hy)) _] at hq
    exact lawP_plain (h.ovok hl hm) (noList_of (hro.firsts _ hy)) hw q hq

set_option maxRecDepth 100000 in
set_option maxHeartbeats 20000000 in
theorem rowsFound_calls (text : ByteArray) (at' : Int) (ca : Option Addr) (cc : Nat) (cs : List CV) (da : Option Addr) (dc : Nat) (ds : List CV) (w : World) (hs : text.size ≤ 140737488351232) (ha : -9223372036854775808 ≤ at' ∧ at' ≤ 9223372036854775807)
    (hcm : cs.length * 48 ≤ 140737488351232) (hdm : ds.length * 48 ≤ 140737488351232) (hr : RowAt w ca cs) (hr2 : RowAt w da ds) :
    Calls Try.prog 5 #[.string text, .int .i64 at', .agg #[.slice ca cs.length cc, .slice da ds.length dc]] w fun e w' => e = .returned (.bool true) ∧ Below w.heap.size w w' := by
  have HRA : Hid (RowAt w ca cs ∧ RowAt w da ds) := ⟨hr, hr2⟩
  clear hr hr2
  obtain ⟨w1, hw1⟩ : ∃ w1, w1 = w.alloc (.cells #[.slice ca cs.length cc, .slice da ds.length dc] 47) := ⟨_, rfl⟩
  have HB1 : Hid (Below w.heap.size w w1) := by rw [hw1]; exact (Below.refl _ _).alloc (Nat.le_refl _) _
  have HQ1 : Hid (w1.heap[w.heap.size]? = some (.cells #[.slice ca cs.length cc, .slice da ds.length dc] 47)) := by rw [Hid, hw1]; exact new_blk _ _
  go_enter Try.func5, Try.ntmps5
  go_wp2_with fail
  rw [← hw1]
  clear hw1
  refine (rowsFixed_calls w1).mono ?_
  rintro e w2 ⟨rfl, hb2⟩
  have HB2 : Hid (Below w.heap.size w w2) := HB1.out.trans (hb2.mono HB1.out.size)
  have HQ2 : Hid (w2.heap[w.heap.size]? = some (.cells #[.slice ca cs.length cc, .slice da ds.length dc] 47)) := (hb2.block _ (lt_blk HQ1.out)).trans HQ1.out
  clear hb2 HB1 HQ1
  go_wp2_with fail
  refine (table_calls text at' w2 hs ha).mono ?_
  rintro e w3 ⟨hb3, hor⟩
  have HB3 : Hid (Below w.heap.size w w3) := HB2.out.trans (hb3.mono HB2.out.size)
  have HQ3 : Hid (w3.heap[w.heap.size]? = some (.cells #[.slice ca cs.length cc, .slice da ds.length dc] 47)) := (hb3.block _ (lt_blk HQ2.out)).trans HQ2.out
  clear hb3 HB2 HQ2
  rcases hor with ⟨t, ht, hro, rfl⟩ | rfl
  case inr =>
    go_wp2
    go_quiet (fail)
    go_wp2
    go_ret
    exact ⟨rfl, by first | exact HB3.out.alloc HB3.out.size _ | exact below_drewN (HB3.out.alloc HB3.out.size _) _⟩
  have HTR : Hid (TRd w3 t) := ht
  have HRO : Hid (ROk t.tb) := hro
  clear ht hro
  go_upto_region 4 with fail
  obtain ⟨w4, hw4⟩ : ∃ w4, w4 = w3.alloc (.cells #[.string t.n, .slice t.fa t.fs.length t.fc, .slice t.xa t.xs.length t.xc] 29) := ⟨_, rfl⟩
  rw [← hw4]
  have hb4 : Below w3.heap.size w3 w4 := by rw [hw4]; exact (Below.refl _ _).alloc (Nat.le_refl _) _
  have HT4 : Hid (w4.heap[w3.heap.size]? = some (.cells #[.string t.n, .slice t.fa t.fs.length t.fc, .slice t.xa t.xs.length t.xc] 29)) := by rw [Hid, hw4]; exact new_blk _ _
  have HQ4 : Hid (w4.heap[w.heap.size]? = some (.cells #[.slice ca cs.length cc, .slice da ds.length dc] 47)) := (hb4.block _ (lt_blk HQ3.out)).trans HQ3.out
  have HB4 : Hid (Below w.heap.size w w4) := HB3.out.trans (hb4.mono HB3.out.size)
  have HTR4 : Hid (TRd w4 t) := HTR.out.below hb4
  have HRA4 : Hid (RowAt w4 ca cs ∧ RowAt w4 da ds) := ⟨HRA.out.1.below HB4.out, HRA.out.2.below HB4.out⟩
  clear hw4 hb4 HB3 HQ3 HTR HRA
  have HC0 : Hid (∀ W, Below w4.heap.size w4 W → Calls Try.prog 10 #[.agg #[.slice ca cs.length cc]] W fun e w' => (∃ a c es, e = .returned (.agg #[.slice a es.length c]) ∧ Alike es cs ∧ OwnR w' W.heap.size (.slice a es.length c) es) ∧ Below W.heap.size W w') := fun W hW => refCopy_calls ca cc cs W hcm (HRA4.out.1.below hW)
  have HC1 : Hid (∀ W, Below w4.heap.size w4 W → Calls Try.prog 10 #[.agg #[.slice da ds.length dc]] W fun e w' => (∃ a c es, e = .returned (.agg #[.slice a es.length c]) ∧ Alike es ds ∧ OwnR w' W.heap.size (.slice a es.length c) es) ∧ Below W.heap.size W w') := fun W hW => refCopy_calls da dc ds W hdm (HRA4.out.2.below hW)
  have HFT : Hid (∀ W a c es (rs : List CV), rs.length * 48 ≤ 140737488351232 → Below w4.heap.size w4 W → Alike es rs → RowAt W a es → Calls Try.prog 9 #[.agg #[.string t.n, .slice t.fa t.fs.length t.fc, .slice t.xa t.xs.length t.xc], .agg #[.slice a es.length c]] W fun e w' => e = .returned (.int .i64 (fitP t.tb rs)) ∧ Below W.heap.size W w') := fun W a c es rs hrs hW hal hrd => by
    have := fit_calls t a c es W (by rw [hal.len]; omega) (HTR4.out.below hW) hrd
    rw [hal.fit] at this
    exact this
  have HWF : Hid ((∀ c ∈ cs, c.wf) ∧ ∀ c ∈ ds, c.wf) := ⟨HRA4.out.1.wf, HRA4.out.2.wf⟩
  have e0 : w4.cell? ⟨w3.heap.size, 0, none⟩ = some (.string t.n) := by rw [cell_blk HT4.out]; rfl
  have e1 : w4.cell? ⟨w3.heap.size, 1, none⟩ = some (.slice t.fa t.fs.length t.fc) := by rw [cell_blk HT4.out]; rfl
  have e2 : w4.cell? ⟨w3.heap.size, 2, none⟩ = some (.slice t.xa t.xs.length t.xc) := by rw [cell_blk HT4.out]; rfl
  have r0 : w4.cell? ⟨w.heap.size, 0, none⟩ = some (.slice ca cs.length cc) := by rw [cell_blk HQ4.out]; rfl
  have r1 : w4.cell? ⟨w.heap.size, 1, none⟩ = some (.slice da ds.length dc) := by rw [cell_blk HQ4.out]; rfl
  have hl3 : w3.heap.size < w4.heap.size := lt_blk HT4.out
  have hl0 : w.heap.size < w4.heap.size := lt_blk HQ4.out
  have HSK : Hid (∀ W, Below w4.heap.size w4 W → W.cell? ⟨w3.heap.size, 0, none⟩ = some (.string t.n) ∧ W.cell? ⟨w3.heap.size, 1, none⟩ = some (.slice t.fa t.fs.length t.fc) ∧ W.cell? ⟨w3.heap.size, 2, none⟩ = some (.slice t.xa t.xs.length t.xc) ∧ W.cell? ⟨w.heap.size, 0, none⟩ = some (.slice ca cs.length cc) ∧ W.cell? ⟨w.heap.size, 1, none⟩ = some (.slice da ds.length dc) ∧ Below w4.heap.size w4 W) := fun W hW =>
    ⟨by rw [hW.cell (by exact hl3)]; exact e0, by rw [hW.cell (by exact hl3)]; exact e1, by rw [hW.cell (by exact hl3)]; exact e2, by rw [hW.cell (by exact hl0)]; exact r0, by rw [hW.cell (by exact hl0)]; exact r1, hW⟩
  have HF0 : Hid (∀ W a c es, Below w4.heap.size w4 W → Alike es cs → RowAt W a es → Calls Try.prog 9 #[.agg #[.string t.n, .slice t.fa t.fs.length t.fc, .slice t.xa t.xs.length t.xc], .agg #[.slice a es.length c]] W fun e w' => e = .returned (.int .i64 (fitP t.tb cs)) ∧ Below W.heap.size W w') := fun W a c es => HFT.out W a c es cs hcm
  have HF1 : Hid (∀ W a c es, Below w4.heap.size w4 W → Alike es ds → RowAt W a es → Calls Try.prog 9 #[.agg #[.string t.n, .slice t.fa t.fs.length t.fc, .slice t.xa t.xs.length t.xc], .agg #[.slice a es.length c]] W fun e w' => e = .returned (.int .i64 (fitP t.tb ds)) ∧ Below W.heap.size W w') := fun W a c es => HFT.out W a c es ds hdm
  obtain ⟨F0, hF0⟩ : ∃ F0, F0 = fitP t.tb cs := ⟨_, rfl⟩
  obtain ⟨F1, hF1⟩ : ∃ F1, F1 = fitP t.tb ds := ⟨_, rfl⟩
  have HE0 : Hid (F0 = fitP t.tb cs) := hF0
  have HE1 : Hid (F1 = fitP t.tb ds) := hF1
  rw [← hF0] at HF0
  rw [← hF1] at HF1
  clear hF0 hF1 HFT
  have q0 := HSK.out w4.drew ⟨rfl, rfl, rfl, Nat.le_refl _, fun _ _ => rfl⟩
  by_cases h0 : F0 = 0
  case neg =>
    have z0 : (F0 == 0) = false := by simpa using h0
    have z0' : (F0 != 0) = true := by simp only [bne, z0, Bool.not_false]
    as_aux_lemma =>
      first
        | (go_region_law
            (first
              | (go_simp
                 go_at_call 9
                 refine (HF0.out _ a5 c5 es5 q5.2.2.2.2.2 HAL5.out HR5.out).mono ?_
                 rintro e w6 ⟨rfl, hb⟩
                 have q6 := HSK.out w6 (q5.2.2.2.2.2.trans (hb.mono q5.2.2.2.2.2.size))
                 clear hb
                 dsimp only)
              | (go_simp
                 go_at_call 10
                 refine (HC0.out _ q0.2.2.2.2.2).mono ?_
                 rintro e w5 ⟨⟨a5, c5, es5, rfl, hal, hor⟩, hb⟩
                 have HAL5 : Hid (Alike es5 cs) := hal
                 have HR5 : Hid (RowAt w5 a5 es5) := hor.rowAt (hal.wf HWF.out.1)
                 have q5 := HSK.out w5 (q0.2.2.2.2.2.trans (hb.mono q0.2.2.2.2.2.size))
                 clear hal hor hb
                 dsimp only)))
        | fail
      all_goals
        go_wp2
        go_ret
        exact ⟨rfl, HB4.out.trans (q6.2.2.2.2.2.mono HB4.out.size)⟩
  clear e0 e1 e2 r0 r1
  by_cases h1 : F1 = 0
  case neg =>
    subst h0
    have z1 : (F1 == 0) = false := by simpa using h1
    have z1' : (F1 != 0) = true := by simp only [bne, z1, Bool.not_false]
    as_aux_lemma =>
      go_region_held3 (fun W => W.cell? ⟨w3.heap.size, 0, none⟩ = some (.string t.n) ∧ W.cell? ⟨w3.heap.size, 1, none⟩ = some (.slice t.fa t.fs.length t.fc) ∧ W.cell? ⟨w3.heap.size, 2, none⟩ = some (.slice t.xa t.xs.length t.xc) ∧ W.cell? ⟨w.heap.size, 0, none⟩ = some (.slice ca cs.length cc) ∧ W.cell? ⟨w.heap.size, 1, none⟩ = some (.slice da ds.length dc) ∧ Below w4.heap.size w4 W) (first | (exact q8) | (exact q7) | (exact q6) | (exact q5) | (exact q0) | go_keep)
        (first
          | (go_at_call 9
             refine (HF1.out _ a7 c7 es7 q7.2.2.2.2.2 HAL7.out HR7.out).mono ?_
             rintro e w8 ⟨rfl, hb⟩
             have q8 := HSK.out w8 (q7.2.2.2.2.2.trans (hb.mono q7.2.2.2.2.2.size))
             clear hb)
          | (go_at_call 10
             refine (HC1.out _ q6.2.2.2.2.2).mono ?_
             rintro e w7 ⟨⟨a7, c7, es7, rfl, hal, hor⟩, hb⟩
             have HAL7 : Hid (Alike es7 ds) := hal
             have HR7 : Hid (RowAt w7 a7 es7) := hor.rowAt (hal.wf HWF.out.2)
             have q7 := HSK.out w7 (q6.2.2.2.2.2.trans (hb.mono q6.2.2.2.2.2.size))
             clear hal hor hb)
          | (go_at_call 9
             refine (HF0.out _ a5 c5 es5 q5.2.2.2.2.2 HAL5.out HR5.out).mono ?_
             rintro e w6 ⟨rfl, hb⟩
             have q6 := HSK.out w6 (q5.2.2.2.2.2.trans (hb.mono q5.2.2.2.2.2.size))
             clear hb)
          | (go_at_call 10
             refine (HC0.out _ q0.2.2.2.2.2).mono ?_
             rintro e w5 ⟨⟨a5, c5, es5, rfl, hal, hor⟩, hb⟩
             have HAL5 : Hid (Alike es5 cs) := hal
             have HR5 : Hid (RowAt w5 a5 es5) := hor.rowAt (hal.wf HWF.out.1)
             have q5 := HSK.out w5 (q0.2.2.2.2.2.trans (hb.mono q0.2.2.2.2.2.size))
             clear hal hor hb))
      all_goals
        go_wp2
        go_ret
        exact ⟨rfl, HB4.out.trans (q8.2.2.2.2.2.mono HB4.out.size)⟩
  subst h0 h1
  go_region_held3 (fun W => W.cell? ⟨w3.heap.size, 0, none⟩ = some (.string t.n) ∧ W.cell? ⟨w3.heap.size, 1, none⟩ = some (.slice t.fa t.fs.length t.fc) ∧ W.cell? ⟨w3.heap.size, 2, none⟩ = some (.slice t.xa t.xs.length t.xc) ∧ W.cell? ⟨w.heap.size, 0, none⟩ = some (.slice ca cs.length cc) ∧ W.cell? ⟨w.heap.size, 1, none⟩ = some (.slice da ds.length dc) ∧ Below w4.heap.size w4 W) (first | (exact q8) | (exact q7) | (exact q6) | (exact q5) | (exact q0) | go_keep)
    (first
      | (go_at_call 9
         refine (HF1.out _ a7 c7 es7 q7.2.2.2.2.2 HAL7.out HR7.out).mono ?_
         rintro e w8 ⟨rfl, hb⟩
         have q8 := HSK.out w8 (q7.2.2.2.2.2.trans (hb.mono q7.2.2.2.2.2.size))
         clear hb)
      | (go_at_call 10
         refine (HC1.out _ q6.2.2.2.2.2).mono ?_
         rintro e w7 ⟨⟨a7, c7, es7, rfl, hal, hor⟩, hb⟩
         have HAL7 : Hid (Alike es7 ds) := hal
         have HR7 : Hid (RowAt w7 a7 es7) := hor.rowAt (hal.wf HWF.out.2)
         have q7 := HSK.out w7 (q6.2.2.2.2.2.trans (hb.mono q6.2.2.2.2.2.size))
         clear hal hor hb)
      | (go_at_call 9
         refine (HF0.out _ a5 c5 es5 q5.2.2.2.2.2 HAL5.out HR5.out).mono ?_
         rintro e w6 ⟨rfl, hb⟩
         have q6 := HSK.out w6 (q5.2.2.2.2.2.trans (hb.mono q5.2.2.2.2.2.size))
         clear hb)
      | (go_at_call 10
         refine (HC0.out _ q0.2.2.2.2.2).mono ?_
         rintro e w5 ⟨⟨a5, c5, es5, rfl, hal, hor⟩, hb⟩
         have HAL5 : Hid (Alike es5 cs) := hal
         have HR5 : Hid (RowAt w5 a5 es5) := hor.rowAt (hal.wf HWF.out.1)
         have q5 := HSK.out w5 (q0.2.2.2.2.2.trans (hb.mono q0.2.2.2.2.2.size))
         clear hal hor hb))
  have HB48 : Hid (Below w4.heap.size w4 w8) := q8.2.2.2.2.2
  have HT8 : Hid (w8.heap[w3.heap.size]? = some (.cells #[.string t.n, .slice t.fa t.fs.length t.fc, .slice t.xa t.xs.length t.xc] 29)) := (HB48.out.block _ (lt_blk HT4.out)).trans HT4.out
  have HQ8 : Hid (w8.heap[w.heap.size]? = some (.cells #[.slice ca cs.length cc, .slice da ds.length dc] 47)) := (HB48.out.block _ (lt_blk HQ4.out)).trans HQ4.out
  clear q0 q5 q6 q7 q8 HAL5 HAL7 HR5 HR7 HF0 HF1
  have t2 : w8.cell? ⟨w3.heap.size, 2, none⟩ = some (.slice t.xa t.xs.length t.xc) := by rw [cell_blk HT8.out]; rfl
  have hxm := HTR4.out.ok.xmost
  have hfm := HTR4.out.ok.fmost
  go_wp2
  go_loopw [9, 10, 11, 12, 13, 14, 16, 17, 18, 19, 20, 21, 22, 23, 24, 25, 55] (fun v9 v10 v11 v12 v13 v14 v16 v17 v18 v19 v20 v21 v22 v23 v24 v25 i wr => ∃ k : Nat, k ≤ t.xs.length ∧ i = .int .i64 k ∧ Hid (Below w8.heap.size w8 wr)) (fun _ _ _ _ _ _ _ _ _ _ _ _ _ _ _ _ i _ => t.xs.length - (intOf i).toNat)
  case atStart => exact ⟨0, Nat.zero_le _, rfl, Below.refl _ _⟩
  case round =>
    obtain ⟨k, hk, rfl, HB⟩ := hrel
    obtain ⟨wz, hwz⟩ : ∃ wz, wz = wr := ⟨_, rfl⟩
    subst hwz
    clear t2
    have HBr : Hid (Below w4.heap.size w4 wz) := HB48.out.trans (HB.out.mono HB48.out.size)
    by_cases hlt : k < t.xs.length
    case neg =>
      go_wp2
      go_ret
      exact ⟨rfl, HB4.out.trans (HBr.out.mono HB4.out.size)⟩
    obtain ⟨xb, xo, hxa, i0, i1, i2, i3, i4⟩ := (HTR4.out.xs.below HBr.out).idx k hlt
    have HXK : Hid (t.xs[k]? = some t.xs[k]) := List.getElem?_eq_getElem hlt
    have HXM : Hid (t.xs[k] ∈ t.xs) := List.getElem_mem hlt
    have HOV : Hid (CellsAt w4 t.xs[k].va (ics t.xs[k].x.ov)) := HTR4.out.ov _ (List.getElem_mem hlt)
    have HXO := HTR4.out.ok.xok _ (List.getElem_mem hlt)
    have HXO : Hid (XOk t t.xs[k]) := HXO
    generalize t.xs[k] = x at *
    obtain ⟨⟨xn, ov, u, l, s⟩, va, vc⟩ := x
    dsimp only at *
    have hom := HXO.out.most
    dsimp only at hom
    have hi1 : (k : Int) < (t.xs.length : Int) := by omega
    obtain ⟨wa, hwa⟩ : ∃ wa, wa = wz.alloc (.cells #[.string xn, .slice va ov.length vc, .bool u, .bool l, .bool s] 50) := ⟨_, rfl⟩
    have HBa : Hid (Below wz.heap.size wz wa) := by rw [hwa]; exact (Below.refl _ _).alloc (Nat.le_refl _) _
    have HXa : Hid (wa.heap[wz.heap.size]? = some (.cells #[.string xn, .slice va ov.length vc, .bool u, .bool l, .bool s] 50)) := by rw [Hid, hwa]; exact new_blk _ _
    rw [hxa]
    go_upto_region 9 with fail
    rw [← hwa]
    clear hwa i0 i1 i2 i3 i4
    have x4 : wa.cell? ⟨wz.heap.size, 4, none⟩ = some (.bool s) := by rw [cell_blk HXa.out]; rfl
    cases s with
    | true =>
      go_wp2
      go_roundw
      case rel => exact ⟨k + 1, by omega, by go_num, HB.out.trans (HBa.out.mono HB.out.size)⟩
      case measure => simp [intOf]; omega
    | false =>
      obtain ⟨wb, hwb⟩ : ∃ wb, wb = wa.alloc (.cells #[.slice none 0 0, .slice none 0 0] 52) := ⟨_, rfl⟩
      have HFb : Hid (Fo2 wz w3.heap.size w.heap.size wz.heap.size wa.heap.size #[.string t.n, .slice t.fa t.fs.length t.fc, .slice t.xa t.xs.length t.xc] #[.slice ca cs.length cc, .slice da ds.length dc] ⟨⟨xn, ov, u, l, false⟩, va, vc⟩ (.slice none 0 0) (.slice none 0 0) [] [] wb) := by
        have hbb : Below wa.heap.size wa wb := by rw [hwb]; exact (Below.refl _ _).alloc (Nat.le_refl _) _
        have hbr : Below wz.heap.size wz wb := HBa.out.trans (hbb.mono HBa.out.size)
        have hb8 : Below w8.heap.size w8 wb := HB.out.trans (hbr.mono HB.out.size)
        refine ⟨(hb8.block _ (lt_blk HT8.out)).trans HT8.out, (hb8.block _ (lt_blk HQ8.out)).trans HQ8.out, (hbb.block _ (lt_blk HXa.out)).trans HXa.out, by rw [hwb]; exact new_blk _ _, OwnP.nil _ _, OwnP.nil _ _, fun k hk => by simp [Value.ownBlock] at hk, hbr, HBa.out.size⟩
      have p0 : wb.cell? ⟨w.heap.size, 0, none⟩ = some (.slice ca cs.length cc) := by rw [cell_blk HFb.out.two]; rfl
      have p1 : wb.cell? ⟨w.heap.size, 1, none⟩ = some (.slice da ds.length dc) := by rw [cell_blk HFb.out.two]; rfl
      have HFC0 : Hid (cs.length = t.fs.length) := (fitC_few (fitP_cells HE0.out.symm)).1
      have HFC1 : Hid (ds.length = t.fs.length) := (fitC_few (fitP_cells HE1.out.symm)).1
      go_upto_region 11 with fail
      rw [← hwb]
      clear hwb x4
      go_wp2
      go_loopw [12, 13, 14, 16, 17, 18, 63] (fun v12 v13 v14 v16 v17 v18 i wc => ∃ (j : Int) (li : Bool) (v0 v1 : Value) (A B : List Pt), i = .int .i64 j ∧ v12 = .bool li ∧ Hid (StF (ov.map (partL t.fs l cs)) (ov.map (partL t.fs l ds)) (hasL t.fs ov) j li A B) ∧ Hid (Fo2 wz w3.heap.size w.heap.size wz.heap.size wa.heap.size #[.string t.n, .slice t.fa t.fs.length t.fc, .slice t.xa t.xs.length t.xc] #[.slice ca cs.length cc, .slice da ds.length dc] ⟨⟨xn, ov, u, l, false⟩, va, vc⟩ v0 v1 A B wc)) (fun _ _ _ _ _ _ i _ => 2 - (intOf i).toNat)
      case atStart => exact ⟨0, false, _, _, [], [], rfl, rfl, .inl ⟨rfl, rfl, rfl, rfl⟩, HFb⟩
      case round =>
        obtain ⟨j, li, v0, v1, A, B, rfl, rfl, HST, HF⟩ := hrel
        obtain ⟨wc, hwc⟩ : ∃ wc, wc = wr := ⟨_, rfl⟩
        subst hwc
        clear HFb p0 p1
        rcases HST.out with ⟨rfl, rfl, rfl, rfl⟩ | ⟨rfl, rfl, rfl, rfl⟩ | ⟨rfl, rfl, rfl, rfl⟩
        · as_aux_lemma =>
            have HRb : Hid ((wc.alloc (.cells #[.slice ca cs.length cc] 24)).heap[wc.heap.size]? = some (.cells #[.slice ca cs.length cc] 24)) := new_blk _ _
            have HFs : Hid (Fo2 wz w3.heap.size w.heap.size wz.heap.size wa.heap.size #[.string t.n, .slice t.fa t.fs.length t.fc, .slice t.xa t.xs.length t.xc] #[.slice ca cs.length cc, .slice da ds.length dc] ⟨⟨xn, ov, u, l, false⟩, va, vc⟩ v0 v1 [] [] (wc.alloc (.cells #[.slice ca cs.length cc] 24))) := HF.out.below ((Below.refl _ _).alloc (Nat.le_refl _) _)
            have y1 : (wc.alloc (.cells #[.slice ca cs.length cc] 24)).cell? ⟨wz.heap.size, 1, none⟩ = some (.slice va ov.length vc) := by rw [cell_blk HFs.out.bx]; rfl
            clear HF HST
            go_wp2
            go_loopw [12, 16, 17, 18, 70] (fun v12 v16 v17 v18 i wd => ∃ (m : Nat) (li2 : Bool) (v : Value), m ≤ ov.length ∧ i = .int .i64 m ∧ v12 = .bool li2 ∧ Hid (li2 = (false || hasL t.fs (ov.take m))) ∧ Hid (Fo2 wz w3.heap.size w.heap.size wz.heap.size wa.heap.size #[.string t.n, .slice t.fa t.fs.length t.fc, .slice t.xa t.xs.length t.xc] #[.slice ca cs.length cc, .slice da ds.length dc] ⟨⟨xn, ov, u, l, false⟩, va, vc⟩ v v1 ((ov.take m).map (partL t.fs l cs)) [] wd) ∧ Hid (wd.heap[wc.heap.size]? = some (.cells #[.slice ca cs.length cc] 24))) (fun _ _ _ _ i _ => ov.length - (intOf i).toNat)
            case atStart => exact ⟨0, _, v0, Nat.zero_le _, rfl, rfl, by simp [Hid, hasL], HFs, HRb⟩
            case round =>
              obtain ⟨m, li2, v, hm, rfl, rfl, HLI, HF, HR⟩ := hrel
              obtain ⟨wd, hwd⟩ : ∃ wd, wd = wr := ⟨_, rfl⟩
              subst hwd
              clear HFs HRb y1
              have HB4d : Hid (Below w4.heap.size w4 wd) := HBr.out.trans (HF.out.be.mono HBr.out.size)
              by_cases hmt : m < ov.length
              case neg =>
                obtain rfl : m = ov.length := by omega
                rw [List.take_length] at HLI HF
                have HS2 : Hid (StF (ov.map (partL t.fs l cs)) (ov.map (partL t.fs l ds)) (hasL t.fs ov) 1 li2 (ov.map (partL t.fs l cs)) []) := by rw [Hid, HLI.out]; exact .inr (.inl ⟨rfl, by simp, rfl, rfl⟩)
                go_wp2
                go_roundw
                case rel => exact ⟨1, li2, _, _, _, _, rfl, rfl, HS2, HF⟩
                case measure => simp [intOf]
              obtain ⟨ob, oo, rfl, o0⟩ := (HOV.out.below HB4d.out).num m hmt
              have hpl := HXO.out.place ov[m] (List.getElem_mem hmt)
              obtain ⟨p, hp⟩ : ∃ p : Nat, ov[m] = (p : Int) := ⟨ov[m].toNat, by omega⟩
              have hpf : p < t.fs.length := by omega
              have hpc : p < cs.length := by have := HFC0.out; omega
              obtain ⟨fb, fo, hfa, f0, f1⟩ := (HTR4.out.fs.below HB4d.out).fld p hpf
              obtain ⟨cb, co, hca, d0, d1, d2⟩ := ((HRA4.out.1.below HB4d.out).row).cel p hpc
              have HWP : Hid (cs[p].wf) := HRA4.out.1.wf _ (List.getElem_mem hpc)
              have HLS : Hid ((ov.take (m + 1)).map (partL t.fs l cs) = (ov.take m).map (partL t.fs l cs) ++ [if t.fs[p].k = 2 then ⟨2, ⟨#[]⟩, cs[p].n⟩ else ⟨1, lowIfS l cs[p].t, 0⟩]) := law_snoc hmt hp hpf hpc
              have HHS : Hid (hasL t.fs (ov.take (m + 1)) = (hasL t.fs (ov.take m) || (t.fs[p].k == 3))) := hasL_snoc hmt hp hpf
              rw [hp] at o0
              clear hpl hp
              have t1 : wd.cell? ⟨w3.heap.size, 1, none⟩ = some (.slice t.fa t.fs.length t.fc) := by rw [cell_blk HF.out.tab]; rfl
              have x3 : wd.cell? ⟨wz.heap.size, 3, none⟩ = some (.bool l) := by rw [cell_blk HF.out.bx]; rfl
              have rr0 : wd.cell? ⟨wc.heap.size, 0, none⟩ = some (.slice ca cs.length cc) := by rw [cell_blk HR.out]; rfl
              rw [hfa] at t1
              rw [hca] at rr0
              clear hfa hca
              have hp1 : (p : Int) < (t.fs.length : Int) := by omega
              have hp2 : (p : Int) < (cs.length : Int) := by omega
              have hl3d : w3.heap.size < wd.heap.size := lt_blk HF.out.tab
              have hlxd : wz.heap.size < wd.heap.size := lt_blk HF.out.bx
              have hfbd : fb < wd.heap.size := World.block_lt_of_cell? wd _ f1
              generalize t.fs[p].k = kk at *
              generalize hck : cs[p] = cp at *
              obtain ⟨wp, hwp⟩ : ∃ wp, wp = (wd.alloc (.cells #[.string cp.t, .int .u64 cp.n, .slice cp.la cp.l.length cp.lc] 55)).alloc (.cells #[.int .i64 1, .string cp.t, .int .u64 0] 57) := ⟨_, rfl⟩
              have HBp : Hid (Below wd.heap.size wd wp) := by rw [hwp]; exact ((Below.refl _ _).alloc (Nat.le_refl _) _).alloc (by simp only [World.size_alloc]; omega) _
              have HCp : Hid (wp.heap[wd.heap.size]? = some (.cells #[.string cp.t, .int .u64 cp.n, .slice cp.la cp.l.length cp.lc] 55)) := by rw [Hid, hwp]; exact old_blk (new_blk _ _) _
              have HPp : Hid (wp.heap[wd.heap.size + 1]? = some (.cells #[.int .i64 1, .string cp.t, .int .u64 0] 57)) := by
                rw [Hid, hwp]
                have := new_blk (wd.alloc (.cells #[.string cp.t, .int .u64 cp.n, .slice cp.la cp.l.length cp.lc] 55)) (.cells #[.int .i64 1, .string cp.t, .int .u64 0] 57)
                rw [World.size_alloc] at this
                exact this
              go_upto_region 20 with fail
              rw [← hwp]
              clear hwp o0 d0 d1 d2 rr0
              have t1' : wp.cell? ⟨w3.heap.size, 1, none⟩ = some (.slice (some ⟨fb, fo, none⟩) t.fs.length t.fc) := by rw [HBp.out.cell (by exact hl3d)]; exact t1
              have f1' : wp.cell? ⟨fb, fo + p * 2 + 1, none⟩ = some (.int .i64 kk) := by rw [HBp.out.cell (by exact hfbd)]; exact f1
              have x3' : wp.cell? ⟨wz.heap.size, 3, none⟩ = some (.bool l) := by rw [HBp.out.cell (by exact hlxd)]; exact x3
              have cn : wp.cell? ⟨wd.heap.size, 1, none⟩ = some (.int .u64 cp.n) := by rw [cell_blk HCp.out]; rfl
              have g0 : wp.cell? ⟨wd.heap.size + 1, 0, none⟩ = some (.int .i64 1) := by rw [cell_blk HPp.out]; rfl
              have g1 : wp.cell? ⟨wd.heap.size + 1, 1, none⟩ = some (.string cp.t) := by rw [cell_blk HPp.out]; rfl
              have g2 : wp.cell? ⟨wd.heap.size + 1, 2, none⟩ = some (.int .u64 0) := by rw [cell_blk HPp.out]; rfl
              have y0 : wp.frozen? ⟨wd.heap.size + 1, 0, none⟩ = false := frozen_blk HPp.out
              have y1 : wp.frozen? ⟨wd.heap.size + 1, 1, none⟩ = false := frozen_blk HPp.out
              have y2 : wp.frozen? ⟨wd.heap.size + 1, 2, none⟩ = false := frozen_blk HPp.out
              clear t1 f1 x3 f0
              by_cases hk2 : kk = 2
              · subst hk2
                rw [if_pos rfl] at HLS
                cases l with
                | false =>
                  cases li2 with
                  | true =>
                    obtain ⟨w6, hw6⟩ : ∃ w6, w6 = (((wp.setCell ⟨wd.heap.size + 1, 0, none⟩ (.int .i64 2)).setCell ⟨wd.heap.size + 1, 1, none⟩ (.string ⟨#[]⟩)).setCell ⟨wd.heap.size + 1, 2, none⟩ (.int .u64 cp.n)) := ⟨_, rfl⟩
                    have HB6 : Hid (Below wd.heap.size wd w6) := by rw [hw6]; exact ((HBp.out.setCell (by show wd.heap.size ≤ wd.heap.size + 1; omega) _).setCell (by show wd.heap.size ≤ wd.heap.size + 1; omega) _).setCell (by show wd.heap.size ≤ wd.heap.size + 1; omega) _
                    have HP6 : Hid (w6.heap[wd.heap.size + 1]? = some (.cells #[.int .i64 2, .string ⟨#[]⟩, .int .u64 cp.n] 57)) := by rw [Hid, hw6]; exact set_blk (i := 2) (set_blk (i := 1) (set_blk (i := 0) HPp.out _) _) _

                    have HF6 : Hid (Fo2 wz w3.heap.size w.heap.size wz.heap.size wa.heap.size #[.string t.n, .slice t.fa t.fs.length t.fc, .slice t.xa t.xs.length t.xc] #[.slice ca cs.length cc, .slice da ds.length dc] ⟨⟨xn, ov, u, false, false⟩, some ⟨ob, oo, none⟩, vc⟩ v v1 ((ov.take m).map (partL t.fs false cs)) [] w6) := HF.out.below HB6.out
                    have HR6 : Hid (w6.heap[wc.heap.size]? = some (.cells #[.slice ca cs.length cc] 24)) := (HB6.out.block _ (lt_blk HR.out)).trans HR.out
                    have HLI2 : Hid (true = (false || hasL t.fs (ov.take (m + 1)))) := by rw [Hid, HHS.out, ← Bool.or_assoc, ← HLI.out]; simp
                    obtain ⟨av, cv, hvv⟩ := HF6.out.o0.shape
                    have hml : ((ov.take m).map (partL t.fs false cs)).length = m := by simp; omega
                    rw [hml] at hvv
                    subst hvv
                    go_upto_region 25 with fail
                    rw [← hw6]
                    clear hw6
                    have b0 : w6.cell? ⟨wd.heap.size + 1, 0, none⟩ = some (.int .i64 2) := by rw [cell_blk HP6.out]; rfl
                    have b1 : w6.cell? ⟨wd.heap.size + 1, 1, none⟩ = some (.string ⟨#[]⟩) := by rw [cell_blk HP6.out]; rfl
                    have b2 : w6.cell? ⟨wd.heap.size + 1, 2, none⟩ = some (.int .u64 cp.n) := by rw [cell_blk HP6.out]; rfl
                    have pv : w6.cell? ⟨wa.heap.size, 0, none⟩ = some (.slice av m cv) := by rw [cell_blk HF6.out.pb]; rfl
                    have hpa : wa.heap.size < w6.heap.size := lt_blk HF6.out.pb
                    have hB6 : wz.heap.size ≤ w6.heap.size := HF6.out.be.size
                    have HOW : Hid ((w6.drew.alloc (.cells #[.int .i64 2, .string ⟨#[]⟩, .int .u64 cp.n] 57)).ownsRow wz.heap.size 57 3 (.slice av m cv) m (pcs ((ov.take m).map (partL t.fs false cs)))) := by
                      have h := HF6.out.o0
                      unfold OwnP at h
                      rw [hml] at h
                      exact row_below h ((⟨rfl, rfl, rfl, Nat.le_refl _, fun _ _ => rfl⟩ : Below w6.heap.size w6 w6.drew).alloc (Nat.le_refl _) _)
                    have HCW : Hid (CellsAt (w6.drew.alloc (.cells #[.int .i64 2, .string ⟨#[]⟩, .int .u64 cp.n] 57)) (some ⟨w6.drew.heap.size, 0, none⟩) (pcs [(⟨2, ⟨#[]⟩, cp.n⟩ : Pt)])) := fun _ => ⟨_, _, rfl, fun q u hq => by rw [Nat.zero_add, cell_blk (new_blk _ _)]; simpa [pcs, Pt.cells] using hq⟩
                    go_region_law
                      (first
                        | (refine step_append_src _ (by rfl) (.tmp 111) (.tmp 113) 51 57 _ 3 32 Try.underlying51 info_prt rfl (by decide) (by rfl) wz.heap.size _ m _ (by rfl) HOW.out (some ⟨w6.drew.heap.size, 0, none⟩) 1 1 (pcs [(⟨2, ⟨#[]⟩, cp.n⟩ : Pt)]) (by rfl) rfl HCW.out (pcs_one _) (by unfold maxLen; omega) (by omega) (by simp; omega) ?_
                           intro v7 w7 hr7 hg7
                           obtain ⟨a7, c7, rfl, -⟩ := row_forms hr7
                           have HG7 : Hid (Grew w6 w7 (.slice av m cv) (.slice a7 (m + 1) c7)) := (Grew.ofAlloc hg7 : Grew w6.drew w7 (.slice av m cv) (.slice a7 (m + 1) c7)) |> fun h => ⟨⟨h.grown.os, h.grown.tape, h.grown.output, h.grown.size, h.grown.block⟩, h.place⟩
                           have HO7 : Hid (OwnP w7 wz.heap.size (.slice a7 (m + 1) c7) ((ov.take (m + 1)).map (partL t.fs false cs))) := by
                             unfold OwnP
                             rw [Hid, HLS.out, List.length_append, hml, pcs_append]
                             exact hr7
                           have HPB7 : Hid (w7.heap[wa.heap.size]? = some (.cells #[.slice av m cv, v1] 52)) := (HG7.out.grown.block _ (lt_blk HF6.out.pb) (fun e => row_ne HF6.out.o0 HF6.out.pb (by decide) e.symm)).trans HF6.out.pb
                           have pv7 : w7.cell? ⟨wa.heap.size, 0, none⟩ = some (.slice av m cv) := by rw [cell_blk HPB7.out]; rfl
                           have z7 : w7.frozen? ⟨wa.heap.size, 0, none⟩ = false := frozen_blk HPB7.out
                           have HF7 : Hid (Fo2 wz w3.heap.size w.heap.size wz.heap.size wa.heap.size #[.string t.n, .slice t.fa t.fs.length t.fc, .slice t.xa t.xs.length t.xc] #[.slice ca cs.length cc, .slice da ds.length dc] ⟨⟨xn, ov, u, false, false⟩, some ⟨ob, oo, none⟩, vc⟩ (.slice a7 (m + 1) c7) v1 ((ov.take (m + 1)).map (partL t.fs false cs)) [] (w7.setCell ⟨wa.heap.size, 0, none⟩ (.slice a7 (m + 1) c7))) := HF6.out.put0 HO7.out HG7.out
                           have HR7 : Hid ((w7.setCell ⟨wa.heap.size, 0, none⟩ (.slice a7 (m + 1) c7)).heap[wc.heap.size]? = some (.cells #[.slice ca cs.length cc] 24)) := box_put HF6.out.o0 HG7.out HR6.out HF6.out.pb (by decide) (by decide) _
                           clear hr7 hg7 HO7))
                    all_goals
                      go_wp2
                      go_roundw
                      case rel => exact ⟨m + 1, true, .slice a7 (m + 1) c7, by omega, by go_num, rfl, HLI2, HF7, HR7⟩
                      case measure => simp [intOf]; omega
                  | false =>
                    obtain ⟨w6, hw6⟩ : ∃ w6, w6 = (((wp.setCell ⟨wd.heap.size + 1, 0, none⟩ (.int .i64 2)).setCell ⟨wd.heap.size + 1, 1, none⟩ (.string ⟨#[]⟩)).setCell ⟨wd.heap.size + 1, 2, none⟩ (.int .u64 cp.n)) := ⟨_, rfl⟩
                    have HB6 : Hid (Below wd.heap.size wd w6) := by rw [hw6]; exact ((HBp.out.setCell (by show wd.heap.size ≤ wd.heap.size + 1; omega) _).setCell (by show wd.heap.size ≤ wd.heap.size + 1; omega) _).setCell (by show wd.heap.size ≤ wd.heap.size + 1; omega) _
                    have HP6 : Hid (w6.heap[wd.heap.size + 1]? = some (.cells #[.int .i64 2, .string ⟨#[]⟩, .int .u64 cp.n] 57)) := by rw [Hid, hw6]; exact set_blk (i := 2) (set_blk (i := 1) (set_blk (i := 0) HPp.out _) _) _

                    have HF6 : Hid (Fo2 wz w3.heap.size w.heap.size wz.heap.size wa.heap.size #[.string t.n, .slice t.fa t.fs.length t.fc, .slice t.xa t.xs.length t.xc] #[.slice ca cs.length cc, .slice da ds.length dc] ⟨⟨xn, ov, u, false, false⟩, some ⟨ob, oo, none⟩, vc⟩ v v1 ((ov.take m).map (partL t.fs false cs)) [] w6) := HF.out.below HB6.out
                    have HR6 : Hid (w6.heap[wc.heap.size]? = some (.cells #[.slice ca cs.length cc] 24)) := (HB6.out.block _ (lt_blk HR.out)).trans HR.out
                    have HLI2 : Hid (false = (false || hasL t.fs (ov.take (m + 1)))) := by rw [Hid, HHS.out, ← Bool.or_assoc, ← HLI.out]; simp
                    obtain ⟨av, cv, hvv⟩ := HF6.out.o0.shape
                    have hml : ((ov.take m).map (partL t.fs false cs)).length = m := by simp; omega
                    rw [hml] at hvv
                    subst hvv
                    go_upto_region 25 with fail
                    rw [← hw6]
                    clear hw6
                    have b0 : w6.cell? ⟨wd.heap.size + 1, 0, none⟩ = some (.int .i64 2) := by rw [cell_blk HP6.out]; rfl
                    have b1 : w6.cell? ⟨wd.heap.size + 1, 1, none⟩ = some (.string ⟨#[]⟩) := by rw [cell_blk HP6.out]; rfl
                    have b2 : w6.cell? ⟨wd.heap.size + 1, 2, none⟩ = some (.int .u64 cp.n) := by rw [cell_blk HP6.out]; rfl
                    have pv : w6.cell? ⟨wa.heap.size, 0, none⟩ = some (.slice av m cv) := by rw [cell_blk HF6.out.pb]; rfl
                    have hpa : wa.heap.size < w6.heap.size := lt_blk HF6.out.pb
                    have hB6 : wz.heap.size ≤ w6.heap.size := HF6.out.be.size
                    have HOW : Hid ((w6.drew.alloc (.cells #[.int .i64 2, .string ⟨#[]⟩, .int .u64 cp.n] 57)).ownsRow wz.heap.size 57 3 (.slice av m cv) m (pcs ((ov.take m).map (partL t.fs false cs)))) := by
                      have h := HF6.out.o0
                      unfold OwnP at h
                      rw [hml] at h
                      exact row_below h ((⟨rfl, rfl, rfl, Nat.le_refl _, fun _ _ => rfl⟩ : Below w6.heap.size w6 w6.drew).alloc (Nat.le_refl _) _)
                    have HCW : Hid (CellsAt (w6.drew.alloc (.cells #[.int .i64 2, .string ⟨#[]⟩, .int .u64 cp.n] 57)) (some ⟨w6.drew.heap.size, 0, none⟩) (pcs [(⟨2, ⟨#[]⟩, cp.n⟩ : Pt)])) := fun _ => ⟨_, _, rfl, fun q u hq => by rw [Nat.zero_add, cell_blk (new_blk _ _)]; simpa [pcs, Pt.cells] using hq⟩
                    go_region_law
                      (first
                        | (refine step_append_src _ (by rfl) (.tmp 111) (.tmp 113) 51 57 _ 3 32 Try.underlying51 info_prt rfl (by decide) (by rfl) wz.heap.size _ m _ (by rfl) HOW.out (some ⟨w6.drew.heap.size, 0, none⟩) 1 1 (pcs [(⟨2, ⟨#[]⟩, cp.n⟩ : Pt)]) (by rfl) rfl HCW.out (pcs_one _) (by unfold maxLen; omega) (by omega) (by simp; omega) ?_
                           intro v7 w7 hr7 hg7
                           obtain ⟨a7, c7, rfl, -⟩ := row_forms hr7
                           have HG7 : Hid (Grew w6 w7 (.slice av m cv) (.slice a7 (m + 1) c7)) := (Grew.ofAlloc hg7 : Grew w6.drew w7 (.slice av m cv) (.slice a7 (m + 1) c7)) |> fun h => ⟨⟨h.grown.os, h.grown.tape, h.grown.output, h.grown.size, h.grown.block⟩, h.place⟩
                           have HO7 : Hid (OwnP w7 wz.heap.size (.slice a7 (m + 1) c7) ((ov.take (m + 1)).map (partL t.fs false cs))) := by
                             unfold OwnP
                             rw [Hid, HLS.out, List.length_append, hml, pcs_append]
                             exact hr7
                           have HPB7 : Hid (w7.heap[wa.heap.size]? = some (.cells #[.slice av m cv, v1] 52)) := (HG7.out.grown.block _ (lt_blk HF6.out.pb) (fun e => row_ne HF6.out.o0 HF6.out.pb (by decide) e.symm)).trans HF6.out.pb
                           have pv7 : w7.cell? ⟨wa.heap.size, 0, none⟩ = some (.slice av m cv) := by rw [cell_blk HPB7.out]; rfl
                           have z7 : w7.frozen? ⟨wa.heap.size, 0, none⟩ = false := frozen_blk HPB7.out
                           have HF7 : Hid (Fo2 wz w3.heap.size w.heap.size wz.heap.size wa.heap.size #[.string t.n, .slice t.fa t.fs.length t.fc, .slice t.xa t.xs.length t.xc] #[.slice ca cs.length cc, .slice da ds.length dc] ⟨⟨xn, ov, u, false, false⟩, some ⟨ob, oo, none⟩, vc⟩ (.slice a7 (m + 1) c7) v1 ((ov.take (m + 1)).map (partL t.fs false cs)) [] (w7.setCell ⟨wa.heap.size, 0, none⟩ (.slice a7 (m + 1) c7))) := HF6.out.put0 HO7.out HG7.out
                           have HR7 : Hid ((w7.setCell ⟨wa.heap.size, 0, none⟩ (.slice a7 (m + 1) c7)).heap[wc.heap.size]? = some (.cells #[.slice ca cs.length cc] 24)) := box_put HF6.out.o0 HG7.out HR6.out HF6.out.pb (by decide) (by decide) _
                           clear hr7 hg7 HO7))
                    all_goals
                      go_wp2
                      go_roundw
                      case rel => exact ⟨m + 1, false, .slice a7 (m + 1) c7, by omega, by go_num, rfl, HLI2, HF7, HR7⟩
                      case measure => simp [intOf]; omega
                | true =>
                  cases li2 with
                  | true =>
                    obtain ⟨wq, hwq⟩ : ∃ wq, wq = (((wp.setCell ⟨wd.heap.size + 1, 0, none⟩ (.int .i64 2)).setCell ⟨wd.heap.size + 1, 1, none⟩ (.string ⟨#[]⟩)).setCell ⟨wd.heap.size + 1, 2, none⟩ (.int .u64 cp.n)) := ⟨_, rfl⟩
                    have HBq : Hid (Below wd.heap.size wd wq) := by rw [hwq]; exact ((HBp.out.setCell (by show wd.heap.size ≤ wd.heap.size + 1; omega) _).setCell (by show wd.heap.size ≤ wd.heap.size + 1; omega) _).setCell (by show wd.heap.size ≤ wd.heap.size + 1; omega) _
                    have HPq : Hid (wq.heap[wd.heap.size + 1]? = some (.cells #[.int .i64 2, .string ⟨#[]⟩, .int .u64 cp.n] 57)) := by rw [Hid, hwq]; exact set_blk (i := 2) (set_blk (i := 1) (set_blk (i := 0) HPp.out _) _) _
                    have HLW : Hid (Calls Try.prog 16 #[.string ⟨#[]⟩] wq fun e w' => e = .returned (.string (lowS ⟨#[]⟩)) ∧ Below wq.heap.size wq w') := low_calls ⟨#[]⟩ wq (by decide)
                    have x3q : wq.cell? ⟨wz.heap.size, 3, none⟩ = some (.bool true) := by rw [HBq.out.cell (by exact hlxd), ← HBp.out.cell (by exact hlxd)]; exact x3'
                    have g1q : wq.cell? ⟨wd.heap.size + 1, 1, none⟩ = some (.string ⟨#[]⟩) := by rw [cell_blk HPq.out]; rfl
                    go_upto_region 22 with fail
                    rw [← hwq]
                    clear hwq g0 g1 g2 y0 y1 y2
                    go_wp2_with fail
                    refine HLW.out.mono ?_
                    clear HLW
                    rintro e wl ⟨rfl, hbl⟩
                    have HBl : Hid (Below wd.heap.size wd wl) := HBq.out.trans (hbl.mono HBq.out.size)
                    have HPl : Hid (wl.heap[wd.heap.size + 1]? = some (.cells #[.int .i64 2, .string ⟨#[]⟩, .int .u64 cp.n] 57)) := (hbl.block _ (lt_blk HPq.out)).trans HPq.out
                    have g1l : wl.cell? ⟨wd.heap.size + 1, 1, none⟩ = some (.string ⟨#[]⟩) := by rw [cell_blk HPl.out]; rfl
                    have y1l : wl.frozen? ⟨wd.heap.size + 1, 1, none⟩ = false := frozen_blk HPl.out
                    have t1l : wl.cell? ⟨w3.heap.size, 1, none⟩ = some (.slice (some ⟨fb, fo, none⟩) t.fs.length t.fc) := by rw [HBl.out.cell (by exact hl3d), ← HBp.out.cell (by exact hl3d)]; exact t1'
                    have f1l : wl.cell? ⟨fb, fo + p * 2 + 1, none⟩ = some (.int .i64 2) := by rw [HBl.out.cell (by exact hfbd), ← HBp.out.cell (by exact hfbd)]; exact f1'
                    obtain ⟨w6, hw6⟩ : ∃ w6, w6 = wl.setCell ⟨wd.heap.size + 1, 1, none⟩ (.string (lowS ⟨#[]⟩)) := ⟨_, rfl⟩
                    have HB6 : Hid (Below wd.heap.size wd w6) := by rw [hw6]; exact HBl.out.setCell (by show wd.heap.size ≤ wd.heap.size + 1; omega) _
                    have HP6 : Hid (w6.heap[wd.heap.size + 1]? = some (.cells #[.int .i64 2, .string (lowS ⟨#[]⟩), .int .u64 cp.n] 57)) := by rw [Hid, hw6]; exact set_blk (i := 1) HPl.out _
                    clear hbl

                    have HF6 : Hid (Fo2 wz w3.heap.size w.heap.size wz.heap.size wa.heap.size #[.string t.n, .slice t.fa t.fs.length t.fc, .slice t.xa t.xs.length t.xc] #[.slice ca cs.length cc, .slice da ds.length dc] ⟨⟨xn, ov, u, true, false⟩, some ⟨ob, oo, none⟩, vc⟩ v v1 ((ov.take m).map (partL t.fs true cs)) [] w6) := HF.out.below HB6.out
                    have HR6 : Hid (w6.heap[wc.heap.size]? = some (.cells #[.slice ca cs.length cc] 24)) := (HB6.out.block _ (lt_blk HR.out)).trans HR.out
                    have HLI2 : Hid (true = (false || hasL t.fs (ov.take (m + 1)))) := by rw [Hid, HHS.out, ← Bool.or_assoc, ← HLI.out]; simp
                    obtain ⟨av, cv, hvv⟩ := HF6.out.o0.shape
                    have hml : ((ov.take m).map (partL t.fs true cs)).length = m := by simp; omega
                    rw [hml] at hvv
                    subst hvv
                    go_upto_region 25 with fail
                    rw [← hw6]
                    clear hw6
                    have b0 : w6.cell? ⟨wd.heap.size + 1, 0, none⟩ = some (.int .i64 2) := by rw [cell_blk HP6.out]; rfl
                    have b1 : w6.cell? ⟨wd.heap.size + 1, 1, none⟩ = some (.string (lowS ⟨#[]⟩)) := by rw [cell_blk HP6.out]; rfl
                    have b2 : w6.cell? ⟨wd.heap.size + 1, 2, none⟩ = some (.int .u64 cp.n) := by rw [cell_blk HP6.out]; rfl
                    have pv : w6.cell? ⟨wa.heap.size, 0, none⟩ = some (.slice av m cv) := by rw [cell_blk HF6.out.pb]; rfl
                    have hpa : wa.heap.size < w6.heap.size := lt_blk HF6.out.pb
                    have hB6 : wz.heap.size ≤ w6.heap.size := HF6.out.be.size
                    have HOW : Hid ((w6.drew.alloc (.cells #[.int .i64 2, .string (lowS ⟨#[]⟩), .int .u64 cp.n] 57)).ownsRow wz.heap.size 57 3 (.slice av m cv) m (pcs ((ov.take m).map (partL t.fs true cs)))) := by
                      have h := HF6.out.o0
                      unfold OwnP at h
                      rw [hml] at h
                      exact row_below h ((⟨rfl, rfl, rfl, Nat.le_refl _, fun _ _ => rfl⟩ : Below w6.heap.size w6 w6.drew).alloc (Nat.le_refl _) _)
                    have HCW : Hid (CellsAt (w6.drew.alloc (.cells #[.int .i64 2, .string (lowS ⟨#[]⟩), .int .u64 cp.n] 57)) (some ⟨w6.drew.heap.size, 0, none⟩) (pcs [(⟨2, lowS ⟨#[]⟩, cp.n⟩ : Pt)])) := fun _ => ⟨_, _, rfl, fun q u hq => by rw [Nat.zero_add, cell_blk (new_blk _ _)]; simpa [pcs, Pt.cells] using hq⟩
                    go_region_law
                      (first
                        | (refine step_append_src _ (by rfl) (.tmp 111) (.tmp 113) 51 57 _ 3 32 Try.underlying51 info_prt rfl (by decide) (by rfl) wz.heap.size _ m _ (by rfl) HOW.out (some ⟨w6.drew.heap.size, 0, none⟩) 1 1 (pcs [(⟨2, lowS ⟨#[]⟩, cp.n⟩ : Pt)]) (by rfl) rfl HCW.out (pcs_one _) (by unfold maxLen; omega) (by omega) (by simp; omega) ?_
                           intro v7 w7 hr7 hg7
                           obtain ⟨a7, c7, rfl, -⟩ := row_forms hr7
                           have HG7 : Hid (Grew w6 w7 (.slice av m cv) (.slice a7 (m + 1) c7)) := (Grew.ofAlloc hg7 : Grew w6.drew w7 (.slice av m cv) (.slice a7 (m + 1) c7)) |> fun h => ⟨⟨h.grown.os, h.grown.tape, h.grown.output, h.grown.size, h.grown.block⟩, h.place⟩
                           have HO7 : Hid (OwnP w7 wz.heap.size (.slice a7 (m + 1) c7) ((ov.take (m + 1)).map (partL t.fs true cs))) := by
                             unfold OwnP
                             rw [Hid, HLS.out, List.length_append, hml, pcs_append]
                             exact hr7
                           have HPB7 : Hid (w7.heap[wa.heap.size]? = some (.cells #[.slice av m cv, v1] 52)) := (HG7.out.grown.block _ (lt_blk HF6.out.pb) (fun e => row_ne HF6.out.o0 HF6.out.pb (by decide) e.symm)).trans HF6.out.pb
                           have pv7 : w7.cell? ⟨wa.heap.size, 0, none⟩ = some (.slice av m cv) := by rw [cell_blk HPB7.out]; rfl
                           have z7 : w7.frozen? ⟨wa.heap.size, 0, none⟩ = false := frozen_blk HPB7.out
                           have HF7 : Hid (Fo2 wz w3.heap.size w.heap.size wz.heap.size wa.heap.size #[.string t.n, .slice t.fa t.fs.length t.fc, .slice t.xa t.xs.length t.xc] #[.slice ca cs.length cc, .slice da ds.length dc] ⟨⟨xn, ov, u, true, false⟩, some ⟨ob, oo, none⟩, vc⟩ (.slice a7 (m + 1) c7) v1 ((ov.take (m + 1)).map (partL t.fs true cs)) [] (w7.setCell ⟨wa.heap.size, 0, none⟩ (.slice a7 (m + 1) c7))) := HF6.out.put0 HO7.out HG7.out
                           have HR7 : Hid ((w7.setCell ⟨wa.heap.size, 0, none⟩ (.slice a7 (m + 1) c7)).heap[wc.heap.size]? = some (.cells #[.slice ca cs.length cc] 24)) := box_put HF6.out.o0 HG7.out HR6.out HF6.out.pb (by decide) (by decide) _
                           clear hr7 hg7 HO7))
                    all_goals
                      go_wp2
                      go_roundw
                      case rel => exact ⟨m + 1, true, .slice a7 (m + 1) c7, by omega, by go_num, rfl, HLI2, HF7, HR7⟩
                      case measure => simp [intOf]; omega
                  | false =>
                    obtain ⟨wq, hwq⟩ : ∃ wq, wq = (((wp.setCell ⟨wd.heap.size + 1, 0, none⟩ (.int .i64 2)).setCell ⟨wd.heap.size + 1, 1, none⟩ (.string ⟨#[]⟩)).setCell ⟨wd.heap.size + 1, 2, none⟩ (.int .u64 cp.n)) := ⟨_, rfl⟩
                    have HBq : Hid (Below wd.heap.size wd wq) := by rw [hwq]; exact ((HBp.out.setCell (by show wd.heap.size ≤ wd.heap.size + 1; omega) _).setCell (by show wd.heap.size ≤ wd.heap.size + 1; omega) _).setCell (by show wd.heap.size ≤ wd.heap.size + 1; omega) _
                    have HPq : Hid (wq.heap[wd.heap.size + 1]? = some (.cells #[.int .i64 2, .string ⟨#[]⟩, .int .u64 cp.n] 57)) := by rw [Hid, hwq]; exact set_blk (i := 2) (set_blk (i := 1) (set_blk (i := 0) HPp.out _) _) _
                    have HLW : Hid (Calls Try.prog 16 #[.string ⟨#[]⟩] wq fun e w' => e = .returned (.string (lowS ⟨#[]⟩)) ∧ Below wq.heap.size wq w') := low_calls ⟨#[]⟩ wq (by decide)
                    have x3q : wq.cell? ⟨wz.heap.size, 3, none⟩ = some (.bool true) := by rw [HBq.out.cell (by exact hlxd), ← HBp.out.cell (by exact hlxd)]; exact x3'
                    have g1q : wq.cell? ⟨wd.heap.size + 1, 1, none⟩ = some (.string ⟨#[]⟩) := by rw [cell_blk HPq.out]; rfl
                    go_upto_region 22 with fail
                    rw [← hwq]
                    clear hwq g0 g1 g2 y0 y1 y2
                    go_wp2_with fail
                    refine HLW.out.mono ?_
                    clear HLW
                    rintro e wl ⟨rfl, hbl⟩
                    have HBl : Hid (Below wd.heap.size wd wl) := HBq.out.trans (hbl.mono HBq.out.size)
                    have HPl : Hid (wl.heap[wd.heap.size + 1]? = some (.cells #[.int .i64 2, .string ⟨#[]⟩, .int .u64 cp.n] 57)) := (hbl.block _ (lt_blk HPq.out)).trans HPq.out
                    have g1l : wl.cell? ⟨wd.heap.size + 1, 1, none⟩ = some (.string ⟨#[]⟩) := by rw [cell_blk HPl.out]; rfl
                    have y1l : wl.frozen? ⟨wd.heap.size + 1, 1, none⟩ = false := frozen_blk HPl.out
                    have t1l : wl.cell? ⟨w3.heap.size, 1, none⟩ = some (.slice (some ⟨fb, fo, none⟩) t.fs.length t.fc) := by rw [HBl.out.cell (by exact hl3d), ← HBp.out.cell (by exact hl3d)]; exact t1'
                    have f1l : wl.cell? ⟨fb, fo + p * 2 + 1, none⟩ = some (.int .i64 2) := by rw [HBl.out.cell (by exact hfbd), ← HBp.out.cell (by exact hfbd)]; exact f1'
                    obtain ⟨w6, hw6⟩ : ∃ w6, w6 = wl.setCell ⟨wd.heap.size + 1, 1, none⟩ (.string (lowS ⟨#[]⟩)) := ⟨_, rfl⟩
                    have HB6 : Hid (Below wd.heap.size wd w6) := by rw [hw6]; exact HBl.out.setCell (by show wd.heap.size ≤ wd.heap.size + 1; omega) _
                    have HP6 : Hid (w6.heap[wd.heap.size + 1]? = some (.cells #[.int .i64 2, .string (lowS ⟨#[]⟩), .int .u64 cp.n] 57)) := by rw [Hid, hw6]; exact set_blk (i := 1) HPl.out _
                    clear hbl

                    have HF6 : Hid (Fo2 wz w3.heap.size w.heap.size wz.heap.size wa.heap.size #[.string t.n, .slice t.fa t.fs.length t.fc, .slice t.xa t.xs.length t.xc] #[.slice ca cs.length cc, .slice da ds.length dc] ⟨⟨xn, ov, u, true, false⟩, some ⟨ob, oo, none⟩, vc⟩ v v1 ((ov.take m).map (partL t.fs true cs)) [] w6) := HF.out.below HB6.out
                    have HR6 : Hid (w6.heap[wc.heap.size]? = some (.cells #[.slice ca cs.length cc] 24)) := (HB6.out.block _ (lt_blk HR.out)).trans HR.out
                    have HLI2 : Hid (false = (false || hasL t.fs (ov.take (m + 1)))) := by rw [Hid, HHS.out, ← Bool.or_assoc, ← HLI.out]; simp
                    obtain ⟨av, cv, hvv⟩ := HF6.out.o0.shape
                    have hml : ((ov.take m).map (partL t.fs true cs)).length = m := by simp; omega
                    rw [hml] at hvv
                    subst hvv
                    go_upto_region 25 with fail
                    rw [← hw6]
                    clear hw6
                    have b0 : w6.cell? ⟨wd.heap.size + 1, 0, none⟩ = some (.int .i64 2) := by rw [cell_blk HP6.out]; rfl
                    have b1 : w6.cell? ⟨wd.heap.size + 1, 1, none⟩ = some (.string (lowS ⟨#[]⟩)) := by rw [cell_blk HP6.out]; rfl
                    have b2 : w6.cell? ⟨wd.heap.size + 1, 2, none⟩ = some (.int .u64 cp.n) := by rw [cell_blk HP6.out]; rfl
                    have pv : w6.cell? ⟨wa.heap.size, 0, none⟩ = some (.slice av m cv) := by rw [cell_blk HF6.out.pb]; rfl
                    have hpa : wa.heap.size < w6.heap.size := lt_blk HF6.out.pb
                    have hB6 : wz.heap.size ≤ w6.heap.size := HF6.out.be.size
                    have HOW : Hid ((w6.drew.alloc (.cells #[.int .i64 2, .string (lowS ⟨#[]⟩), .int .u64 cp.n] 57)).ownsRow wz.heap.size 57 3 (.slice av m cv) m (pcs ((ov.take m).map (partL t.fs true cs)))) := by
                      have h := HF6.out.o0
                      unfold OwnP at h
                      rw [hml] at h
                      exact row_below h ((⟨rfl, rfl, rfl, Nat.le_refl _, fun _ _ => rfl⟩ : Below w6.heap.size w6 w6.drew).alloc (Nat.le_refl _) _)
                    have HCW : Hid (CellsAt (w6.drew.alloc (.cells #[.int .i64 2, .string (lowS ⟨#[]⟩), .int .u64 cp.n] 57)) (some ⟨w6.drew.heap.size, 0, none⟩) (pcs [(⟨2, lowS ⟨#[]⟩, cp.n⟩ : Pt)])) := fun _ => ⟨_, _, rfl, fun q u hq => by rw [Nat.zero_add, cell_blk (new_blk _ _)]; simpa [pcs, Pt.cells] using hq⟩
                    go_region_law
                      (first
                        | (refine step_append_src _ (by rfl) (.tmp 111) (.tmp 113) 51 57 _ 3 32 Try.underlying51 info_prt rfl (by decide) (by rfl) wz.heap.size _ m _ (by rfl) HOW.out (some ⟨w6.drew.heap.size, 0, none⟩) 1 1 (pcs [(⟨2, lowS ⟨#[]⟩, cp.n⟩ : Pt)]) (by rfl) rfl HCW.out (pcs_one _) (by unfold maxLen; omega) (by omega) (by simp; omega) ?_
                           intro v7 w7 hr7 hg7
                           obtain ⟨a7, c7, rfl, -⟩ := row_forms hr7
                           have HG7 : Hid (Grew w6 w7 (.slice av m cv) (.slice a7 (m + 1) c7)) := (Grew.ofAlloc hg7 : Grew w6.drew w7 (.slice av m cv) (.slice a7 (m + 1) c7)) |> fun h => ⟨⟨h.grown.os, h.grown.tape, h.grown.output, h.grown.size, h.grown.block⟩, h.place⟩
                           have HO7 : Hid (OwnP w7 wz.heap.size (.slice a7 (m + 1) c7) ((ov.take (m + 1)).map (partL t.fs true cs))) := by
                             unfold OwnP
                             rw [Hid, HLS.out, List.length_append, hml, pcs_append]
                             exact hr7
                           have HPB7 : Hid (w7.heap[wa.heap.size]? = some (.cells #[.slice av m cv, v1] 52)) := (HG7.out.grown.block _ (lt_blk HF6.out.pb) (fun e => row_ne HF6.out.o0 HF6.out.pb (by decide) e.symm)).trans HF6.out.pb
                           have pv7 : w7.cell? ⟨wa.heap.size, 0, none⟩ = some (.slice av m cv) := by rw [cell_blk HPB7.out]; rfl
                           have z7 : w7.frozen? ⟨wa.heap.size, 0, none⟩ = false := frozen_blk HPB7.out
                           have HF7 : Hid (Fo2 wz w3.heap.size w.heap.size wz.heap.size wa.heap.size #[.string t.n, .slice t.fa t.fs.length t.fc, .slice t.xa t.xs.length t.xc] #[.slice ca cs.length cc, .slice da ds.length dc] ⟨⟨xn, ov, u, true, false⟩, some ⟨ob, oo, none⟩, vc⟩ (.slice a7 (m + 1) c7) v1 ((ov.take (m + 1)).map (partL t.fs true cs)) [] (w7.setCell ⟨wa.heap.size, 0, none⟩ (.slice a7 (m + 1) c7))) := HF6.out.put0 HO7.out HG7.out
                           have HR7 : Hid ((w7.setCell ⟨wa.heap.size, 0, none⟩ (.slice a7 (m + 1) c7)).heap[wc.heap.size]? = some (.cells #[.slice ca cs.length cc] 24)) := box_put HF6.out.o0 HG7.out HR6.out HF6.out.pb (by decide) (by decide) _
                           clear hr7 hg7 HO7))
                    all_goals
                      go_wp2
                      go_roundw
                      case rel => exact ⟨m + 1, false, .slice a7 (m + 1) c7, by omega, by go_num, rfl, HLI2, HF7, HR7⟩
                      case measure => simp [intOf]; omega
              · rw [if_neg hk2] at HLS
                have z2 : (kk == 2) = false := by simpa using hk2
                cases l with
                | false =>
                  cases li2 with
                  | true =>
                    obtain ⟨w6, hw6⟩ : ∃ w6, w6 = wp := ⟨_, rfl⟩
                    have HB6 : Hid (Below wd.heap.size wd w6) := by rw [hw6]; exact HBp.out
                    have HP6 : Hid (w6.heap[wd.heap.size + 1]? = some (.cells #[.int .i64 1, .string cp.t, .int .u64 0] 57)) := by rw [Hid, hw6]; exact HPp.out

                    have HF6 : Hid (Fo2 wz w3.heap.size w.heap.size wz.heap.size wa.heap.size #[.string t.n, .slice t.fa t.fs.length t.fc, .slice t.xa t.xs.length t.xc] #[.slice ca cs.length cc, .slice da ds.length dc] ⟨⟨xn, ov, u, false, false⟩, some ⟨ob, oo, none⟩, vc⟩ v v1 ((ov.take m).map (partL t.fs false cs)) [] w6) := HF.out.below HB6.out
                    have HR6 : Hid (w6.heap[wc.heap.size]? = some (.cells #[.slice ca cs.length cc] 24)) := (HB6.out.block _ (lt_blk HR.out)).trans HR.out
                    have HLI2 : Hid (true = (false || hasL t.fs (ov.take (m + 1)))) := by rw [Hid, HHS.out, ← Bool.or_assoc, ← HLI.out]; simp
                    obtain ⟨av, cv, hvv⟩ := HF6.out.o0.shape
                    have hml : ((ov.take m).map (partL t.fs false cs)).length = m := by simp; omega
                    rw [hml] at hvv
                    subst hvv
                    go_upto_region 25 with fail
                    rw [← hw6]
                    clear hw6
                    have b0 : w6.cell? ⟨wd.heap.size + 1, 0, none⟩ = some (.int .i64 1) := by rw [cell_blk HP6.out]; rfl
                    have b1 : w6.cell? ⟨wd.heap.size + 1, 1, none⟩ = some (.string cp.t) := by rw [cell_blk HP6.out]; rfl
                    have b2 : w6.cell? ⟨wd.heap.size + 1, 2, none⟩ = some (.int .u64 0) := by rw [cell_blk HP6.out]; rfl
                    have pv : w6.cell? ⟨wa.heap.size, 0, none⟩ = some (.slice av m cv) := by rw [cell_blk HF6.out.pb]; rfl
                    have hpa : wa.heap.size < w6.heap.size := lt_blk HF6.out.pb
                    have hB6 : wz.heap.size ≤ w6.heap.size := HF6.out.be.size
                    have HOW : Hid ((w6.drew.alloc (.cells #[.int .i64 1, .string cp.t, .int .u64 0] 57)).ownsRow wz.heap.size 57 3 (.slice av m cv) m (pcs ((ov.take m).map (partL t.fs false cs)))) := by
                      have h := HF6.out.o0
                      unfold OwnP at h
                      rw [hml] at h
                      exact row_below h ((⟨rfl, rfl, rfl, Nat.le_refl _, fun _ _ => rfl⟩ : Below w6.heap.size w6 w6.drew).alloc (Nat.le_refl _) _)
                    have HCW : Hid (CellsAt (w6.drew.alloc (.cells #[.int .i64 1, .string cp.t, .int .u64 0] 57)) (some ⟨w6.drew.heap.size, 0, none⟩) (pcs [(⟨1, cp.t, 0⟩ : Pt)])) := fun _ => ⟨_, _, rfl, fun q u hq => by rw [Nat.zero_add, cell_blk (new_blk _ _)]; simpa [pcs, Pt.cells] using hq⟩
                    go_region_law
                      (first
                        | (refine step_append_src _ (by rfl) (.tmp 111) (.tmp 113) 51 57 _ 3 32 Try.underlying51 info_prt rfl (by decide) (by rfl) wz.heap.size _ m _ (by rfl) HOW.out (some ⟨w6.drew.heap.size, 0, none⟩) 1 1 (pcs [(⟨1, cp.t, 0⟩ : Pt)]) (by rfl) rfl HCW.out (pcs_one _) (by unfold maxLen; omega) (by omega) (by simp; omega) ?_
                           intro v7 w7 hr7 hg7
                           obtain ⟨a7, c7, rfl, -⟩ := row_forms hr7
                           have HG7 : Hid (Grew w6 w7 (.slice av m cv) (.slice a7 (m + 1) c7)) := (Grew.ofAlloc hg7 : Grew w6.drew w7 (.slice av m cv) (.slice a7 (m + 1) c7)) |> fun h => ⟨⟨h.grown.os, h.grown.tape, h.grown.output, h.grown.size, h.grown.block⟩, h.place⟩
                           have HO7 : Hid (OwnP w7 wz.heap.size (.slice a7 (m + 1) c7) ((ov.take (m + 1)).map (partL t.fs false cs))) := by
                             unfold OwnP
                             rw [Hid, HLS.out, List.length_append, hml, pcs_append]
                             exact hr7
                           have HPB7 : Hid (w7.heap[wa.heap.size]? = some (.cells #[.slice av m cv, v1] 52)) := (HG7.out.grown.block _ (lt_blk HF6.out.pb) (fun e => row_ne HF6.out.o0 HF6.out.pb (by decide) e.symm)).trans HF6.out.pb
                           have pv7 : w7.cell? ⟨wa.heap.size, 0, none⟩ = some (.slice av m cv) := by rw [cell_blk HPB7.out]; rfl
                           have z7 : w7.frozen? ⟨wa.heap.size, 0, none⟩ = false := frozen_blk HPB7.out
                           have HF7 : Hid (Fo2 wz w3.heap.size w.heap.size wz.heap.size wa.heap.size #[.string t.n, .slice t.fa t.fs.length t.fc, .slice t.xa t.xs.length t.xc] #[.slice ca cs.length cc, .slice da ds.length dc] ⟨⟨xn, ov, u, false, false⟩, some ⟨ob, oo, none⟩, vc⟩ (.slice a7 (m + 1) c7) v1 ((ov.take (m + 1)).map (partL t.fs false cs)) [] (w7.setCell ⟨wa.heap.size, 0, none⟩ (.slice a7 (m + 1) c7))) := HF6.out.put0 HO7.out HG7.out
                           have HR7 : Hid ((w7.setCell ⟨wa.heap.size, 0, none⟩ (.slice a7 (m + 1) c7)).heap[wc.heap.size]? = some (.cells #[.slice ca cs.length cc] 24)) := box_put HF6.out.o0 HG7.out HR6.out HF6.out.pb (by decide) (by decide) _
                           clear hr7 hg7 HO7))
                    all_goals
                      go_wp2
                      go_roundw
                      case rel => exact ⟨m + 1, true, .slice a7 (m + 1) c7, by omega, by go_num, rfl, HLI2, HF7, HR7⟩
                      case measure => simp [intOf]; omega
                  | false =>
                    obtain ⟨w6, hw6⟩ : ∃ w6, w6 = wp := ⟨_, rfl⟩
                    have HB6 : Hid (Below wd.heap.size wd w6) := by rw [hw6]; exact HBp.out
                    have HP6 : Hid (w6.heap[wd.heap.size + 1]? = some (.cells #[.int .i64 1, .string cp.t, .int .u64 0] 57)) := by rw [Hid, hw6]; exact HPp.out

                    have HF6 : Hid (Fo2 wz w3.heap.size w.heap.size wz.heap.size wa.heap.size #[.string t.n, .slice t.fa t.fs.length t.fc, .slice t.xa t.xs.length t.xc] #[.slice ca cs.length cc, .slice da ds.length dc] ⟨⟨xn, ov, u, false, false⟩, some ⟨ob, oo, none⟩, vc⟩ v v1 ((ov.take m).map (partL t.fs false cs)) [] w6) := HF.out.below HB6.out
                    have HR6 : Hid (w6.heap[wc.heap.size]? = some (.cells #[.slice ca cs.length cc] 24)) := (HB6.out.block _ (lt_blk HR.out)).trans HR.out
                    have HLI2 : Hid ((kk == 3) = (false || hasL t.fs (ov.take (m + 1)))) := by rw [Hid, HHS.out, ← Bool.or_assoc, ← HLI.out]; simp
                    obtain ⟨av, cv, hvv⟩ := HF6.out.o0.shape
                    have hml : ((ov.take m).map (partL t.fs false cs)).length = m := by simp; omega
                    rw [hml] at hvv
                    subst hvv
                    go_upto_region 25 with fail
                    rw [← hw6]
                    clear hw6
                    have b0 : w6.cell? ⟨wd.heap.size + 1, 0, none⟩ = some (.int .i64 1) := by rw [cell_blk HP6.out]; rfl
                    have b1 : w6.cell? ⟨wd.heap.size + 1, 1, none⟩ = some (.string cp.t) := by rw [cell_blk HP6.out]; rfl
                    have b2 : w6.cell? ⟨wd.heap.size + 1, 2, none⟩ = some (.int .u64 0) := by rw [cell_blk HP6.out]; rfl
                    have pv : w6.cell? ⟨wa.heap.size, 0, none⟩ = some (.slice av m cv) := by rw [cell_blk HF6.out.pb]; rfl
                    have hpa : wa.heap.size < w6.heap.size := lt_blk HF6.out.pb
                    have hB6 : wz.heap.size ≤ w6.heap.size := HF6.out.be.size
                    have HOW : Hid ((w6.drew.alloc (.cells #[.int .i64 1, .string cp.t, .int .u64 0] 57)).ownsRow wz.heap.size 57 3 (.slice av m cv) m (pcs ((ov.take m).map (partL t.fs false cs)))) := by
                      have h := HF6.out.o0
                      unfold OwnP at h
                      rw [hml] at h
                      exact row_below h ((⟨rfl, rfl, rfl, Nat.le_refl _, fun _ _ => rfl⟩ : Below w6.heap.size w6 w6.drew).alloc (Nat.le_refl _) _)
                    have HCW : Hid (CellsAt (w6.drew.alloc (.cells #[.int .i64 1, .string cp.t, .int .u64 0] 57)) (some ⟨w6.drew.heap.size, 0, none⟩) (pcs [(⟨1, cp.t, 0⟩ : Pt)])) := fun _ => ⟨_, _, rfl, fun q u hq => by rw [Nat.zero_add, cell_blk (new_blk _ _)]; simpa [pcs, Pt.cells] using hq⟩
                    go_region_law
                      (first
                        | (refine step_append_src _ (by rfl) (.tmp 111) (.tmp 113) 51 57 _ 3 32 Try.underlying51 info_prt rfl (by decide) (by rfl) wz.heap.size _ m _ (by rfl) HOW.out (some ⟨w6.drew.heap.size, 0, none⟩) 1 1 (pcs [(⟨1, cp.t, 0⟩ : Pt)]) (by rfl) rfl HCW.out (pcs_one _) (by unfold maxLen; omega) (by omega) (by simp; omega) ?_
                           intro v7 w7 hr7 hg7
                           obtain ⟨a7, c7, rfl, -⟩ := row_forms hr7
                           have HG7 : Hid (Grew w6 w7 (.slice av m cv) (.slice a7 (m + 1) c7)) := (Grew.ofAlloc hg7 : Grew w6.drew w7 (.slice av m cv) (.slice a7 (m + 1) c7)) |> fun h => ⟨⟨h.grown.os, h.grown.tape, h.grown.output, h.grown.size, h.grown.block⟩, h.place⟩
                           have HO7 : Hid (OwnP w7 wz.heap.size (.slice a7 (m + 1) c7) ((ov.take (m + 1)).map (partL t.fs false cs))) := by
                             unfold OwnP
                             rw [Hid, HLS.out, List.length_append, hml, pcs_append]
                             exact hr7
                           have HPB7 : Hid (w7.heap[wa.heap.size]? = some (.cells #[.slice av m cv, v1] 52)) := (HG7.out.grown.block _ (lt_blk HF6.out.pb) (fun e => row_ne HF6.out.o0 HF6.out.pb (by decide) e.symm)).trans HF6.out.pb
                           have pv7 : w7.cell? ⟨wa.heap.size, 0, none⟩ = some (.slice av m cv) := by rw [cell_blk HPB7.out]; rfl
                           have z7 : w7.frozen? ⟨wa.heap.size, 0, none⟩ = false := frozen_blk HPB7.out
                           have HF7 : Hid (Fo2 wz w3.heap.size w.heap.size wz.heap.size wa.heap.size #[.string t.n, .slice t.fa t.fs.length t.fc, .slice t.xa t.xs.length t.xc] #[.slice ca cs.length cc, .slice da ds.length dc] ⟨⟨xn, ov, u, false, false⟩, some ⟨ob, oo, none⟩, vc⟩ (.slice a7 (m + 1) c7) v1 ((ov.take (m + 1)).map (partL t.fs false cs)) [] (w7.setCell ⟨wa.heap.size, 0, none⟩ (.slice a7 (m + 1) c7))) := HF6.out.put0 HO7.out HG7.out
                           have HR7 : Hid ((w7.setCell ⟨wa.heap.size, 0, none⟩ (.slice a7 (m + 1) c7)).heap[wc.heap.size]? = some (.cells #[.slice ca cs.length cc] 24)) := box_put HF6.out.o0 HG7.out HR6.out HF6.out.pb (by decide) (by decide) _
                           clear hr7 hg7 HO7))
                    all_goals
                      go_wp2
                      go_roundw
                      case rel => exact ⟨m + 1, (kk == 3), .slice a7 (m + 1) c7, by omega, by go_num, rfl, HLI2, HF7, HR7⟩
                      case measure => simp [intOf]; omega
                | true =>
                  cases li2 with
                  | true =>
                    obtain ⟨wq, hwq⟩ : ∃ wq, wq = wp := ⟨_, rfl⟩
                    have HBq : Hid (Below wd.heap.size wd wq) := by rw [hwq]; exact HBp.out
                    have HPq : Hid (wq.heap[wd.heap.size + 1]? = some (.cells #[.int .i64 1, .string cp.t, .int .u64 0] 57)) := by rw [Hid, hwq]; exact HPp.out
                    have HLW : Hid (Calls Try.prog 16 #[.string cp.t] wq fun e w' => e = .returned (.string (lowS cp.t)) ∧ Below wq.heap.size wq w') := low_calls cp.t wq (by have := HWP.out.1; omega)
                    have x3q : wq.cell? ⟨wz.heap.size, 3, none⟩ = some (.bool true) := by rw [HBq.out.cell (by exact hlxd), ← HBp.out.cell (by exact hlxd)]; exact x3'
                    have g1q : wq.cell? ⟨wd.heap.size + 1, 1, none⟩ = some (.string cp.t) := by rw [cell_blk HPq.out]; rfl
                    go_upto_region 22 with fail
                    rw [← hwq]
                    clear hwq g0 g1 g2 y0 y1 y2
                    go_wp2_with fail
                    refine HLW.out.mono ?_
                    clear HLW
                    rintro e wl ⟨rfl, hbl⟩
                    have HBl : Hid (Below wd.heap.size wd wl) := HBq.out.trans (hbl.mono HBq.out.size)
                    have HPl : Hid (wl.heap[wd.heap.size + 1]? = some (.cells #[.int .i64 1, .string cp.t, .int .u64 0] 57)) := (hbl.block _ (lt_blk HPq.out)).trans HPq.out
                    have g1l : wl.cell? ⟨wd.heap.size + 1, 1, none⟩ = some (.string cp.t) := by rw [cell_blk HPl.out]; rfl
                    have y1l : wl.frozen? ⟨wd.heap.size + 1, 1, none⟩ = false := frozen_blk HPl.out
                    have t1l : wl.cell? ⟨w3.heap.size, 1, none⟩ = some (.slice (some ⟨fb, fo, none⟩) t.fs.length t.fc) := by rw [HBl.out.cell (by exact hl3d), ← HBp.out.cell (by exact hl3d)]; exact t1'
                    have f1l : wl.cell? ⟨fb, fo + p * 2 + 1, none⟩ = some (.int .i64 kk) := by rw [HBl.out.cell (by exact hfbd), ← HBp.out.cell (by exact hfbd)]; exact f1'
                    obtain ⟨w6, hw6⟩ : ∃ w6, w6 = wl.setCell ⟨wd.heap.size + 1, 1, none⟩ (.string (lowS cp.t)) := ⟨_, rfl⟩
                    have HB6 : Hid (Below wd.heap.size wd w6) := by rw [hw6]; exact HBl.out.setCell (by show wd.heap.size ≤ wd.heap.size + 1; omega) _
                    have HP6 : Hid (w6.heap[wd.heap.size + 1]? = some (.cells #[.int .i64 1, .string (lowS cp.t), .int .u64 0] 57)) := by rw [Hid, hw6]; exact set_blk (i := 1) HPl.out _
                    clear hbl

                    have HF6 : Hid (Fo2 wz w3.heap.size w.heap.size wz.heap.size wa.heap.size #[.string t.n, .slice t.fa t.fs.length t.fc, .slice t.xa t.xs.length t.xc] #[.slice ca cs.length cc, .slice da ds.length dc] ⟨⟨xn, ov, u, true, false⟩, some ⟨ob, oo, none⟩, vc⟩ v v1 ((ov.take m).map (partL t.fs true cs)) [] w6) := HF.out.below HB6.out
                    have HR6 : Hid (w6.heap[wc.heap.size]? = some (.cells #[.slice ca cs.length cc] 24)) := (HB6.out.block _ (lt_blk HR.out)).trans HR.out
                    have HLI2 : Hid (true = (false || hasL t.fs (ov.take (m + 1)))) := by rw [Hid, HHS.out, ← Bool.or_assoc, ← HLI.out]; simp
                    obtain ⟨av, cv, hvv⟩ := HF6.out.o0.shape
                    have hml : ((ov.take m).map (partL t.fs true cs)).length = m := by simp; omega
                    rw [hml] at hvv
                    subst hvv
                    go_upto_region 25 with fail
                    rw [← hw6]
                    clear hw6
                    have b0 : w6.cell? ⟨wd.heap.size + 1, 0, none⟩ = some (.int .i64 1) := by rw [cell_blk HP6.out]; rfl
                    have b1 : w6.cell? ⟨wd.heap.size + 1, 1, none⟩ = some (.string (lowS cp.t)) := by rw [cell_blk HP6.out]; rfl
                    have b2 : w6.cell? ⟨wd.heap.size + 1, 2, none⟩ = some (.int .u64 0) := by rw [cell_blk HP6.out]; rfl
                    have pv : w6.cell? ⟨wa.heap.size, 0, none⟩ = some (.slice av m cv) := by rw [cell_blk HF6.out.pb]; rfl
                    have hpa : wa.heap.size < w6.heap.size := lt_blk HF6.out.pb
                    have hB6 : wz.heap.size ≤ w6.heap.size := HF6.out.be.size
                    have HOW : Hid ((w6.drew.alloc (.cells #[.int .i64 1, .string (lowS cp.t), .int .u64 0] 57)).ownsRow wz.heap.size 57 3 (.slice av m cv) m (pcs ((ov.take m).map (partL t.fs true cs)))) := by
                      have h := HF6.out.o0
                      unfold OwnP at h
                      rw [hml] at h
                      exact row_below h ((⟨rfl, rfl, rfl, Nat.le_refl _, fun _ _ => rfl⟩ : Below w6.heap.size w6 w6.drew).alloc (Nat.le_refl _) _)
                    have HCW : Hid (CellsAt (w6.drew.alloc (.cells #[.int .i64 1, .string (lowS cp.t), .int .u64 0] 57)) (some ⟨w6.drew.heap.size, 0, none⟩) (pcs [(⟨1, lowS cp.t, 0⟩ : Pt)])) := fun _ => ⟨_, _, rfl, fun q u hq => by rw [Nat.zero_add, cell_blk (new_blk _ _)]; simpa [pcs, Pt.cells] using hq⟩
                    go_region_law
                      (first
                        | (refine step_append_src _ (by rfl) (.tmp 111) (.tmp 113) 51 57 _ 3 32 Try.underlying51 info_prt rfl (by decide) (by rfl) wz.heap.size _ m _ (by rfl) HOW.out (some ⟨w6.drew.heap.size, 0, none⟩) 1 1 (pcs [(⟨1, lowS cp.t, 0⟩ : Pt)]) (by rfl) rfl HCW.out (pcs_one _) (by unfold maxLen; omega) (by omega) (by simp; omega) ?_
                           intro v7 w7 hr7 hg7
                           obtain ⟨a7, c7, rfl, -⟩ := row_forms hr7
                           have HG7 : Hid (Grew w6 w7 (.slice av m cv) (.slice a7 (m + 1) c7)) := (Grew.ofAlloc hg7 : Grew w6.drew w7 (.slice av m cv) (.slice a7 (m + 1) c7)) |> fun h => ⟨⟨h.grown.os, h.grown.tape, h.grown.output, h.grown.size, h.grown.block⟩, h.place⟩
                           have HO7 : Hid (OwnP w7 wz.heap.size (.slice a7 (m + 1) c7) ((ov.take (m + 1)).map (partL t.fs true cs))) := by
                             unfold OwnP
                             rw [Hid, HLS.out, List.length_append, hml, pcs_append]
                             exact hr7
                           have HPB7 : Hid (w7.heap[wa.heap.size]? = some (.cells #[.slice av m cv, v1] 52)) := (HG7.out.grown.block _ (lt_blk HF6.out.pb) (fun e => row_ne HF6.out.o0 HF6.out.pb (by decide) e.symm)).trans HF6.out.pb
                           have pv7 : w7.cell? ⟨wa.heap.size, 0, none⟩ = some (.slice av m cv) := by rw [cell_blk HPB7.out]; rfl
                           have z7 : w7.frozen? ⟨wa.heap.size, 0, none⟩ = false := frozen_blk HPB7.out
                           have HF7 : Hid (Fo2 wz w3.heap.size w.heap.size wz.heap.size wa.heap.size #[.string t.n, .slice t.fa t.fs.length t.fc, .slice t.xa t.xs.length t.xc] #[.slice ca cs.length cc, .slice da ds.length dc] ⟨⟨xn, ov, u, true, false⟩, some ⟨ob, oo, none⟩, vc⟩ (.slice a7 (m + 1) c7) v1 ((ov.take (m + 1)).map (partL t.fs true cs)) [] (w7.setCell ⟨wa.heap.size, 0, none⟩ (.slice a7 (m + 1) c7))) := HF6.out.put0 HO7.out HG7.out
                           have HR7 : Hid ((w7.setCell ⟨wa.heap.size, 0, none⟩ (.slice a7 (m + 1) c7)).heap[wc.heap.size]? = some (.cells #[.slice ca cs.length cc] 24)) := box_put HF6.out.o0 HG7.out HR6.out HF6.out.pb (by decide) (by decide) _
                           clear hr7 hg7 HO7))
                    all_goals
                      go_wp2
                      go_roundw
                      case rel => exact ⟨m + 1, true, .slice a7 (m + 1) c7, by omega, by go_num, rfl, HLI2, HF7, HR7⟩
                      case measure => simp [intOf]; omega
                  | false =>
                    obtain ⟨wq, hwq⟩ : ∃ wq, wq = wp := ⟨_, rfl⟩
                    have HBq : Hid (Below wd.heap.size wd wq) := by rw [hwq]; exact HBp.out
                    have HPq : Hid (wq.heap[wd.heap.size + 1]? = some (.cells #[.int .i64 1, .string cp.t, .int .u64 0] 57)) := by rw [Hid, hwq]; exact HPp.out
                    have HLW : Hid (Calls Try.prog 16 #[.string cp.t] wq fun e w' => e = .returned (.string (lowS cp.t)) ∧ Below wq.heap.size wq w') := low_calls cp.t wq (by have := HWP.out.1; omega)
                    have x3q : wq.cell? ⟨wz.heap.size, 3, none⟩ = some (.bool true) := by rw [HBq.out.cell (by exact hlxd), ← HBp.out.cell (by exact hlxd)]; exact x3'
                    have g1q : wq.cell? ⟨wd.heap.size + 1, 1, none⟩ = some (.string cp.t) := by rw [cell_blk HPq.out]; rfl
                    go_upto_region 22 with fail
                    rw [← hwq]
                    clear hwq g0 g1 g2 y0 y1 y2
                    go_wp2_with fail
                    refine HLW.out.mono ?_
                    clear HLW
                    rintro e wl ⟨rfl, hbl⟩
                    have HBl : Hid (Below wd.heap.size wd wl) := HBq.out.trans (hbl.mono HBq.out.size)
                    have HPl : Hid (wl.heap[wd.heap.size + 1]? = some (.cells #[.int .i64 1, .string cp.t, .int .u64 0] 57)) := (hbl.block _ (lt_blk HPq.out)).trans HPq.out
                    have g1l : wl.cell? ⟨wd.heap.size + 1, 1, none⟩ = some (.string cp.t) := by rw [cell_blk HPl.out]; rfl
                    have y1l : wl.frozen? ⟨wd.heap.size + 1, 1, none⟩ = false := frozen_blk HPl.out
                    have t1l : wl.cell? ⟨w3.heap.size, 1, none⟩ = some (.slice (some ⟨fb, fo, none⟩) t.fs.length t.fc) := by rw [HBl.out.cell (by exact hl3d), ← HBp.out.cell (by exact hl3d)]; exact t1'
                    have f1l : wl.cell? ⟨fb, fo + p * 2 + 1, none⟩ = some (.int .i64 kk) := by rw [HBl.out.cell (by exact hfbd), ← HBp.out.cell (by exact hfbd)]; exact f1'
                    obtain ⟨w6, hw6⟩ : ∃ w6, w6 = wl.setCell ⟨wd.heap.size + 1, 1, none⟩ (.string (lowS cp.t)) := ⟨_, rfl⟩
                    have HB6 : Hid (Below wd.heap.size wd w6) := by rw [hw6]; exact HBl.out.setCell (by show wd.heap.size ≤ wd.heap.size + 1; omega) _
                    have HP6 : Hid (w6.heap[wd.heap.size + 1]? = some (.cells #[.int .i64 1, .string (lowS cp.t), .int .u64 0] 57)) := by rw [Hid, hw6]; exact set_blk (i := 1) HPl.out _
                    clear hbl

                    have HF6 : Hid (Fo2 wz w3.heap.size w.heap.size wz.heap.size wa.heap.size #[.string t.n, .slice t.fa t.fs.length t.fc, .slice t.xa t.xs.length t.xc] #[.slice ca cs.length cc, .slice da ds.length dc] ⟨⟨xn, ov, u, true, false⟩, some ⟨ob, oo, none⟩, vc⟩ v v1 ((ov.take m).map (partL t.fs true cs)) [] w6) := HF.out.below HB6.out
                    have HR6 : Hid (w6.heap[wc.heap.size]? = some (.cells #[.slice ca cs.length cc] 24)) := (HB6.out.block _ (lt_blk HR.out)).trans HR.out
                    have HLI2 : Hid ((kk == 3) = (false || hasL t.fs (ov.take (m + 1)))) := by rw [Hid, HHS.out, ← Bool.or_assoc, ← HLI.out]; simp
                    obtain ⟨av, cv, hvv⟩ := HF6.out.o0.shape
                    have hml : ((ov.take m).map (partL t.fs true cs)).length = m := by simp; omega
                    rw [hml] at hvv
                    subst hvv
                    go_upto_region 25 with fail
                    rw [← hw6]
                    clear hw6
                    have b0 : w6.cell? ⟨wd.heap.size + 1, 0, none⟩ = some (.int .i64 1) := by rw [cell_blk HP6.out]; rfl
                    have b1 : w6.cell? ⟨wd.heap.size + 1, 1, none⟩ = some (.string (lowS cp.t)) := by rw [cell_blk HP6.out]; rfl
                    have b2 : w6.cell? ⟨wd.heap.size + 1, 2, none⟩ = some (.int .u64 0) := by rw [cell_blk HP6.out]; rfl
                    have pv : w6.cell? ⟨wa.heap.size, 0, none⟩ = some (.slice av m cv) := by rw [cell_blk HF6.out.pb]; rfl
                    have hpa : wa.heap.size < w6.heap.size := lt_blk HF6.out.pb
                    have hB6 : wz.heap.size ≤ w6.heap.size := HF6.out.be.size
                    have HOW : Hid ((w6.drew.alloc (.cells #[.int .i64 1, .string (lowS cp.t), .int .u64 0] 57)).ownsRow wz.heap.size 57 3 (.slice av m cv) m (pcs ((ov.take m).map (partL t.fs true cs)))) := by
                      have h := HF6.out.o0
                      unfold OwnP at h
                      rw [hml] at h
                      exact row_below h ((⟨rfl, rfl, rfl, Nat.le_refl _, fun _ _ => rfl⟩ : Below w6.heap.size w6 w6.drew).alloc (Nat.le_refl _) _)
                    have HCW : Hid (CellsAt (w6.drew.alloc (.cells #[.int .i64 1, .string (lowS cp.t), .int .u64 0] 57)) (some ⟨w6.drew.heap.size, 0, none⟩) (pcs [(⟨1, lowS cp.t, 0⟩ : Pt)])) := fun _ => ⟨_, _, rfl, fun q u hq => by rw [Nat.zero_add, cell_blk (new_blk _ _)]; simpa [pcs, Pt.cells] using hq⟩
                    go_region_law
                      (first
                        | (refine step_append_src _ (by rfl) (.tmp 111) (.tmp 113) 51 57 _ 3 32 Try.underlying51 info_prt rfl (by decide) (by rfl) wz.heap.size _ m _ (by rfl) HOW.out (some ⟨w6.drew.heap.size, 0, none⟩) 1 1 (pcs [(⟨1, lowS cp.t, 0⟩ : Pt)]) (by rfl) rfl HCW.out (pcs_one _) (by unfold maxLen; omega) (by omega) (by simp; omega) ?_
                           intro v7 w7 hr7 hg7
                           obtain ⟨a7, c7, rfl, -⟩ := row_forms hr7
                           have HG7 : Hid (Grew w6 w7 (.slice av m cv) (.slice a7 (m + 1) c7)) := (Grew.ofAlloc hg7 : Grew w6.drew w7 (.slice av m cv) (.slice a7 (m + 1) c7)) |> fun h => ⟨⟨h.grown.os, h.grown.tape, h.grown.output, h.grown.size, h.grown.block⟩, h.place⟩
                           have HO7 : Hid (OwnP w7 wz.heap.size (.slice a7 (m + 1) c7) ((ov.take (m + 1)).map (partL t.fs true cs))) := by
                             unfold OwnP
                             rw [Hid, HLS.out, List.length_append, hml, pcs_append]
                             exact hr7
                           have HPB7 : Hid (w7.heap[wa.heap.size]? = some (.cells #[.slice av m cv, v1] 52)) := (HG7.out.grown.block _ (lt_blk HF6.out.pb) (fun e => row_ne HF6.out.o0 HF6.out.pb (by decide) e.symm)).trans HF6.out.pb
                           have pv7 : w7.cell? ⟨wa.heap.size, 0, none⟩ = some (.slice av m cv) := by rw [cell_blk HPB7.out]; rfl
                           have z7 : w7.frozen? ⟨wa.heap.size, 0, none⟩ = false := frozen_blk HPB7.out
                           have HF7 : Hid (Fo2 wz w3.heap.size w.heap.size wz.heap.size wa.heap.size #[.string t.n, .slice t.fa t.fs.length t.fc, .slice t.xa t.xs.length t.xc] #[.slice ca cs.length cc, .slice da ds.length dc] ⟨⟨xn, ov, u, true, false⟩, some ⟨ob, oo, none⟩, vc⟩ (.slice a7 (m + 1) c7) v1 ((ov.take (m + 1)).map (partL t.fs true cs)) [] (w7.setCell ⟨wa.heap.size, 0, none⟩ (.slice a7 (m + 1) c7))) := HF6.out.put0 HO7.out HG7.out
                           have HR7 : Hid ((w7.setCell ⟨wa.heap.size, 0, none⟩ (.slice a7 (m + 1) c7)).heap[wc.heap.size]? = some (.cells #[.slice ca cs.length cc] 24)) := box_put HF6.out.o0 HG7.out HR6.out HF6.out.pb (by decide) (by decide) _
                           clear hr7 hg7 HO7))
                    all_goals
                      go_wp2
                      go_roundw
                      case rel => exact ⟨m + 1, (kk == 3), .slice a7 (m + 1) c7, by omega, by go_num, rfl, HLI2, HF7, HR7⟩
                      case measure => simp [intOf]; omega
        · as_aux_lemma =>
            have HRb : Hid ((wc.alloc (.cells #[.slice da ds.length dc] 24)).heap[wc.heap.size]? = some (.cells #[.slice da ds.length dc] 24)) := new_blk _ _
            have HFs : Hid (Fo2 wz w3.heap.size w.heap.size wz.heap.size wa.heap.size #[.string t.n, .slice t.fa t.fs.length t.fc, .slice t.xa t.xs.length t.xc] #[.slice ca cs.length cc, .slice da ds.length dc] ⟨⟨xn, ov, u, l, false⟩, va, vc⟩ v0 v1 (ov.map (partL t.fs l cs)) [] (wc.alloc (.cells #[.slice da ds.length dc] 24))) := HF.out.below ((Below.refl _ _).alloc (Nat.le_refl _) _)
            have y1 : (wc.alloc (.cells #[.slice da ds.length dc] 24)).cell? ⟨wz.heap.size, 1, none⟩ = some (.slice va ov.length vc) := by rw [cell_blk HFs.out.bx]; rfl
            clear HF HST
            go_wp2
            go_loopw [12, 16, 17, 18, 70] (fun v12 v16 v17 v18 i wd => ∃ (m : Nat) (li2 : Bool) (v : Value), m ≤ ov.length ∧ i = .int .i64 m ∧ v12 = .bool li2 ∧ Hid (li2 = ((hasL t.fs ov) || hasL t.fs (ov.take m))) ∧ Hid (Fo2 wz w3.heap.size w.heap.size wz.heap.size wa.heap.size #[.string t.n, .slice t.fa t.fs.length t.fc, .slice t.xa t.xs.length t.xc] #[.slice ca cs.length cc, .slice da ds.length dc] ⟨⟨xn, ov, u, l, false⟩, va, vc⟩ v0 v (ov.map (partL t.fs l cs)) ((ov.take m).map (partL t.fs l ds)) wd) ∧ Hid (wd.heap[wc.heap.size]? = some (.cells #[.slice da ds.length dc] 24))) (fun _ _ _ _ i _ => ov.length - (intOf i).toNat)
            case atStart => exact ⟨0, _, v1, Nat.zero_le _, rfl, rfl, by simp [Hid, hasL], HFs, HRb⟩
            case round =>
              obtain ⟨m, li2, v, hm, rfl, rfl, HLI, HF, HR⟩ := hrel
              obtain ⟨wd, hwd⟩ : ∃ wd, wd = wr := ⟨_, rfl⟩
              subst hwd
              clear HFs HRb y1
              have HB4d : Hid (Below w4.heap.size w4 wd) := HBr.out.trans (HF.out.be.mono HBr.out.size)
              by_cases hmt : m < ov.length
              case neg =>
                obtain rfl : m = ov.length := by omega
                rw [List.take_length] at HLI HF
                have HS2 : Hid (StF (ov.map (partL t.fs l cs)) (ov.map (partL t.fs l ds)) (hasL t.fs ov) 2 li2 (ov.map (partL t.fs l cs)) (ov.map (partL t.fs l ds))) := by rw [Hid, HLI.out]; exact .inr (.inr ⟨rfl, by simp, rfl, rfl⟩)
                go_wp2
                go_roundw
                case rel => exact ⟨2, li2, _, _, _, _, rfl, rfl, HS2, HF⟩
                case measure => simp [intOf]
              obtain ⟨ob, oo, rfl, o0⟩ := (HOV.out.below HB4d.out).num m hmt
              have hpl := HXO.out.place ov[m] (List.getElem_mem hmt)
              obtain ⟨p, hp⟩ : ∃ p : Nat, ov[m] = (p : Int) := ⟨ov[m].toNat, by omega⟩
              have hpf : p < t.fs.length := by omega
              have hpc : p < ds.length := by have := HFC1.out; omega
              obtain ⟨fb, fo, hfa, f0, f1⟩ := (HTR4.out.fs.below HB4d.out).fld p hpf
              obtain ⟨cb, co, hca, d0, d1, d2⟩ := ((HRA4.out.2.below HB4d.out).row).cel p hpc
              have HWP : Hid (ds[p].wf) := HRA4.out.2.wf _ (List.getElem_mem hpc)
              have HLS : Hid ((ov.take (m + 1)).map (partL t.fs l ds) = (ov.take m).map (partL t.fs l ds) ++ [if t.fs[p].k = 2 then ⟨2, ⟨#[]⟩, ds[p].n⟩ else ⟨1, lowIfS l ds[p].t, 0⟩]) := law_snoc hmt hp hpf hpc
              have HHS : Hid (hasL t.fs (ov.take (m + 1)) = (hasL t.fs (ov.take m) || (t.fs[p].k == 3))) := hasL_snoc hmt hp hpf
              rw [hp] at o0
              clear hpl hp
              have t1 : wd.cell? ⟨w3.heap.size, 1, none⟩ = some (.slice t.fa t.fs.length t.fc) := by rw [cell_blk HF.out.tab]; rfl
              have x3 : wd.cell? ⟨wz.heap.size, 3, none⟩ = some (.bool l) := by rw [cell_blk HF.out.bx]; rfl
              have rr0 : wd.cell? ⟨wc.heap.size, 0, none⟩ = some (.slice da ds.length dc) := by rw [cell_blk HR.out]; rfl
              rw [hfa] at t1
              rw [hca] at rr0
              clear hfa hca
              have hp1 : (p : Int) < (t.fs.length : Int) := by omega
              have hp2 : (p : Int) < (ds.length : Int) := by omega
              have hl3d : w3.heap.size < wd.heap.size := lt_blk HF.out.tab
              have hlxd : wz.heap.size < wd.heap.size := lt_blk HF.out.bx
              have hfbd : fb < wd.heap.size := World.block_lt_of_cell? wd _ f1
              generalize t.fs[p].k = kk at *
              generalize hck : ds[p] = cp at *
              obtain ⟨wp, hwp⟩ : ∃ wp, wp = (wd.alloc (.cells #[.string cp.t, .int .u64 cp.n, .slice cp.la cp.l.length cp.lc] 55)).alloc (.cells #[.int .i64 1, .string cp.t, .int .u64 0] 57) := ⟨_, rfl⟩
              have HBp : Hid (Below wd.heap.size wd wp) := by rw [hwp]; exact ((Below.refl _ _).alloc (Nat.le_refl _) _).alloc (by simp only [World.size_alloc]; omega) _
              have HCp : Hid (wp.heap[wd.heap.size]? = some (.cells #[.string cp.t, .int .u64 cp.n, .slice cp.la cp.l.length cp.lc] 55)) := by rw [Hid, hwp]; exact old_blk (new_blk _ _) _
              have HPp : Hid (wp.heap[wd.heap.size + 1]? = some (.cells #[.int .i64 1, .string cp.t, .int .u64 0] 57)) := by
                rw [Hid, hwp]
                have := new_blk (wd.alloc (.cells #[.string cp.t, .int .u64 cp.n, .slice cp.la cp.l.length cp.lc] 55)) (.cells #[.int .i64 1, .string cp.t, .int .u64 0] 57)
                rw [World.size_alloc] at this
                exact this
              go_upto_region 20 with fail
              rw [← hwp]
              clear hwp o0 d0 d1 d2 rr0
              have t1' : wp.cell? ⟨w3.heap.size, 1, none⟩ = some (.slice (some ⟨fb, fo, none⟩) t.fs.length t.fc) := by rw [HBp.out.cell (by exact hl3d)]; exact t1
              have f1' : wp.cell? ⟨fb, fo + p * 2 + 1, none⟩ = some (.int .i64 kk) := by rw [HBp.out.cell (by exact hfbd)]; exact f1
              have x3' : wp.cell? ⟨wz.heap.size, 3, none⟩ = some (.bool l) := by rw [HBp.out.cell (by exact hlxd)]; exact x3
              have cn : wp.cell? ⟨wd.heap.size, 1, none⟩ = some (.int .u64 cp.n) := by rw [cell_blk HCp.out]; rfl
              have g0 : wp.cell? ⟨wd.heap.size + 1, 0, none⟩ = some (.int .i64 1) := by rw [cell_blk HPp.out]; rfl
              have g1 : wp.cell? ⟨wd.heap.size + 1, 1, none⟩ = some (.string cp.t) := by rw [cell_blk HPp.out]; rfl
              have g2 : wp.cell? ⟨wd.heap.size + 1, 2, none⟩ = some (.int .u64 0) := by rw [cell_blk HPp.out]; rfl
              have y0 : wp.frozen? ⟨wd.heap.size + 1, 0, none⟩ = false := frozen_blk HPp.out
              have y1 : wp.frozen? ⟨wd.heap.size + 1, 1, none⟩ = false := frozen_blk HPp.out
              have y2 : wp.frozen? ⟨wd.heap.size + 1, 2, none⟩ = false := frozen_blk HPp.out
              clear t1 f1 x3 f0
              by_cases hk2 : kk = 2
              · subst hk2
                rw [if_pos rfl] at HLS
                cases l with
                | false =>
                  cases li2 with
                  | true =>
                    obtain ⟨w6, hw6⟩ : ∃ w6, w6 = (((wp.setCell ⟨wd.heap.size + 1, 0, none⟩ (.int .i64 2)).setCell ⟨wd.heap.size + 1, 1, none⟩ (.string ⟨#[]⟩)).setCell ⟨wd.heap.size + 1, 2, none⟩ (.int .u64 cp.n)) := ⟨_, rfl⟩
                    have HB6 : Hid (Below wd.heap.size wd w6) := by rw [hw6]; exact ((HBp.out.setCell (by show wd.heap.size ≤ wd.heap.size + 1; omega) _).setCell (by show wd.heap.size ≤ wd.heap.size + 1; omega) _).setCell (by show wd.heap.size ≤ wd.heap.size + 1; omega) _
                    have HP6 : Hid (w6.heap[wd.heap.size + 1]? = some (.cells #[.int .i64 2, .string ⟨#[]⟩, .int .u64 cp.n] 57)) := by rw [Hid, hw6]; exact set_blk (i := 2) (set_blk (i := 1) (set_blk (i := 0) HPp.out _) _) _

                    have HF6 : Hid (Fo2 wz w3.heap.size w.heap.size wz.heap.size wa.heap.size #[.string t.n, .slice t.fa t.fs.length t.fc, .slice t.xa t.xs.length t.xc] #[.slice ca cs.length cc, .slice da ds.length dc] ⟨⟨xn, ov, u, false, false⟩, some ⟨ob, oo, none⟩, vc⟩ v0 v (ov.map (partL t.fs false cs)) ((ov.take m).map (partL t.fs false ds)) w6) := HF.out.below HB6.out
                    have HR6 : Hid (w6.heap[wc.heap.size]? = some (.cells #[.slice da ds.length dc] 24)) := (HB6.out.block _ (lt_blk HR.out)).trans HR.out
                    have HLI2 : Hid (true = ((hasL t.fs ov) || hasL t.fs (ov.take (m + 1)))) := by rw [Hid, HHS.out, ← Bool.or_assoc, ← HLI.out]; simp
                    obtain ⟨av, cv, hvv⟩ := HF6.out.o1.shape
                    have hml : ((ov.take m).map (partL t.fs false ds)).length = m := by simp; omega
                    rw [hml] at hvv
                    subst hvv
                    go_upto_region 25 with fail
                    rw [← hw6]
                    clear hw6
                    have b0 : w6.cell? ⟨wd.heap.size + 1, 0, none⟩ = some (.int .i64 2) := by rw [cell_blk HP6.out]; rfl
                    have b1 : w6.cell? ⟨wd.heap.size + 1, 1, none⟩ = some (.string ⟨#[]⟩) := by rw [cell_blk HP6.out]; rfl
                    have b2 : w6.cell? ⟨wd.heap.size + 1, 2, none⟩ = some (.int .u64 cp.n) := by rw [cell_blk HP6.out]; rfl
                    have pv : w6.cell? ⟨wa.heap.size, 1, none⟩ = some (.slice av m cv) := by rw [cell_blk HF6.out.pb]; rfl
                    have hpa : wa.heap.size < w6.heap.size := lt_blk HF6.out.pb
                    have hB6 : wz.heap.size ≤ w6.heap.size := HF6.out.be.size
                    have HOW : Hid ((w6.drew.alloc (.cells #[.int .i64 2, .string ⟨#[]⟩, .int .u64 cp.n] 57)).ownsRow wz.heap.size 57 3 (.slice av m cv) m (pcs ((ov.take m).map (partL t.fs false ds)))) := by
                      have h := HF6.out.o1
                      unfold OwnP at h
                      rw [hml] at h
                      exact row_below h ((⟨rfl, rfl, rfl, Nat.le_refl _, fun _ _ => rfl⟩ : Below w6.heap.size w6 w6.drew).alloc (Nat.le_refl _) _)
                    have HCW : Hid (CellsAt (w6.drew.alloc (.cells #[.int .i64 2, .string ⟨#[]⟩, .int .u64 cp.n] 57)) (some ⟨w6.drew.heap.size, 0, none⟩) (pcs [(⟨2, ⟨#[]⟩, cp.n⟩ : Pt)])) := fun _ => ⟨_, _, rfl, fun q u hq => by rw [Nat.zero_add, cell_blk (new_blk _ _)]; simpa [pcs, Pt.cells] using hq⟩
                    go_region_law
                      (first
                        | (refine step_append_src _ (by rfl) (.tmp 111) (.tmp 113) 51 57 _ 3 32 Try.underlying51 info_prt rfl (by decide) (by rfl) wz.heap.size _ m _ (by rfl) HOW.out (some ⟨w6.drew.heap.size, 0, none⟩) 1 1 (pcs [(⟨2, ⟨#[]⟩, cp.n⟩ : Pt)]) (by rfl) rfl HCW.out (pcs_one _) (by unfold maxLen; omega) (by omega) (by simp; omega) ?_
                           intro v7 w7 hr7 hg7
                           obtain ⟨a7, c7, rfl, -⟩ := row_forms hr7
                           have HG7 : Hid (Grew w6 w7 (.slice av m cv) (.slice a7 (m + 1) c7)) := (Grew.ofAlloc hg7 : Grew w6.drew w7 (.slice av m cv) (.slice a7 (m + 1) c7)) |> fun h => ⟨⟨h.grown.os, h.grown.tape, h.grown.output, h.grown.size, h.grown.block⟩, h.place⟩
                           have HO7 : Hid (OwnP w7 wz.heap.size (.slice a7 (m + 1) c7) ((ov.take (m + 1)).map (partL t.fs false ds))) := by
                             unfold OwnP
                             rw [Hid, HLS.out, List.length_append, hml, pcs_append]
                             exact hr7
                           have HPB7 : Hid (w7.heap[wa.heap.size]? = some (.cells #[v0, .slice av m cv] 52)) := (HG7.out.grown.block _ (lt_blk HF6.out.pb) (fun e => row_ne HF6.out.o1 HF6.out.pb (by decide) e.symm)).trans HF6.out.pb
                           have pv7 : w7.cell? ⟨wa.heap.size, 1, none⟩ = some (.slice av m cv) := by rw [cell_blk HPB7.out]; rfl
                           have z7 : w7.frozen? ⟨wa.heap.size, 1, none⟩ = false := frozen_blk HPB7.out
                           have HF7 : Hid (Fo2 wz w3.heap.size w.heap.size wz.heap.size wa.heap.size #[.string t.n, .slice t.fa t.fs.length t.fc, .slice t.xa t.xs.length t.xc] #[.slice ca cs.length cc, .slice da ds.length dc] ⟨⟨xn, ov, u, false, false⟩, some ⟨ob, oo, none⟩, vc⟩ v0 (.slice a7 (m + 1) c7) (ov.map (partL t.fs false cs)) ((ov.take (m + 1)).map (partL t.fs false ds)) (w7.setCell ⟨wa.heap.size, 1, none⟩ (.slice a7 (m + 1) c7))) := HF6.out.put1 HO7.out HG7.out
                           have HR7 : Hid ((w7.setCell ⟨wa.heap.size, 1, none⟩ (.slice a7 (m + 1) c7)).heap[wc.heap.size]? = some (.cells #[.slice da ds.length dc] 24)) := box_put HF6.out.o1 HG7.out HR6.out HF6.out.pb (by decide) (by decide) _
                           clear hr7 hg7 HO7))
                    all_goals
                      go_wp2
                      go_roundw
                      case rel => exact ⟨m + 1, true, .slice a7 (m + 1) c7, by omega, by go_num, rfl, HLI2, HF7, HR7⟩
                      case measure => simp [intOf]; omega
                  | false =>
                    obtain ⟨w6, hw6⟩ : ∃ w6, w6 = (((wp.setCell ⟨wd.heap.size + 1, 0, none⟩ (.int .i64 2)).setCell ⟨wd.heap.size + 1, 1, none⟩ (.string ⟨#[]⟩)).setCell ⟨wd.heap.size + 1, 2, none⟩ (.int .u64 cp.n)) := ⟨_, rfl⟩
                    have HB6 : Hid (Below wd.heap.size wd w6) := by rw [hw6]; exact ((HBp.out.setCell (by show wd.heap.size ≤ wd.heap.size + 1; omega) _).setCell (by show wd.heap.size ≤ wd.heap.size + 1; omega) _).setCell (by show wd.heap.size ≤ wd.heap.size + 1; omega) _
                    have HP6 : Hid (w6.heap[wd.heap.size + 1]? = some (.cells #[.int .i64 2, .string ⟨#[]⟩, .int .u64 cp.n] 57)) := by rw [Hid, hw6]; exact set_blk (i := 2) (set_blk (i := 1) (set_blk (i := 0) HPp.out _) _) _

                    have HF6 : Hid (Fo2 wz w3.heap.size w.heap.size wz.heap.size wa.heap.size #[.string t.n, .slice t.fa t.fs.length t.fc, .slice t.xa t.xs.length t.xc] #[.slice ca cs.length cc, .slice da ds.length dc] ⟨⟨xn, ov, u, false, false⟩, some ⟨ob, oo, none⟩, vc⟩ v0 v (ov.map (partL t.fs false cs)) ((ov.take m).map (partL t.fs false ds)) w6) := HF.out.below HB6.out
                    have HR6 : Hid (w6.heap[wc.heap.size]? = some (.cells #[.slice da ds.length dc] 24)) := (HB6.out.block _ (lt_blk HR.out)).trans HR.out
                    have HLI2 : Hid (false = ((hasL t.fs ov) || hasL t.fs (ov.take (m + 1)))) := by rw [Hid, HHS.out, ← Bool.or_assoc, ← HLI.out]; simp
                    obtain ⟨av, cv, hvv⟩ := HF6.out.o1.shape
                    have hml : ((ov.take m).map (partL t.fs false ds)).length = m := by simp; omega
                    rw [hml] at hvv
                    subst hvv
                    go_upto_region 25 with fail
                    rw [← hw6]
                    clear hw6
                    have b0 : w6.cell? ⟨wd.heap.size + 1, 0, none⟩ = some (.int .i64 2) := by rw [cell_blk HP6.out]; rfl
                    have b1 : w6.cell? ⟨wd.heap.size + 1, 1, none⟩ = some (.string ⟨#[]⟩) := by rw [cell_blk HP6.out]; rfl
                    have b2 : w6.cell? ⟨wd.heap.size + 1, 2, none⟩ = some (.int .u64 cp.n) := by rw [cell_blk HP6.out]; rfl
                    have pv : w6.cell? ⟨wa.heap.size, 1, none⟩ = some (.slice av m cv) := by rw [cell_blk HF6.out.pb]; rfl
                    have hpa : wa.heap.size < w6.heap.size := lt_blk HF6.out.pb
                    have hB6 : wz.heap.size ≤ w6.heap.size := HF6.out.be.size
                    have HOW : Hid ((w6.drew.alloc (.cells #[.int .i64 2, .string ⟨#[]⟩, .int .u64 cp.n] 57)).ownsRow wz.heap.size 57 3 (.slice av m cv) m (pcs ((ov.take m).map (partL t.fs false ds)))) := by
                      have h := HF6.out.o1
                      unfold OwnP at h
                      rw [hml] at h
                      exact row_below h ((⟨rfl, rfl, rfl, Nat.le_refl _, fun _ _ => rfl⟩ : Below w6.heap.size w6 w6.drew).alloc (Nat.le_refl _) _)
                    have HCW : Hid (CellsAt (w6.drew.alloc (.cells #[.int .i64 2, .string ⟨#[]⟩, .int .u64 cp.n] 57)) (some ⟨w6.drew.heap.size, 0, none⟩) (pcs [(⟨2, ⟨#[]⟩, cp.n⟩ : Pt)])) := fun _ => ⟨_, _, rfl, fun q u hq => by rw [Nat.zero_add, cell_blk (new_blk _ _)]; simpa [pcs, Pt.cells] using hq⟩
                    go_region_law
                      (first
                        | (refine step_append_src _ (by rfl) (.tmp 111) (.tmp 113) 51 57 _ 3 32 Try.underlying51 info_prt rfl (by decide) (by rfl) wz.heap.size _ m _ (by rfl) HOW.out (some ⟨w6.drew.heap.size, 0, none⟩) 1 1 (pcs [(⟨2, ⟨#[]⟩, cp.n⟩ : Pt)]) (by rfl) rfl HCW.out (pcs_one _) (by unfold maxLen; omega) (by omega) (by simp; omega) ?_
                           intro v7 w7 hr7 hg7
                           obtain ⟨a7, c7, rfl, -⟩ := row_forms hr7
                           have HG7 : Hid (Grew w6 w7 (.slice av m cv) (.slice a7 (m + 1) c7)) := (Grew.ofAlloc hg7 : Grew w6.drew w7 (.slice av m cv) (.slice a7 (m + 1) c7)) |> fun h => ⟨⟨h.grown.os, h.grown.tape, h.grown.output, h.grown.size, h.grown.block⟩, h.place⟩
                           have HO7 : Hid (OwnP w7 wz.heap.size (.slice a7 (m + 1) c7) ((ov.take (m + 1)).map (partL t.fs false ds))) := by
                             unfold OwnP
                             rw [Hid, HLS.out, List.length_append, hml, pcs_append]
                             exact hr7
                           have HPB7 : Hid (w7.heap[wa.heap.size]? = some (.cells #[v0, .slice av m cv] 52)) := (HG7.out.grown.block _ (lt_blk HF6.out.pb) (fun e => row_ne HF6.out.o1 HF6.out.pb (by decide) e.symm)).trans HF6.out.pb
                           have pv7 : w7.cell? ⟨wa.heap.size, 1, none⟩ = some (.slice av m cv) := by rw [cell_blk HPB7.out]; rfl
                           have z7 : w7.frozen? ⟨wa.heap.size, 1, none⟩ = false := frozen_blk HPB7.out
                           have HF7 : Hid (Fo2 wz w3.heap.size w.heap.size wz.heap.size wa.heap.size #[.string t.n, .slice t.fa t.fs.length t.fc, .slice t.xa t.xs.length t.xc] #[.slice ca cs.length cc, .slice da ds.length dc] ⟨⟨xn, ov, u, false, false⟩, some ⟨ob, oo, none⟩, vc⟩ v0 (.slice a7 (m + 1) c7) (ov.map (partL t.fs false cs)) ((ov.take (m + 1)).map (partL t.fs false ds)) (w7.setCell ⟨wa.heap.size, 1, none⟩ (.slice a7 (m + 1) c7))) := HF6.out.put1 HO7.out HG7.out
                           have HR7 : Hid ((w7.setCell ⟨wa.heap.size, 1, none⟩ (.slice a7 (m + 1) c7)).heap[wc.heap.size]? = some (.cells #[.slice da ds.length dc] 24)) := box_put HF6.out.o1 HG7.out HR6.out HF6.out.pb (by decide) (by decide) _
                           clear hr7 hg7 HO7))
                    all_goals
                      go_wp2
                      go_roundw
                      case rel => exact ⟨m + 1, false, .slice a7 (m + 1) c7, by omega, by go_num, rfl, HLI2, HF7, HR7⟩
                      case measure => simp [intOf]; omega
                | true =>
                  cases li2 with
                  | true =>
                    obtain ⟨wq, hwq⟩ : ∃ wq, wq = (((wp.setCell ⟨wd.heap.size + 1, 0, none⟩ (.int .i64 2)).setCell ⟨wd.heap.size + 1, 1, none⟩ (.string ⟨#[]⟩)).setCell ⟨wd.heap.size + 1, 2, none⟩ (.int .u64 cp.n)) := ⟨_, rfl⟩
                    have HBq : Hid (Below wd.heap.size wd wq) := by rw [hwq]; exact ((HBp.out.setCell (by show wd.heap.size ≤ wd.heap.size + 1; omega) _).setCell (by show wd.heap.size ≤ wd.heap.size + 1; omega) _).setCell (by show wd.heap.size ≤ wd.heap.size + 1; omega) _
                    have HPq : Hid (wq.heap[wd.heap.size + 1]? = some (.cells #[.int .i64 2, .string ⟨#[]⟩, .int .u64 cp.n] 57)) := by rw [Hid, hwq]; exact set_blk (i := 2) (set_blk (i := 1) (set_blk (i := 0) HPp.out _) _) _
                    have HLW : Hid (Calls Try.prog 16 #[.string ⟨#[]⟩] wq fun e w' => e = .returned (.string (lowS ⟨#[]⟩)) ∧ Below wq.heap.size wq w') := low_calls ⟨#[]⟩ wq (by decide)
                    have x3q : wq.cell? ⟨wz.heap.size, 3, none⟩ = some (.bool true) := by rw [HBq.out.cell (by exact hlxd), ← HBp.out.cell (by exact hlxd)]; exact x3'
                    have g1q : wq.cell? ⟨wd.heap.size + 1, 1, none⟩ = some (.string ⟨#[]⟩) := by rw [cell_blk HPq.out]; rfl
                    go_upto_region 22 with fail
                    rw [← hwq]
                    clear hwq g0 g1 g2 y0 y1 y2
                    go_wp2_with fail
                    refine HLW.out.mono ?_
                    clear HLW
                    rintro e wl ⟨rfl, hbl⟩
                    have HBl : Hid (Below wd.heap.size wd wl) := HBq.out.trans (hbl.mono HBq.out.size)
                    have HPl : Hid (wl.heap[wd.heap.size + 1]? = some (.cells #[.int .i64 2, .string ⟨#[]⟩, .int .u64 cp.n] 57)) := (hbl.block _ (lt_blk HPq.out)).trans HPq.out
                    have g1l : wl.cell? ⟨wd.heap.size + 1, 1, none⟩ = some (.string ⟨#[]⟩) := by rw [cell_blk HPl.out]; rfl
                    have y1l : wl.frozen? ⟨wd.heap.size + 1, 1, none⟩ = false := frozen_blk HPl.out
                    have t1l : wl.cell? ⟨w3.heap.size, 1, none⟩ = some (.slice (some ⟨fb, fo, none⟩) t.fs.length t.fc) := by rw [HBl.out.cell (by exact hl3d), ← HBp.out.cell (by exact hl3d)]; exact t1'
                    have f1l : wl.cell? ⟨fb, fo + p * 2 + 1, none⟩ = some (.int .i64 2) := by rw [HBl.out.cell (by exact hfbd), ← HBp.out.cell (by exact hfbd)]; exact f1'
                    obtain ⟨w6, hw6⟩ : ∃ w6, w6 = wl.setCell ⟨wd.heap.size + 1, 1, none⟩ (.string (lowS ⟨#[]⟩)) := ⟨_, rfl⟩
                    have HB6 : Hid (Below wd.heap.size wd w6) := by rw [hw6]; exact HBl.out.setCell (by show wd.heap.size ≤ wd.heap.size + 1; omega) _
                    have HP6 : Hid (w6.heap[wd.heap.size + 1]? = some (.cells #[.int .i64 2, .string (lowS ⟨#[]⟩), .int .u64 cp.n] 57)) := by rw [Hid, hw6]; exact set_blk (i := 1) HPl.out _
                    clear hbl

                    have HF6 : Hid (Fo2 wz w3.heap.size w.heap.size wz.heap.size wa.heap.size #[.string t.n, .slice t.fa t.fs.length t.fc, .slice t.xa t.xs.length t.xc] #[.slice ca cs.length cc, .slice da ds.length dc] ⟨⟨xn, ov, u, true, false⟩, some ⟨ob, oo, none⟩, vc⟩ v0 v (ov.map (partL t.fs true cs)) ((ov.take m).map (partL t.fs true ds)) w6) := HF.out.below HB6.out
                    have HR6 : Hid (w6.heap[wc.heap.size]? = some (.cells #[.slice da ds.length dc] 24)) := (HB6.out.block _ (lt_blk HR.out)).trans HR.out
                    have HLI2 : Hid (true = ((hasL t.fs ov) || hasL t.fs (ov.take (m + 1)))) := by rw [Hid, HHS.out, ← Bool.or_assoc, ← HLI.out]; simp
                    obtain ⟨av, cv, hvv⟩ := HF6.out.o1.shape
                    have hml : ((ov.take m).map (partL t.fs true ds)).length = m := by simp; omega
                    rw [hml] at hvv
                    subst hvv
                    go_upto_region 25 with fail
                    rw [← hw6]
                    clear hw6
                    have b0 : w6.cell? ⟨wd.heap.size + 1, 0, none⟩ = some (.int .i64 2) := by rw [cell_blk HP6.out]; rfl
                    have b1 : w6.cell? ⟨wd.heap.size + 1, 1, none⟩ = some (.string (lowS ⟨#[]⟩)) := by rw [cell_blk HP6.out]; rfl
                    have b2 : w6.cell? ⟨wd.heap.size + 1, 2, none⟩ = some (.int .u64 cp.n) := by rw [cell_blk HP6.out]; rfl
                    have pv : w6.cell? ⟨wa.heap.size, 1, none⟩ = some (.slice av m cv) := by rw [cell_blk HF6.out.pb]; rfl
                    have hpa : wa.heap.size < w6.heap.size := lt_blk HF6.out.pb
                    have hB6 : wz.heap.size ≤ w6.heap.size := HF6.out.be.size
                    have HOW : Hid ((w6.drew.alloc (.cells #[.int .i64 2, .string (lowS ⟨#[]⟩), .int .u64 cp.n] 57)).ownsRow wz.heap.size 57 3 (.slice av m cv) m (pcs ((ov.take m).map (partL t.fs true ds)))) := by
                      have h := HF6.out.o1
                      unfold OwnP at h
                      rw [hml] at h
                      exact row_below h ((⟨rfl, rfl, rfl, Nat.le_refl _, fun _ _ => rfl⟩ : Below w6.heap.size w6 w6.drew).alloc (Nat.le_refl _) _)
                    have HCW : Hid (CellsAt (w6.drew.alloc (.cells #[.int .i64 2, .string (lowS ⟨#[]⟩), .int .u64 cp.n] 57)) (some ⟨w6.drew.heap.size, 0, none⟩) (pcs [(⟨2, lowS ⟨#[]⟩, cp.n⟩ : Pt)])) := fun _ => ⟨_, _, rfl, fun q u hq => by rw [Nat.zero_add, cell_blk (new_blk _ _)]; simpa [pcs, Pt.cells] using hq⟩
                    go_region_law
                      (first
                        | (refine step_append_src _ (by rfl) (.tmp 111) (.tmp 113) 51 57 _ 3 32 Try.underlying51 info_prt rfl (by decide) (by rfl) wz.heap.size _ m _ (by rfl) HOW.out (some ⟨w6.drew.heap.size, 0, none⟩) 1 1 (pcs [(⟨2, lowS ⟨#[]⟩, cp.n⟩ : Pt)]) (by rfl) rfl HCW.out (pcs_one _) (by unfold maxLen; omega) (by omega) (by simp; omega) ?_
                           intro v7 w7 hr7 hg7
                           obtain ⟨a7, c7, rfl, -⟩ := row_forms hr7
                           have HG7 : Hid (Grew w6 w7 (.slice av m cv) (.slice a7 (m + 1) c7)) := (Grew.ofAlloc hg7 : Grew w6.drew w7 (.slice av m cv) (.slice a7 (m + 1) c7)) |> fun h => ⟨⟨h.grown.os, h.grown.tape, h.grown.output, h.grown.size, h.grown.block⟩, h.place⟩
                           have HO7 : Hid (OwnP w7 wz.heap.size (.slice a7 (m + 1) c7) ((ov.take (m + 1)).map (partL t.fs true ds))) := by
                             unfold OwnP
                             rw [Hid, HLS.out, List.length_append, hml, pcs_append]
                             exact hr7
                           have HPB7 : Hid (w7.heap[wa.heap.size]? = some (.cells #[v0, .slice av m cv] 52)) := (HG7.out.grown.block _ (lt_blk HF6.out.pb) (fun e => row_ne HF6.out.o1 HF6.out.pb (by decide) e.symm)).trans HF6.out.pb
                           have pv7 : w7.cell? ⟨wa.heap.size, 1, none⟩ = some (.slice av m cv) := by rw [cell_blk HPB7.out]; rfl
                           have z7 : w7.frozen? ⟨wa.heap.size, 1, none⟩ = false := frozen_blk HPB7.out
                           have HF7 : Hid (Fo2 wz w3.heap.size w.heap.size wz.heap.size wa.heap.size #[.string t.n, .slice t.fa t.fs.length t.fc, .slice t.xa t.xs.length t.xc] #[.slice ca cs.length cc, .slice da ds.length dc] ⟨⟨xn, ov, u, true, false⟩, some ⟨ob, oo, none⟩, vc⟩ v0 (.slice a7 (m + 1) c7) (ov.map (partL t.fs true cs)) ((ov.take (m + 1)).map (partL t.fs true ds)) (w7.setCell ⟨wa.heap.size, 1, none⟩ (.slice a7 (m + 1) c7))) := HF6.out.put1 HO7.out HG7.out
                           have HR7 : Hid ((w7.setCell ⟨wa.heap.size, 1, none⟩ (.slice a7 (m + 1) c7)).heap[wc.heap.size]? = some (.cells #[.slice da ds.length dc] 24)) := box_put HF6.out.o1 HG7.out HR6.out HF6.out.pb (by decide) (by decide) _
                           clear hr7 hg7 HO7))
                    all_goals
                      go_wp2
                      go_roundw
                      case rel => exact ⟨m + 1, true, .slice a7 (m + 1) c7, by omega, by go_num, rfl, HLI2, HF7, HR7⟩
                      case measure => simp [intOf]; omega
                  | false =>
                    obtain ⟨wq, hwq⟩ : ∃ wq, wq = (((wp.setCell ⟨wd.heap.size + 1, 0, none⟩ (.int .i64 2)).setCell ⟨wd.heap.size + 1, 1, none⟩ (.string ⟨#[]⟩)).setCell ⟨wd.heap.size + 1, 2, none⟩ (.int .u64 cp.n)) := ⟨_, rfl⟩
                    have HBq : Hid (Below wd.heap.size wd wq) := by rw [hwq]; exact ((HBp.out.setCell (by show wd.heap.size ≤ wd.heap.size + 1; omega) _).setCell (by show wd.heap.size ≤ wd.heap.size + 1; omega) _).setCell (by show wd.heap.size ≤ wd.heap.size + 1; omega) _
                    have HPq : Hid (wq.heap[wd.heap.size + 1]? = some (.cells #[.int .i64 2, .string ⟨#[]⟩, .int .u64 cp.n] 57)) := by rw [Hid, hwq]; exact set_blk (i := 2) (set_blk (i := 1) (set_blk (i := 0) HPp.out _) _) _
                    have HLW : Hid (Calls Try.prog 16 #[.string ⟨#[]⟩] wq fun e w' => e = .returned (.string (lowS ⟨#[]⟩)) ∧ Below wq.heap.size wq w') := low_calls ⟨#[]⟩ wq (by decide)
                    have x3q : wq.cell? ⟨wz.heap.size, 3, none⟩ = some (.bool true) := by rw [HBq.out.cell (by exact hlxd), ← HBp.out.cell (by exact hlxd)]; exact x3'
                    have g1q : wq.cell? ⟨wd.heap.size + 1, 1, none⟩ = some (.string ⟨#[]⟩) := by rw [cell_blk HPq.out]; rfl
                    go_upto_region 22 with fail
                    rw [← hwq]
                    clear hwq g0 g1 g2 y0 y1 y2
                    go_wp2_with fail
                    refine HLW.out.mono ?_
                    clear HLW
                    rintro e wl ⟨rfl, hbl⟩
                    have HBl : Hid (Below wd.heap.size wd wl) := HBq.out.trans (hbl.mono HBq.out.size)
                    have HPl : Hid (wl.heap[wd.heap.size + 1]? = some (.cells #[.int .i64 2, .string ⟨#[]⟩, .int .u64 cp.n] 57)) := (hbl.block _ (lt_blk HPq.out)).trans HPq.out
                    have g1l : wl.cell? ⟨wd.heap.size + 1, 1, none⟩ = some (.string ⟨#[]⟩) := by rw [cell_blk HPl.out]; rfl
                    have y1l : wl.frozen? ⟨wd.heap.size + 1, 1, none⟩ = false := frozen_blk HPl.out
                    have t1l : wl.cell? ⟨w3.heap.size, 1, none⟩ = some (.slice (some ⟨fb, fo, none⟩) t.fs.length t.fc) := by rw [HBl.out.cell (by exact hl3d), ← HBp.out.cell (by exact hl3d)]; exact t1'
                    have f1l : wl.cell? ⟨fb, fo + p * 2 + 1, none⟩ = some (.int .i64 2) := by rw [HBl.out.cell (by exact hfbd), ← HBp.out.cell (by exact hfbd)]; exact f1'
                    obtain ⟨w6, hw6⟩ : ∃ w6, w6 = wl.setCell ⟨wd.heap.size + 1, 1, none⟩ (.string (lowS ⟨#[]⟩)) := ⟨_, rfl⟩
                    have HB6 : Hid (Below wd.heap.size wd w6) := by rw [hw6]; exact HBl.out.setCell (by show wd.heap.size ≤ wd.heap.size + 1; omega) _
                    have HP6 : Hid (w6.heap[wd.heap.size + 1]? = some (.cells #[.int .i64 2, .string (lowS ⟨#[]⟩), .int .u64 cp.n] 57)) := by rw [Hid, hw6]; exact set_blk (i := 1) HPl.out _
                    clear hbl

                    have HF6 : Hid (Fo2 wz w3.heap.size w.heap.size wz.heap.size wa.heap.size #[.string t.n, .slice t.fa t.fs.length t.fc, .slice t.xa t.xs.length t.xc] #[.slice ca cs.length cc, .slice da ds.length dc] ⟨⟨xn, ov, u, true, false⟩, some ⟨ob, oo, none⟩, vc⟩ v0 v (ov.map (partL t.fs true cs)) ((ov.take m).map (partL t.fs true ds)) w6) := HF.out.below HB6.out
                    have HR6 : Hid (w6.heap[wc.heap.size]? = some (.cells #[.slice da ds.length dc] 24)) := (HB6.out.block _ (lt_blk HR.out)).trans HR.out
                    have HLI2 : Hid (false = ((hasL t.fs ov) || hasL t.fs (ov.take (m + 1)))) := by rw [Hid, HHS.out, ← Bool.or_assoc, ← HLI.out]; simp
                    obtain ⟨av, cv, hvv⟩ := HF6.out.o1.shape
                    have hml : ((ov.take m).map (partL t.fs true ds)).length = m := by simp; omega
                    rw [hml] at hvv
                    subst hvv
                    go_upto_region 25 with fail
                    rw [← hw6]
                    clear hw6
                    have b0 : w6.cell? ⟨wd.heap.size + 1, 0, none⟩ = some (.int .i64 2) := by rw [cell_blk HP6.out]; rfl
                    have b1 : w6.cell? ⟨wd.heap.size + 1, 1, none⟩ = some (.string (lowS ⟨#[]⟩)) := by rw [cell_blk HP6.out]; rfl
                    have b2 : w6.cell? ⟨wd.heap.size + 1, 2, none⟩ = some (.int .u64 cp.n) := by rw [cell_blk HP6.out]; rfl
                    have pv : w6.cell? ⟨wa.heap.size, 1, none⟩ = some (.slice av m cv) := by rw [cell_blk HF6.out.pb]; rfl
                    have hpa : wa.heap.size < w6.heap.size := lt_blk HF6.out.pb
                    have hB6 : wz.heap.size ≤ w6.heap.size := HF6.out.be.size
                    have HOW : Hid ((w6.drew.alloc (.cells #[.int .i64 2, .string (lowS ⟨#[]⟩), .int .u64 cp.n] 57)).ownsRow wz.heap.size 57 3 (.slice av m cv) m (pcs ((ov.take m).map (partL t.fs true ds)))) := by
                      have h := HF6.out.o1
                      unfold OwnP at h
                      rw [hml] at h
                      exact row_below h ((⟨rfl, rfl, rfl, Nat.le_refl _, fun _ _ => rfl⟩ : Below w6.heap.size w6 w6.drew).alloc (Nat.le_refl _) _)
                    have HCW : Hid (CellsAt (w6.drew.alloc (.cells #[.int .i64 2, .string (lowS ⟨#[]⟩), .int .u64 cp.n] 57)) (some ⟨w6.drew.heap.size, 0, none⟩) (pcs [(⟨2, lowS ⟨#[]⟩, cp.n⟩ : Pt)])) := fun _ => ⟨_, _, rfl, fun q u hq => by rw [Nat.zero_add, cell_blk (new_blk _ _)]; simpa [pcs, Pt.cells] using hq⟩
                    go_region_law
                      (first
                        | (refine step_append_src _ (by rfl) (.tmp 111) (.tmp 113) 51 57 _ 3 32 Try.underlying51 info_prt rfl (by decide) (by rfl) wz.heap.size _ m _ (by rfl) HOW.out (some ⟨w6.drew.heap.size, 0, none⟩) 1 1 (pcs [(⟨2, lowS ⟨#[]⟩, cp.n⟩ : Pt)]) (by rfl) rfl HCW.out (pcs_one _) (by unfold maxLen; omega) (by omega) (by simp; omega) ?_
                           intro v7 w7 hr7 hg7
                           obtain ⟨a7, c7, rfl, -⟩ := row_forms hr7
                           have HG7 : Hid (Grew w6 w7 (.slice av m cv) (.slice a7 (m + 1) c7)) := (Grew.ofAlloc hg7 : Grew w6.drew w7 (.slice av m cv) (.slice a7 (m + 1) c7)) |> fun h => ⟨⟨h.grown.os, h.grown.tape, h.grown.output, h.grown.size, h.grown.block⟩, h.place⟩
                           have HO7 : Hid (OwnP w7 wz.heap.size (.slice a7 (m + 1) c7) ((ov.take (m + 1)).map (partL t.fs true ds))) := by
                             unfold OwnP
                             rw [Hid, HLS.out, List.length_append, hml, pcs_append]
                             exact hr7
                           have HPB7 : Hid (w7.heap[wa.heap.size]? = some (.cells #[v0, .slice av m cv] 52)) := (HG7.out.grown.block _ (lt_blk HF6.out.pb) (fun e => row_ne HF6.out.o1 HF6.out.pb (by decide) e.symm)).trans HF6.out.pb
                           have pv7 : w7.cell? ⟨wa.heap.size, 1, none⟩ = some (.slice av m cv) := by rw [cell_blk HPB7.out]; rfl
                           have z7 : w7.frozen? ⟨wa.heap.size, 1, none⟩ = false := frozen_blk HPB7.out
                           have HF7 : Hid (Fo2 wz w3.heap.size w.heap.size wz.heap.size wa.heap.size #[.string t.n, .slice t.fa t.fs.length t.fc, .slice t.xa t.xs.length t.xc] #[.slice ca cs.length cc, .slice da ds.length dc] ⟨⟨xn, ov, u, true, false⟩, some ⟨ob, oo, none⟩, vc⟩ v0 (.slice a7 (m + 1) c7) (ov.map (partL t.fs true cs)) ((ov.take (m + 1)).map (partL t.fs true ds)) (w7.setCell ⟨wa.heap.size, 1, none⟩ (.slice a7 (m + 1) c7))) := HF6.out.put1 HO7.out HG7.out
                           have HR7 : Hid ((w7.setCell ⟨wa.heap.size, 1, none⟩ (.slice a7 (m + 1) c7)).heap[wc.heap.size]? = some (.cells #[.slice da ds.length dc] 24)) := box_put HF6.out.o1 HG7.out HR6.out HF6.out.pb (by decide) (by decide) _
                           clear hr7 hg7 HO7))
                    all_goals
                      go_wp2
                      go_roundw
                      case rel => exact ⟨m + 1, false, .slice a7 (m + 1) c7, by omega, by go_num, rfl, HLI2, HF7, HR7⟩
                      case measure => simp [intOf]; omega
              · rw [if_neg hk2] at HLS
                have z2 : (kk == 2) = false := by simpa using hk2
                cases l with
                | false =>
                  cases li2 with
                  | true =>
                    obtain ⟨w6, hw6⟩ : ∃ w6, w6 = wp := ⟨_, rfl⟩
                    have HB6 : Hid (Below wd.heap.size wd w6) := by rw [hw6]; exact HBp.out
                    have HP6 : Hid (w6.heap[wd.heap.size + 1]? = some (.cells #[.int .i64 1, .string cp.t, .int .u64 0] 57)) := by rw [Hid, hw6]; exact HPp.out

                    have HF6 : Hid (Fo2 wz w3.heap.size w.heap.size wz.heap.size wa.heap.size #[.string t.n, .slice t.fa t.fs.length t.fc, .slice t.xa t.xs.length t.xc] #[.slice ca cs.length cc, .slice da ds.length dc] ⟨⟨xn, ov, u, false, false⟩, some ⟨ob, oo, none⟩, vc⟩ v0 v (ov.map (partL t.fs false cs)) ((ov.take m).map (partL t.fs false ds)) w6) := HF.out.below HB6.out
                    have HR6 : Hid (w6.heap[wc.heap.size]? = some (.cells #[.slice da ds.length dc] 24)) := (HB6.out.block _ (lt_blk HR.out)).trans HR.out
                    have HLI2 : Hid (true = ((hasL t.fs ov) || hasL t.fs (ov.take (m + 1)))) := by rw [Hid, HHS.out, ← Bool.or_assoc, ← HLI.out]; simp
                    obtain ⟨av, cv, hvv⟩ := HF6.out.o1.shape
                    have hml : ((ov.take m).map (partL t.fs false ds)).length = m := by simp; omega
                    rw [hml] at hvv
                    subst hvv
                    go_upto_region 25 with fail
                    rw [← hw6]
                    clear hw6
                    have b0 : w6.cell? ⟨wd.heap.size + 1, 0, none⟩ = some (.int .i64 1) := by rw [cell_blk HP6.out]; rfl
                    have b1 : w6.cell? ⟨wd.heap.size + 1, 1, none⟩ = some (.string cp.t) := by rw [cell_blk HP6.out]; rfl
                    have b2 : w6.cell? ⟨wd.heap.size + 1, 2, none⟩ = some (.int .u64 0) := by rw [cell_blk HP6.out]; rfl
                    have pv : w6.cell? ⟨wa.heap.size, 1, none⟩ = some (.slice av m cv) := by rw [cell_blk HF6.out.pb]; rfl
                    have hpa : wa.heap.size < w6.heap.size := lt_blk HF6.out.pb
                    have hB6 : wz.heap.size ≤ w6.heap.size := HF6.out.be.size
                    have HOW : Hid ((w6.drew.alloc (.cells #[.int .i64 1, .string cp.t, .int .u64 0] 57)).ownsRow wz.heap.size 57 3 (.slice av m cv) m (pcs ((ov.take m).map (partL t.fs false ds)))) := by
                      have h := HF6.out.o1
                      unfold OwnP at h
                      rw [hml] at h
                      exact row_below h ((⟨rfl, rfl, rfl, Nat.le_refl _, fun _ _ => rfl⟩ : Below w6.heap.size w6 w6.drew).alloc (Nat.le_refl _) _)
                    have HCW : Hid (CellsAt (w6.drew.alloc (.cells #[.int .i64 1, .string cp.t, .int .u64 0] 57)) (some ⟨w6.drew.heap.size, 0, none⟩) (pcs [(⟨1, cp.t, 0⟩ : Pt)])) := fun _ => ⟨_, _, rfl, fun q u hq => by rw [Nat.zero_add, cell_blk (new_blk _ _)]; simpa [pcs, Pt.cells] using hq⟩
                    go_region_law
                      (first
                        | (refine step_append_src _ (by rfl) (.tmp 111) (.tmp 113) 51 57 _ 3 32 Try.underlying51 info_prt rfl (by decide) (by rfl) wz.heap.size _ m _ (by rfl) HOW.out (some ⟨w6.drew.heap.size, 0, none⟩) 1 1 (pcs [(⟨1, cp.t, 0⟩ : Pt)]) (by rfl) rfl HCW.out (pcs_one _) (by unfold maxLen; omega) (by omega) (by simp; omega) ?_
                           intro v7 w7 hr7 hg7
                           obtain ⟨a7, c7, rfl, -⟩ := row_forms hr7
                           have HG7 : Hid (Grew w6 w7 (.slice av m cv) (.slice a7 (m + 1) c7)) := (Grew.ofAlloc hg7 : Grew w6.drew w7 (.slice av m cv) (.slice a7 (m + 1) c7)) |> fun h => ⟨⟨h.grown.os, h.grown.tape, h.grown.output, h.grown.size, h.grown.block⟩, h.place⟩
                           have HO7 : Hid (OwnP w7 wz.heap.size (.slice a7 (m + 1) c7) ((ov.take (m + 1)).map (partL t.fs false ds))) := by
                             unfold OwnP
                             rw [Hid, HLS.out, List.length_append, hml, pcs_append]
                             exact hr7
                           have HPB7 : Hid (w7.heap[wa.heap.size]? = some (.cells #[v0, .slice av m cv] 52)) := (HG7.out.grown.block _ (lt_blk HF6.out.pb) (fun e => row_ne HF6.out.o1 HF6.out.pb (by decide) e.symm)).trans HF6.out.pb
                           have pv7 : w7.cell? ⟨wa.heap.size, 1, none⟩ = some (.slice av m cv) := by rw [cell_blk HPB7.out]; rfl
                           have z7 : w7.frozen? ⟨wa.heap.size, 1, none⟩ = false := frozen_blk HPB7.out
                           have HF7 : Hid (Fo2 wz w3.heap.size w.heap.size wz.heap.size wa.heap.size #[.string t.n, .slice t.fa t.fs.length t.fc, .slice t.xa t.xs.length t.xc] #[.slice ca cs.length cc, .slice da ds.length dc] ⟨⟨xn, ov, u, false, false⟩, some ⟨ob, oo, none⟩, vc⟩ v0 (.slice a7 (m + 1) c7) (ov.map (partL t.fs false cs)) ((ov.take (m + 1)).map (partL t.fs false ds)) (w7.setCell ⟨wa.heap.size, 1, none⟩ (.slice a7 (m + 1) c7))) := HF6.out.put1 HO7.out HG7.out
                           have HR7 : Hid ((w7.setCell ⟨wa.heap.size, 1, none⟩ (.slice a7 (m + 1) c7)).heap[wc.heap.size]? = some (.cells #[.slice da ds.length dc] 24)) := box_put HF6.out.o1 HG7.out HR6.out HF6.out.pb (by decide) (by decide) _
                           clear hr7 hg7 HO7))
                    all_goals
                      go_wp2
                      go_roundw
                      case rel => exact ⟨m + 1, true, .slice a7 (m + 1) c7, by omega, by go_num, rfl, HLI2, HF7, HR7⟩
                      case measure => simp [intOf]; omega
                  | false =>
                    obtain ⟨w6, hw6⟩ : ∃ w6, w6 = wp := ⟨_, rfl⟩
                    have HB6 : Hid (Below wd.heap.size wd w6) := by rw [hw6]; exact HBp.out
                    have HP6 : Hid (w6.heap[wd.heap.size + 1]? = some (.cells #[.int .i64 1, .string cp.t, .int .u64 0] 57)) := by rw [Hid, hw6]; exact HPp.out

                    have HF6 : Hid (Fo2 wz w3.heap.size w.heap.size wz.heap.size wa.heap.size #[.string t.n, .slice t.fa t.fs.length t.fc, .slice t.xa t.xs.length t.xc] #[.slice ca cs.length cc, .slice da ds.length dc] ⟨⟨xn, ov, u, false, false⟩, some ⟨ob, oo, none⟩, vc⟩ v0 v (ov.map (partL t.fs false cs)) ((ov.take m).map (partL t.fs false ds)) w6) := HF.out.below HB6.out
                    have HR6 : Hid (w6.heap[wc.heap.size]? = some (.cells #[.slice da ds.length dc] 24)) := (HB6.out.block _ (lt_blk HR.out)).trans HR.out
                    have HLI2 : Hid ((kk == 3) = ((hasL t.fs ov) || hasL t.fs (ov.take (m + 1)))) := by rw [Hid, HHS.out, ← Bool.or_assoc, ← HLI.out]; simp
                    obtain ⟨av, cv, hvv⟩ := HF6.out.o1.shape
                    have hml : ((ov.take m).map (partL t.fs false ds)).length = m := by simp; omega
                    rw [hml] at hvv
                    subst hvv
                    go_upto_region 25 with fail
                    rw [← hw6]
                    clear hw6
                    have b0 : w6.cell? ⟨wd.heap.size + 1, 0, none⟩ = some (.int .i64 1) := by rw [cell_blk HP6.out]; rfl
                    have b1 : w6.cell? ⟨wd.heap.size + 1, 1, none⟩ = some (.string cp.t) := by rw [cell_blk HP6.out]; rfl
                    have b2 : w6.cell? ⟨wd.heap.size + 1, 2, none⟩ = some (.int .u64 0) := by rw [cell_blk HP6.out]; rfl
                    have pv : w6.cell? ⟨wa.heap.size, 1, none⟩ = some (.slice av m cv) := by rw [cell_blk HF6.out.pb]; rfl
                    have hpa : wa.heap.size < w6.heap.size := lt_blk HF6.out.pb
                    have hB6 : wz.heap.size ≤ w6.heap.size := HF6.out.be.size
                    have HOW : Hid ((w6.drew.alloc (.cells #[.int .i64 1, .string cp.t, .int .u64 0] 57)).ownsRow wz.heap.size 57 3 (.slice av m cv) m (pcs ((ov.take m).map (partL t.fs false ds)))) := by
                      have h := HF6.out.o1
                      unfold OwnP at h
                      rw [hml] at h
                      exact row_below h ((⟨rfl, rfl, rfl, Nat.le_refl _, fun _ _ => rfl⟩ : Below w6.heap.size w6 w6.drew).alloc (Nat.le_refl _) _)
                    have HCW : Hid (CellsAt (w6.drew.alloc (.cells #[.int .i64 1, .string cp.t, .int .u64 0] 57)) (some ⟨w6.drew.heap.size, 0, none⟩) (pcs [(⟨1, cp.t, 0⟩ : Pt)])) := fun _ => ⟨_, _, rfl, fun q u hq => by rw [Nat.zero_add, cell_blk (new_blk _ _)]; simpa [pcs, Pt.cells] using hq⟩
                    go_region_law
                      (first
                        | (refine step_append_src _ (by rfl) (.tmp 111) (.tmp 113) 51 57 _ 3 32 Try.underlying51 info_prt rfl (by decide) (by rfl) wz.heap.size _ m _ (by rfl) HOW.out (some ⟨w6.drew.heap.size, 0, none⟩) 1 1 (pcs [(⟨1, cp.t, 0⟩ : Pt)]) (by rfl) rfl HCW.out (pcs_one _) (by unfold maxLen; omega) (by omega) (by simp; omega) ?_
                           intro v7 w7 hr7 hg7
                           obtain ⟨a7, c7, rfl, -⟩ := row_forms hr7
                           have HG7 : Hid (Grew w6 w7 (.slice av m cv) (.slice a7 (m + 1) c7)) := (Grew.ofAlloc hg7 : Grew w6.drew w7 (.slice av m cv) (.slice a7 (m + 1) c7)) |> fun h => ⟨⟨h.grown.os, h.grown.tape, h.grown.output, h.grown.size, h.grown.block⟩, h.place⟩
                           have HO7 : Hid (OwnP w7 wz.heap.size (.slice a7 (m + 1) c7) ((ov.take (m + 1)).map (partL t.fs false ds))) := by
                             unfold OwnP
                             rw [Hid, HLS.out, List.length_append, hml, pcs_append]
                             exact hr7
                           have HPB7 : Hid (w7.heap[wa.heap.size]? = some (.cells #[v0, .slice av m cv] 52)) := (HG7.out.grown.block _ (lt_blk HF6.out.pb) (fun e => row_ne HF6.out.o1 HF6.out.pb (by decide) e.symm)).trans HF6.out.pb
                           have pv7 : w7.cell? ⟨wa.heap.size, 1, none⟩ = some (.slice av m cv) := by rw [cell_blk HPB7.out]; rfl
                           have z7 : w7.frozen? ⟨wa.heap.size, 1, none⟩ = false := frozen_blk HPB7.out
                           have HF7 : Hid (Fo2 wz w3.heap.size w.heap.size wz.heap.size wa.heap.size #[.string t.n, .slice t.fa t.fs.length t.fc, .slice t.xa t.xs.length t.xc] #[.slice ca cs.length cc, .slice da ds.length dc] ⟨⟨xn, ov, u, false, false⟩, some ⟨ob, oo, none⟩, vc⟩ v0 (.slice a7 (m + 1) c7) (ov.map (partL t.fs false cs)) ((ov.take (m + 1)).map (partL t.fs false ds)) (w7.setCell ⟨wa.heap.size, 1, none⟩ (.slice a7 (m + 1) c7))) := HF6.out.put1 HO7.out HG7.out
                           have HR7 : Hid ((w7.setCell ⟨wa.heap.size, 1, none⟩ (.slice a7 (m + 1) c7)).heap[wc.heap.size]? = some (.cells #[.slice da ds.length dc] 24)) := box_put HF6.out.o1 HG7.out HR6.out HF6.out.pb (by decide) (by decide) _
                           clear hr7 hg7 HO7))
                    all_goals
                      go_wp2
                      go_roundw
                      case rel => exact ⟨m + 1, (kk == 3), .slice a7 (m + 1) c7, by omega, by go_num, rfl, HLI2, HF7, HR7⟩
                      case measure => simp [intOf]; omega
                | true =>
                  cases li2 with
                  | true =>
                    obtain ⟨wq, hwq⟩ : ∃ wq, wq = wp := ⟨_, rfl⟩
                    have HBq : Hid (Below wd.heap.size wd wq) := by rw [hwq]; exact HBp.out
                    have HPq : Hid (wq.heap[wd.heap.size + 1]? = some (.cells #[.int .i64 1, .string cp.t, .int .u64 0] 57)) := by rw [Hid, hwq]; exact HPp.out
                    have HLW : Hid (Calls Try.prog 16 #[.string cp.t] wq fun e w' => e = .returned (.string (lowS cp.t)) ∧ Below wq.heap.size wq w') := low_calls cp.t wq (by have := HWP.out.1; omega)
                    have x3q : wq.cell? ⟨wz.heap.size, 3, none⟩ = some (.bool true) := by rw [HBq.out.cell (by exact hlxd), ← HBp.out.cell (by exact hlxd)]; exact x3'
                    have g1q : wq.cell? ⟨wd.heap.size + 1, 1, none⟩ = some (.string cp.t) := by rw [cell_blk HPq.out]; rfl
                    go_upto_region 22 with fail
                    rw [← hwq]
                    clear hwq g0 g1 g2 y0 y1 y2
                    go_wp2_with fail
                    refine HLW.out.mono ?_
                    clear HLW
                    rintro e wl ⟨rfl, hbl⟩
                    have HBl : Hid (Below wd.heap.size wd wl) := HBq.out.trans (hbl.mono HBq.out.size)
                    have HPl : Hid (wl.heap[wd.heap.size + 1]? = some (.cells #[.int .i64 1, .string cp.t, .int .u64 0] 57)) := (hbl.block _ (lt_blk HPq.out)).trans HPq.out
                    have g1l : wl.cell? ⟨wd.heap.size + 1, 1, none⟩ = some (.string cp.t) := by rw [cell_blk HPl.out]; rfl
                    have y1l : wl.frozen? ⟨wd.heap.size + 1, 1, none⟩ = false := frozen_blk HPl.out
                    have t1l : wl.cell? ⟨w3.heap.size, 1, none⟩ = some (.slice (some ⟨fb, fo, none⟩) t.fs.length t.fc) := by rw [HBl.out.cell (by exact hl3d), ← HBp.out.cell (by exact hl3d)]; exact t1'
                    have f1l : wl.cell? ⟨fb, fo + p * 2 + 1, none⟩ = some (.int .i64 kk) := by rw [HBl.out.cell (by exact hfbd), ← HBp.out.cell (by exact hfbd)]; exact f1'
                    obtain ⟨w6, hw6⟩ : ∃ w6, w6 = wl.setCell ⟨wd.heap.size + 1, 1, none⟩ (.string (lowS cp.t)) := ⟨_, rfl⟩
                    have HB6 : Hid (Below wd.heap.size wd w6) := by rw [hw6]; exact HBl.out.setCell (by show wd.heap.size ≤ wd.heap.size + 1; omega) _
                    have HP6 : Hid (w6.heap[wd.heap.size + 1]? = some (.cells #[.int .i64 1, .string (lowS cp.t), .int .u64 0] 57)) := by rw [Hid, hw6]; exact set_blk (i := 1) HPl.out _
                    clear hbl

                    have HF6 : Hid (Fo2 wz w3.heap.size w.heap.size wz.heap.size wa.heap.size #[.string t.n, .slice t.fa t.fs.length t.fc, .slice t.xa t.xs.length t.xc] #[.slice ca cs.length cc, .slice da ds.length dc] ⟨⟨xn, ov, u, true, false⟩, some ⟨ob, oo, none⟩, vc⟩ v0 v (ov.map (partL t.fs true cs)) ((ov.take m).map (partL t.fs true ds)) w6) := HF.out.below HB6.out
                    have HR6 : Hid (w6.heap[wc.heap.size]? = some (.cells #[.slice da ds.length dc] 24)) := (HB6.out.block _ (lt_blk HR.out)).trans HR.out
                    have HLI2 : Hid (true = ((hasL t.fs ov) || hasL t.fs (ov.take (m + 1)))) := by rw [Hid, HHS.out, ← Bool.or_assoc, ← HLI.out]; simp
                    obtain ⟨av, cv, hvv⟩ := HF6.out.o1.shape
                    have hml : ((ov.take m).map (partL t.fs true ds)).length = m := by simp; omega
                    rw [hml] at hvv
                    subst hvv
                    go_upto_region 25 with fail
                    rw [← hw6]
                    clear hw6
                    have b0 : w6.cell? ⟨wd.heap.size + 1, 0, none⟩ = some (.int .i64 1) := by rw [cell_blk HP6.out]; rfl
                    have b1 : w6.cell? ⟨wd.heap.size + 1, 1, none⟩ = some (.string (lowS cp.t)) := by rw [cell_blk HP6.out]; rfl
                    have b2 : w6.cell? ⟨wd.heap.size + 1, 2, none⟩ = some (.int .u64 0) := by rw [cell_blk HP6.out]; rfl
                    have pv : w6.cell? ⟨wa.heap.size, 1, none⟩ = some (.slice av m cv) := by rw [cell_blk HF6.out.pb]; rfl
                    have hpa : wa.heap.size < w6.heap.size := lt_blk HF6.out.pb
                    have hB6 : wz.heap.size ≤ w6.heap.size := HF6.out.be.size
                    have HOW : Hid ((w6.drew.alloc (.cells #[.int .i64 1, .string (lowS cp.t), .int .u64 0] 57)).ownsRow wz.heap.size 57 3 (.slice av m cv) m (pcs ((ov.take m).map (partL t.fs true ds)))) := by
                      have h := HF6.out.o1
                      unfold OwnP at h
                      rw [hml] at h
                      exact row_below h ((⟨rfl, rfl, rfl, Nat.le_refl _, fun _ _ => rfl⟩ : Below w6.heap.size w6 w6.drew).alloc (Nat.le_refl _) _)
                    have HCW : Hid (CellsAt (w6.drew.alloc (.cells #[.int .i64 1, .string (lowS cp.t), .int .u64 0] 57)) (some ⟨w6.drew.heap.size, 0, none⟩) (pcs [(⟨1, lowS cp.t, 0⟩ : Pt)])) := fun _ => ⟨_, _, rfl, fun q u hq => by rw [Nat.zero_add, cell_blk (new_blk _ _)]; simpa [pcs, Pt.cells] using hq⟩
                    go_region_law
                      (first
                        | (refine step_append_src _ (by rfl) (.tmp 111) (.tmp 113) 51 57 _ 3 32 Try.underlying51 info_prt rfl (by decide) (by rfl) wz.heap.size _ m _ (by rfl) HOW.out (some ⟨w6.drew.heap.size, 0, none⟩) 1 1 (pcs [(⟨1, lowS cp.t, 0⟩ : Pt)]) (by rfl) rfl HCW.out (pcs_one _) (by unfold maxLen; omega) (by omega) (by simp; omega) ?_
                           intro v7 w7 hr7 hg7
                           obtain ⟨a7, c7, rfl, -⟩ := row_forms hr7
                           have HG7 : Hid (Grew w6 w7 (.slice av m cv) (.slice a7 (m + 1) c7)) := (Grew.ofAlloc hg7 : Grew w6.drew w7 (.slice av m cv) (.slice a7 (m + 1) c7)) |> fun h => ⟨⟨h.grown.os, h.grown.tape, h.grown.output, h.grown.size, h.grown.block⟩, h.place⟩
                           have HO7 : Hid (OwnP w7 wz.heap.size (.slice a7 (m + 1) c7) ((ov.take (m + 1)).map (partL t.fs true ds))) := by
                             unfold OwnP
                             rw [Hid, HLS.out, List.length_append, hml, pcs_append]
                             exact hr7
                           have HPB7 : Hid (w7.heap[wa.heap.size]? = some (.cells #[v0, .slice av m cv] 52)) := (HG7.out.grown.block _ (lt_blk HF6.out.pb) (fun e => row_ne HF6.out.o1 HF6.out.pb (by decide) e.symm)).trans HF6.out.pb
                           have pv7 : w7.cell? ⟨wa.heap.size, 1, none⟩ = some (.slice av m cv) := by rw [cell_blk HPB7.out]; rfl
                           have z7 : w7.frozen? ⟨wa.heap.size, 1, none⟩ = false := frozen_blk HPB7.out
                           have HF7 : Hid (Fo2 wz w3.heap.size w.heap.size wz.heap.size wa.heap.size #[.string t.n, .slice t.fa t.fs.length t.fc, .slice t.xa t.xs.length t.xc] #[.slice ca cs.length cc, .slice da ds.length dc] ⟨⟨xn, ov, u, true, false⟩, some ⟨ob, oo, none⟩, vc⟩ v0 (.slice a7 (m + 1) c7) (ov.map (partL t.fs true cs)) ((ov.take (m + 1)).map (partL t.fs true ds)) (w7.setCell ⟨wa.heap.size, 1, none⟩ (.slice a7 (m + 1) c7))) := HF6.out.put1 HO7.out HG7.out
                           have HR7 : Hid ((w7.setCell ⟨wa.heap.size, 1, none⟩ (.slice a7 (m + 1) c7)).heap[wc.heap.size]? = some (.cells #[.slice da ds.length dc] 24)) := box_put HF6.out.o1 HG7.out HR6.out HF6.out.pb (by decide) (by decide) _
                           clear hr7 hg7 HO7))
                    all_goals
                      go_wp2
                      go_roundw
                      case rel => exact ⟨m + 1, true, .slice a7 (m + 1) c7, by omega, by go_num, rfl, HLI2, HF7, HR7⟩
                      case measure => simp [intOf]; omega
                  | false =>
                    obtain ⟨wq, hwq⟩ : ∃ wq, wq = wp := ⟨_, rfl⟩
                    have HBq : Hid (Below wd.heap.size wd wq) := by rw [hwq]; exact HBp.out
                    have HPq : Hid (wq.heap[wd.heap.size + 1]? = some (.cells #[.int .i64 1, .string cp.t, .int .u64 0] 57)) := by rw [Hid, hwq]; exact HPp.out
                    have HLW : Hid (Calls Try.prog 16 #[.string cp.t] wq fun e w' => e = .returned (.string (lowS cp.t)) ∧ Below wq.heap.size wq w') := low_calls cp.t wq (by have := HWP.out.1; omega)
                    have x3q : wq.cell? ⟨wz.heap.size, 3, none⟩ = some (.bool true) := by rw [HBq.out.cell (by exact hlxd), ← HBp.out.cell (by exact hlxd)]; exact x3'
                    have g1q : wq.cell? ⟨wd.heap.size + 1, 1, none⟩ = some (.string cp.t) := by rw [cell_blk HPq.out]; rfl
                    go_upto_region 22 with fail
                    rw [← hwq]
                    clear hwq g0 g1 g2 y0 y1 y2
                    go_wp2_with fail
                    refine HLW.out.mono ?_
                    clear HLW
                    rintro e wl ⟨rfl, hbl⟩
                    have HBl : Hid (Below wd.heap.size wd wl) := HBq.out.trans (hbl.mono HBq.out.size)
                    have HPl : Hid (wl.heap[wd.heap.size + 1]? = some (.cells #[.int .i64 1, .string cp.t, .int .u64 0] 57)) := (hbl.block _ (lt_blk HPq.out)).trans HPq.out
                    have g1l : wl.cell? ⟨wd.heap.size + 1, 1, none⟩ = some (.string cp.t) := by rw [cell_blk HPl.out]; rfl
                    have y1l : wl.frozen? ⟨wd.heap.size + 1, 1, none⟩ = false := frozen_blk HPl.out
                    have t1l : wl.cell? ⟨w3.heap.size, 1, none⟩ = some (.slice (some ⟨fb, fo, none⟩) t.fs.length t.fc) := by rw [HBl.out.cell (by exact hl3d), ← HBp.out.cell (by exact hl3d)]; exact t1'
                    have f1l : wl.cell? ⟨fb, fo + p * 2 + 1, none⟩ = some (.int .i64 kk) := by rw [HBl.out.cell (by exact hfbd), ← HBp.out.cell (by exact hfbd)]; exact f1'
                    obtain ⟨w6, hw6⟩ : ∃ w6, w6 = wl.setCell ⟨wd.heap.size + 1, 1, none⟩ (.string (lowS cp.t)) := ⟨_, rfl⟩
                    have HB6 : Hid (Below wd.heap.size wd w6) := by rw [hw6]; exact HBl.out.setCell (by show wd.heap.size ≤ wd.heap.size + 1; omega) _
                    have HP6 : Hid (w6.heap[wd.heap.size + 1]? = some (.cells #[.int .i64 1, .string (lowS cp.t), .int .u64 0] 57)) := by rw [Hid, hw6]; exact set_blk (i := 1) HPl.out _
                    clear hbl

                    have HF6 : Hid (Fo2 wz w3.heap.size w.heap.size wz.heap.size wa.heap.size #[.string t.n, .slice t.fa t.fs.length t.fc, .slice t.xa t.xs.length t.xc] #[.slice ca cs.length cc, .slice da ds.length dc] ⟨⟨xn, ov, u, true, false⟩, some ⟨ob, oo, none⟩, vc⟩ v0 v (ov.map (partL t.fs true cs)) ((ov.take m).map (partL t.fs true ds)) w6) := HF.out.below HB6.out
                    have HR6 : Hid (w6.heap[wc.heap.size]? = some (.cells #[.slice da ds.length dc] 24)) := (HB6.out.block _ (lt_blk HR.out)).trans HR.out
                    have HLI2 : Hid ((kk == 3) = ((hasL t.fs ov) || hasL t.fs (ov.take (m + 1)))) := by rw [Hid, HHS.out, ← Bool.or_assoc, ← HLI.out]; simp
                    obtain ⟨av, cv, hvv⟩ := HF6.out.o1.shape
                    have hml : ((ov.take m).map (partL t.fs true ds)).length = m := by simp; omega
                    rw [hml] at hvv
                    subst hvv
                    go_upto_region 25 with fail
                    rw [← hw6]
                    clear hw6
                    have b0 : w6.cell? ⟨wd.heap.size + 1, 0, none⟩ = some (.int .i64 1) := by rw [cell_blk HP6.out]; rfl
                    have b1 : w6.cell? ⟨wd.heap.size + 1, 1, none⟩ = some (.string (lowS cp.t)) := by rw [cell_blk HP6.out]; rfl
                    have b2 : w6.cell? ⟨wd.heap.size + 1, 2, none⟩ = some (.int .u64 0) := by rw [cell_blk HP6.out]; rfl
                    have pv : w6.cell? ⟨wa.heap.size, 1, none⟩ = some (.slice av m cv) := by rw [cell_blk HF6.out.pb]; rfl
                    have hpa : wa.heap.size < w6.heap.size := lt_blk HF6.out.pb
                    have hB6 : wz.heap.size ≤ w6.heap.size := HF6.out.be.size
                    have HOW : Hid ((w6.drew.alloc (.cells #[.int .i64 1, .string (lowS cp.t), .int .u64 0] 57)).ownsRow wz.heap.size 57 3 (.slice av m cv) m (pcs ((ov.take m).map (partL t.fs true ds)))) := by
                      have h := HF6.out.o1
                      unfold OwnP at h
                      rw [hml] at h
                      exact row_below h ((⟨rfl, rfl, rfl, Nat.le_refl _, fun _ _ => rfl⟩ : Below w6.heap.size w6 w6.drew).alloc (Nat.le_refl _) _)
                    have HCW : Hid (CellsAt (w6.drew.alloc (.cells #[.int .i64 1, .string (lowS cp.t), .int .u64 0] 57)) (some ⟨w6.drew.heap.size, 0, none⟩) (pcs [(⟨1, lowS cp.t, 0⟩ : Pt)])) := fun _ => ⟨_, _, rfl, fun q u hq => by rw [Nat.zero_add, cell_blk (new_blk _ _)]; simpa [pcs, Pt.cells] using hq⟩
                    go_region_law
                      (first
                        | (refine step_append_src _ (by rfl) (.tmp 111) (.tmp 113) 51 57 _ 3 32 Try.underlying51 info_prt rfl (by decide) (by rfl) wz.heap.size _ m _ (by rfl) HOW.out (some ⟨w6.drew.heap.size, 0, none⟩) 1 1 (pcs [(⟨1, lowS cp.t, 0⟩ : Pt)]) (by rfl) rfl HCW.out (pcs_one _) (by unfold maxLen; omega) (by omega) (by simp; omega) ?_
                           intro v7 w7 hr7 hg7
                           obtain ⟨a7, c7, rfl, -⟩ := row_forms hr7
                           have HG7 : Hid (Grew w6 w7 (.slice av m cv) (.slice a7 (m + 1) c7)) := (Grew.ofAlloc hg7 : Grew w6.drew w7 (.slice av m cv) (.slice a7 (m + 1) c7)) |> fun h => ⟨⟨h.grown.os, h.grown.tape, h.grown.output, h.grown.size, h.grown.block⟩, h.place⟩
                           have HO7 : Hid (OwnP w7 wz.heap.size (.slice a7 (m + 1) c7) ((ov.take (m + 1)).map (partL t.fs true ds))) := by
                             unfold OwnP
                             rw [Hid, HLS.out, List.length_append, hml, pcs_append]
                             exact hr7
                           have HPB7 : Hid (w7.heap[wa.heap.size]? = some (.cells #[v0, .slice av m cv] 52)) := (HG7.out.grown.block _ (lt_blk HF6.out.pb) (fun e => row_ne HF6.out.o1 HF6.out.pb (by decide) e.symm)).trans HF6.out.pb
                           have pv7 : w7.cell? ⟨wa.heap.size, 1, none⟩ = some (.slice av m cv) := by rw [cell_blk HPB7.out]; rfl
                           have z7 : w7.frozen? ⟨wa.heap.size, 1, none⟩ = false := frozen_blk HPB7.out
                           have HF7 : Hid (Fo2 wz w3.heap.size w.heap.size wz.heap.size wa.heap.size #[.string t.n, .slice t.fa t.fs.length t.fc, .slice t.xa t.xs.length t.xc] #[.slice ca cs.length cc, .slice da ds.length dc] ⟨⟨xn, ov, u, true, false⟩, some ⟨ob, oo, none⟩, vc⟩ v0 (.slice a7 (m + 1) c7) (ov.map (partL t.fs true cs)) ((ov.take (m + 1)).map (partL t.fs true ds)) (w7.setCell ⟨wa.heap.size, 1, none⟩ (.slice a7 (m + 1) c7))) := HF6.out.put1 HO7.out HG7.out
                           have HR7 : Hid ((w7.setCell ⟨wa.heap.size, 1, none⟩ (.slice a7 (m + 1) c7)).heap[wc.heap.size]? = some (.cells #[.slice da ds.length dc] 24)) := box_put HF6.out.o1 HG7.out HR6.out HF6.out.pb (by decide) (by decide) _
                           clear hr7 hg7 HO7))
                    all_goals
                      go_wp2
                      go_roundw
                      case rel => exact ⟨m + 1, (kk == 3), .slice a7 (m + 1) c7, by omega, by go_num, rfl, HLI2, HF7, HR7⟩
                      case measure => simp [intOf]; omega
        · as_aux_lemma =>
            cases hh : hasL t.fs ov with
            | true =>
              rw [hh] at HST
              have HBn : Hid (Below w8.heap.size w8 wc) := HB.out.trans (HF.out.be.mono HB.out.size)
              clear HST HF hh
              go_wp2
              go_roundw
              case rel => exact ⟨k + 1, by omega, by go_num, HBn⟩
              case measure => simp [intOf]; omega
            | false =>
              have HNO : Hid (noList t.fs ov) := hasL_no hh
              have HO0 : Hid (FOk t ⟨⟨xn, ov, u, l, false⟩, va, vc⟩ cs) := ⟨HTR4.out.ovok HFC0.out HXM.out, HNO.out, HTR4.out.kinds HXM.out, rfl, HE0.out.symm, HXM.out, HWF.out.1⟩
              have HO1 : Hid (FOk t ⟨⟨xn, ov, u, l, false⟩, va, vc⟩ ds) := ⟨HTR4.out.ovok HFC1.out HXM.out, HNO.out, HTR4.out.kinds HXM.out, rfl, HE1.out.symm, HXM.out, HWF.out.2⟩
              have HQ0 := HO0.out.keys HXK.out
              have HQ1 := HO1.out.keys HXK.out
              have HPR := HO0.out.probe HXK.out
              have HL0 := HO0.out.index.2
              have HL1 := HO1.out.index.2
              have HS0 := HO0.out.starts HO0.out (bhP_plain HTR4.out HRO.out HXM.out HFC0.out HWF.out.1)
              have HS1 := HO0.out.starts HO1.out (bhP_plain HTR4.out HRO.out HXM.out HFC1.out HWF.out.2)
              have HUN := fun hu : u = true => HO0.out.uniq HO1.out hu
              have HW0 := lawP_plain HO0.out.ok HO0.out.no HO0.out.wf
              have HW1 := lawP_plain HO1.out.ok HO1.out.no HO1.out.wf
              have hon := HXO.out.one
              have HPL0 := lawP_len t.fs ⟨xn, ov, u, l, false⟩ cs
              have HPL1 := lawP_len t.fs ⟨xn, ov, u, l, false⟩ ds
              dsimp only at HQ0 HQ1 HPR HL0 HL1 HS0 HS1 HUN HW0 HW1 hon HPL0 HPL1
              change Hid (Fo2 wz w3.heap.size w.heap.size wz.heap.size wa.heap.size #[.string t.n, .slice t.fa t.fs.length t.fc, .slice t.xa t.xs.length t.xc] #[.slice ca cs.length cc, .slice da ds.length dc] ⟨⟨xn, ov, u, l, false⟩, va, vc⟩ v0 v1 (lawP t.fs ⟨xn, ov, u, l, false⟩ cs) (lawP t.fs ⟨xn, ov, u, l, false⟩ ds) wc) at HF
              rw [(sameB_iff _ _).2 rfl] at HS0
              have HPE : Hid ((enc false (lawP t.fs ⟨xn, ov, u, l, false⟩ cs)).length ≤ 1024) := by
                have h1 := HL0
                rw [enc_fappend, List.length_append] at h1
                rw [Hid]
                omega
              clear HST
              generalize lawP t.fs ⟨xn, ov, u, l, false⟩ cs = P0 at *
              generalize lawP t.fs ⟨xn, ov, u, l, false⟩ ds = P1 at *
              generalize bhP t ⟨⟨xn, ov, u, l, false⟩, va, vc⟩ cs = b0 at *
              generalize bhP t ⟨⟨xn, ov, u, l, false⟩, va, vc⟩ ds = b1 at *
              generalize enc false (P0 ++ b0) = E0 at *
              generalize enc false (P1 ++ b1) = E1 at *
              generalize enc false P0 = Pr at *
              obtain ⟨sm, hsm⟩ : ∃ sm, sm = sameB P0 P1 := ⟨_, rfl⟩
              rw [← hsm] at HS1 HUN
              have HSM : Hid (sm = sameB P0 P1) := hsm
              have HQ0 : Hid (keysP t.tb k cs = ([E0], 0)) := HQ0
              have HQ1 : Hid (keysP t.tb k ds = ([E1], 0)) := HQ1
              have HPR : Hid (probeP t.tb k P0 false = (Pr, 0)) := HPR
              have HSS : Hid (startsB E0 Pr = true ∧ startsB E1 Pr = sm) := ⟨HS0, HS1⟩
              have HUN : Hid (u = true → decide (E0 = E1) = sm) := HUN
              have HLL : Hid (E0.length ≤ 1024 ∧ E1.length ≤ 1024) := ⟨HL0, HL1⟩
              have HWW : Hid ((∀ q ∈ P0, Plain q ∧ q.wf) ∧ ∀ q ∈ P1, Plain q ∧ q.wf) := ⟨HW0, HW1⟩
              have HPL : Hid (P0.length = ov.length ∧ P1.length = ov.length) := ⟨HPL0, HPL1⟩
              clear HS0 HS1 HL0 HL1 HW0 HW1 hh HO0 HO1 hsm HPL0 HPL1
              have HB4c : Hid (Below w4.heap.size w4 wc) := HBr.out.trans (HF.out.be.mono HBr.out.size)
              have HK0 : Hid (∀ W a c es, Below w4.heap.size w4 W → Alike es cs → RowAt W a es → Calls Try.prog 13 #[.agg #[.string t.n, .slice t.fa t.fs.length t.fc, .slice (some ⟨xb, xo, none⟩) t.xs.length t.xc], .int .i64 k, .agg #[.slice a es.length c]] W fun e w' => ∃ v, e = .returned (.tuple #[v, .int .i64 0]) ∧ KeysAt w' W.heap.size v [E0] ∧ Below W.heap.size W w') := fun W a c es hW hal hrd => by
                have := keys_calls t k a c es W ⟨by omega, by omega⟩ (by rw [hal.len]; omega) (HTR4.out.below hW) hrd
                unfold TV.fv TV.xv at this
                rw [hal.keys, HQ0.out, hxa] at this
                exact this
              have HK1 : Hid (∀ W a c es, Below w4.heap.size w4 W → Alike es ds → RowAt W a es → Calls Try.prog 13 #[.agg #[.string t.n, .slice t.fa t.fs.length t.fc, .slice (some ⟨xb, xo, none⟩) t.xs.length t.xc], .int .i64 k, .agg #[.slice a es.length c]] W fun e w' => ∃ v, e = .returned (.tuple #[v, .int .i64 0]) ∧ KeysAt w' W.heap.size v [E1] ∧ Below W.heap.size W w') := fun W a c es hW hal hrd => by
                have := keys_calls t k a c es W ⟨by omega, by omega⟩ (by rw [hal.len]; omega) (HTR4.out.below hW) hrd
                unfold TV.fv TV.xv at this
                rw [hal.keys, HQ1.out, hxa] at this
                exact this
              have HSK : Hid (∀ W, Below w4.heap.size w4 W → _) := HSK.out
              rw [hxa] at HSK
              have qa := HSK.out wc.drew ⟨HB4c.out.os, HB4c.out.tape, HB4c.out.output, HB4c.out.size, HB4c.out.block⟩
              go_upto_region 29 with fail
              go_region_held3 (fun W => W.cell? ⟨w3.heap.size, 0, none⟩ = some (.string t.n) ∧ W.cell? ⟨w3.heap.size, 1, none⟩ = some (.slice t.fa t.fs.length t.fc) ∧ W.cell? ⟨w3.heap.size, 2, none⟩ = some (.slice (some ⟨xb, xo, none⟩) t.xs.length t.xc) ∧ W.cell? ⟨w.heap.size, 0, none⟩ = some (.slice ca cs.length cc) ∧ W.cell? ⟨w.heap.size, 1, none⟩ = some (.slice da ds.length dc) ∧ Below w4.heap.size w4 W) (first | (exact qc) | (exact qb) | (exact qa) | go_keep)
                  (first
                    | (go_at_call 13
                       refine (HK0.out _ ab cb esb qb.2.2.2.2.2 HALb.out HRb.out).mono ?_
                       rintro e wC ⟨vC, rfl, hkC, hbC⟩
                       have HBbC : Hid (Below wc.heap.size wc wC) := HBab.out.trans (hbC.mono HBab.out.size)
                       have HKC : Hid (KeysAt wC wc.heap.size vC [E0]) := row_mono hkC HBab.out.size
                       have qc := HSK.out wC (qb.2.2.2.2.2.trans (hbC.mono qb.2.2.2.2.2.size))
                       clear hkC hbC)
                    | (go_at_call 10
                       refine (HC0.out _ qa.2.2.2.2.2).mono ?_
                       rintro e wb ⟨⟨ab, cb, esb, rfl, hal, hor⟩, hb⟩
                       have HALb : Hid (Alike esb cs) := hal
                       have HRb : Hid (RowAt wb ab esb) := hor.rowAt (hal.wf HWF.out.1)
                       have HBab : Hid (Below wc.heap.size wc wb) := ⟨hb.os, hb.tape, hb.output, hb.size, hb.block⟩
                       have qb := HSK.out wb (qa.2.2.2.2.2.trans (hb.mono qa.2.2.2.2.2.size))
                       clear hal hor hb))
              have HFc : Hid (Fo2 wz w3.heap.size w.heap.size wz.heap.size wa.heap.size #[.string t.n, .slice t.fa t.fs.length t.fc, .slice t.xa t.xs.length t.xc] #[.slice ca cs.length cc, .slice da ds.length dc] ⟨⟨xn, ov, u, l, false⟩, va, vc⟩ v0 v1 P0 P1 wC) := HF.out.below HBbC.out
              have HB4C : Hid (Below w4.heap.size w4 wC) := qc.2.2.2.2.2
              clear qa qb qc HALb HRb
              obtain ⟨aC, cC, rfl, hfC⟩ := row_forms HKC.out
              obtain ⟨gC, rfl⟩ := hfC (by simp)
              have qa := HSK.out wC.drew ⟨HB4C.out.os, HB4C.out.tape, HB4C.out.output, HB4C.out.size, HB4C.out.block⟩
              go_upto_region 30 with fail
              go_region_held3 (fun W => W.cell? ⟨w3.heap.size, 0, none⟩ = some (.string t.n) ∧ W.cell? ⟨w3.heap.size, 1, none⟩ = some (.slice t.fa t.fs.length t.fc) ∧ W.cell? ⟨w3.heap.size, 2, none⟩ = some (.slice (some ⟨xb, xo, none⟩) t.xs.length t.xc) ∧ W.cell? ⟨w.heap.size, 0, none⟩ = some (.slice ca cs.length cc) ∧ W.cell? ⟨w.heap.size, 1, none⟩ = some (.slice da ds.length dc) ∧ Below w4.heap.size w4 W) (first | (exact qf) | (exact qe) | (exact qa) | go_keep)
                  (first
                    | (go_at_call 13
                       refine (HK1.out _ ae ce ese qe.2.2.2.2.2 HALe.out HRe.out).mono ?_
                       rintro e wF ⟨vF, rfl, hkF, hbF⟩
                       have HBeF : Hid (Below wC.heap.size wC wF) := HBae.out.trans (hbF.mono HBae.out.size)
                       have HKF : Hid (KeysAt wF wC.heap.size vF [E1]) := row_mono hkF HBae.out.size
                       have qf := HSK.out wF (qe.2.2.2.2.2.trans (hbF.mono qe.2.2.2.2.2.size))
                       clear hkF hbF)
                    | (go_at_call 10
                       refine (HC1.out _ qa.2.2.2.2.2).mono ?_
                       rintro e we ⟨⟨ae, ce, ese, rfl, hal, hor⟩, hb⟩
                       have HALe : Hid (Alike ese ds) := hal
                       have HRe : Hid (RowAt we ae ese) := hor.rowAt (hal.wf HWF.out.2)
                       have HBae : Hid (Below wC.heap.size wC we) := ⟨hb.os, hb.tape, hb.output, hb.size, hb.block⟩
                       have qe := HSK.out we (qa.2.2.2.2.2.trans (hb.mono qa.2.2.2.2.2.size))
                       clear hal hor hb))
              have HFf : Hid (Fo2 wz w3.heap.size w.heap.size wz.heap.size wa.heap.size #[.string t.n, .slice t.fa t.fs.length t.fc, .slice t.xa t.xs.length t.xc] #[.slice ca cs.length cc, .slice da ds.length dc] ⟨⟨xn, ov, u, l, false⟩, va, vc⟩ v0 v1 P0 P1 wF) := HFc.out.below HBeF.out
              have HKCF : Hid (KeysAt wF wc.heap.size (.slice (some ⟨gC, 0, none⟩) 1 cC) [E0]) := row_below HKC.out HBeF.out
              have HB4F : Hid (Below w4.heap.size w4 wF) := qf.2.2.2.2.2
              clear qa qe qf HALe HRe HKC
              obtain ⟨aF, cF, rfl, hfF⟩ := row_forms HKF.out
              obtain ⟨gF, rfl⟩ := hfF (by simp)
              obtain ⟨a0, c0, h0v⟩ := HFf.out.o0.shape
              obtain ⟨a1, c1, h1v⟩ := HFf.out.o1.shape
              rw [HPL.out.1] at h0v
              rw [HPL.out.2] at h1v
              subst h0v h1v
              have HSK3 : Hid (∀ W, Below wF.heap.size wF W → W.cell? ⟨w3.heap.size, 0, none⟩ = some (.string t.n) ∧ W.cell? ⟨w3.heap.size, 1, none⟩ = some (.slice t.fa t.fs.length t.fc) ∧ W.cell? ⟨w3.heap.size, 2, none⟩ = some (.slice (some ⟨xb, xo, none⟩) t.xs.length t.xc) ∧ W.cell? ⟨wa.heap.size, 0, none⟩ = some (.slice a0 ov.length c0)) := fun W hW => by
                have h := HSK.out W (HB4F.out.trans (hW.mono HB4F.out.size))
                refine ⟨h.1, h.2.1, h.2.2.1, ?_⟩
                rw [hW.cell (by show wa.heap.size < wF.heap.size; exact lt_blk HFf.out.pb), cell_blk HFf.out.pb]
                rfl
              have hbd : Below wF.heap.size wF wF.drew := ⟨rfl, rfl, rfl, Nat.le_refl _, fun _ _ => rfl⟩
              have hbe : Below wF.heap.size wF (wF.drew.alloc (.cells #[] 57)) := hbd.alloc hbd.size _
              have HOE : Hid ((wF.drew.alloc (.cells #[] 57)).ownsRow wF.heap.size 57 3 (.slice (some ⟨wF.drew.heap.size, 0, none⟩) 0 0) 0 []) := World.ownsRow_lit (size := 3) wF.drew #[] 0 hbd.size (by unfold maxLen; omega) rfl
              have HAE : Hid (CellsAt (wF.drew.alloc (.cells #[] 57)) a0 (pcs P0)) := by
                have h := HFf.out.o0
                unfold OwnP at h
                rw [HPL.out.1] at h
                exact (row_cells h).below hbe
              have hBE : wF.heap.size ≤ (wF.drew.alloc (.cells #[] 57)).heap.size := hbe.size
              have HBE : Hid (Below wF.heap.size wF (wF.drew.alloc (.cells #[] 57))) := hbe
              have hsl : (pcs P0).length = ov.length * 3 := by rw [pcs_length, HPL.out.1]
              have qd := HSK3.out wF.drew hbd
              obtain ⟨f0, f1, f2, f3⟩ := HSK3.out wF (Below.refl _ _)
              have hl3F : w3.heap.size < wF.heap.size := lt_blk HFf.out.tab
              have hpaF : wa.heap.size < wF.heap.size := lt_blk HFf.out.pb
              clear hbd hbe
              go_upto_region 31 with fail
              go_region_held_law (fun W => W.cell? ⟨w3.heap.size, 0, none⟩ = some (.string t.n) ∧ W.cell? ⟨w3.heap.size, 1, none⟩ = some (.slice t.fa t.fs.length t.fc) ∧ W.cell? ⟨w3.heap.size, 2, none⟩ = some (.slice (some ⟨xb, xo, none⟩) t.xs.length t.xc) ∧ W.cell? ⟨wa.heap.size, 0, none⟩ = some (.slice a0 ov.length c0)) (first | (exact qh) | (exact qg) | (exact qd) | go_keep)
                (first
                  | (refine step_append_src _ (by rfl) (.tmp 140) (.tmp 142) 51 57 _ 3 32 Try.underlying51 info_prt rfl (by decide) (by rfl) wF.heap.size _ 0 [] (by rfl) HOE.out a0 ov.length c0 (pcs P0) (by rfl) hsl HAE.out (pcs_one _) (by unfold maxLen; omega) (by omega) hBE ?_
                     intro vG wG hrG hgG
                     have HOG : Hid (wG.ownsRow wF.heap.size 57 3 vG ov.length (pcs P0)) := by rw [Hid]; simpa using hrG
                     have HBG : Hid (Below wF.heap.size wF wG) := HBE.out.trans (hgG.toBelow hBE fun q hq => (World.ownsRow.lt HOE.out q hq).1)
                     obtain ⟨aG, cG, rfl, hfG⟩ := row_forms HOG.out
                     obtain ⟨gG, rfl⟩ := hfG hon
                     have qg := HSK3.out wG HBG.out
                     have HPA : Hid (PartsAt wG (some ⟨gG, 0, none⟩) P0) := OwnP.parts (n := ov.length) (cap := cG) (by unfold OwnP; rw [HPL.out.1]; exact HOG.out) (fun q hq => (HWW.out.1 q hq).2)
                     have HPC := probe_calls t k gG 0 cG P0 false wG ⟨by omega, by omega⟩ (by rw [HPL.out.1]; omega) (HTR4.out.below (HB4F.out.trans (HBG.out.mono HB4F.out.size))) HPA.out
                     unfold TV.fv TV.xv at HPC
                     rw [HPR.out, HPL.out.1, hxa] at HPC
                     have HPC : Hid (Calls Try.prog 17 #[.agg #[.string t.n, .slice t.fa t.fs.length t.fc, .slice (some ⟨xb, xo, none⟩) t.xs.length t.xc], .int .i64 k, .slice (some ⟨gG, 0, none⟩) ov.length cG, .bool false] wG fun e w' => e = .returned (.tuple #[.string ⟨Pr.toArray⟩, .int .i64 0]) ∧ Below wG.heap.size wG w') := HPC
                     clear hrG hgG HPA HOG)
                  | (go_simp
                     go_at_call 17
                     refine HPC.out.mono ?_
                     rintro e wH ⟨rfl, hbH⟩
                     have HBH : Hid (Below wF.heap.size wF wH) := HBG.out.trans (hbH.mono HBG.out.size)
                     have qh := HSK3.out wH HBH.out
                     clear hbH
                     dsimp only))
              all_goals clear qd qg qh HPC f0 f1 f2 f3
              have HFh : Hid (Fo2 wz w3.heap.size w.heap.size wz.heap.size wa.heap.size #[.string t.n, .slice t.fa t.fs.length t.fc, .slice t.xa t.xs.length t.xc] #[.slice ca cs.length cc, .slice da ds.length dc] ⟨⟨xn, ov, u, l, false⟩, va, vc⟩ (.slice a0 ov.length c0) (.slice a1 ov.length c1) P0 P1 wH) := HFf.out.below HBH.out
              have HKA : Hid (KeysAt wH wc.heap.size (.slice (some ⟨gC, 0, none⟩) 1 cC) [E0]) := row_below HKCF.out HBH.out
              have HKB : Hid (KeysAt wH wC.heap.size (.slice (some ⟨gF, 0, none⟩) 1 cF) [E1]) := row_below HKF.out HBH.out
              have ka : wH.cell? ⟨gC, 0, none⟩ = some (.string ⟨E0.toArray⟩) := by
                obtain ⟨b, off, e, hc⟩ := (row_cells HKA.out) (by simp)
                simp only [Option.some.injEq, Addr.mk.injEq] at e
                obtain ⟨rfl, rfl, _⟩ := e
                exact hc 0 _ rfl
              have kb : wH.cell? ⟨gF, 0, none⟩ = some (.string ⟨E1.toArray⟩) := by
                obtain ⟨b, off, e, hc⟩ := (row_cells HKB.out) (by simp)
                simp only [Option.some.injEq, Addr.mk.injEq] at e
                obtain ⟨rfl, rfl, _⟩ := e
                exact hc 0 _ rfl
              have hgC : gC < wH.heap.size := World.block_lt_of_cell? wH _ ka
              have hgF : gF < wH.heap.size := World.block_lt_of_cell? wH _ kb
              have HT0 : Hid (∀ W, Calls Try.prog 18 #[.string ⟨E0.toArray⟩, .string ⟨Pr.toArray⟩] W fun e w' => e = .returned (.bool true) ∧ w' = W) := fun W => by
                have := starts_calls ⟨E0.toArray⟩ ⟨Pr.toArray⟩ W (by show E0.toArray.size ≤ _; have := HLL.out.1; simp; omega) (by show Pr.toArray.size ≤ _; have := HPE.out; simp; omega)
                rw [show startsB (⟨E0.toArray⟩ : ByteArray).data.toList (⟨Pr.toArray⟩ : ByteArray).data.toList = true from by simpa using HSS.out.1] at this
                exact this
              have HT1 : Hid (∀ W, Calls Try.prog 18 #[.string ⟨E1.toArray⟩, .string ⟨Pr.toArray⟩] W fun e w' => e = .returned (.bool sm) ∧ w' = W) := fun W => by
                have := starts_calls ⟨E1.toArray⟩ ⟨Pr.toArray⟩ W (by show E1.toArray.size ≤ _; have := HLL.out.2; simp; omega) (by show Pr.toArray.size ≤ _; have := HPE.out; simp; omega)
                rw [show startsB (⟨E1.toArray⟩ : ByteArray).data.toList (⟨Pr.toArray⟩ : ByteArray).data.toList = sm from by simpa using HSS.out.2] at this
                exact this
              go_wp2_with fail
              refine (HT0.out wH).mono ?_
              rintro e wI ⟨rfl, hwI⟩
              rw [hwI]
              clear hwI
              have HSP := same_calls a0 a1 c0 c1 P0 P1 wH (by rw [HPL.out.1]; omega) (by rw [HPL.out.2]; omega) (OwnP.parts HFh.out.o0 fun q hq => (HWW.out.1 q hq).2) (OwnP.parts HFh.out.o1 fun q hq => (HWW.out.2 q hq).2)
              rw [← HSM.out, HPL.out.1, HPL.out.2] at HSP
              have HSP : Hid (Calls Try.prog 19 #[.slice a0 ov.length c0, .slice a1 ov.length c1] wH fun e w' => e = .returned (.bool sm) ∧ Below wH.heap.size wH w') := HSP
              have pv0 : wH.cell? ⟨wa.heap.size, 0, none⟩ = some (.slice a0 ov.length c0) := by rw [cell_blk HFh.out.pb]; rfl
              have pv1 : wH.cell? ⟨wa.heap.size, 1, none⟩ = some (.slice a1 ov.length c1) := by rw [cell_blk HFh.out.pb]; rfl
              go_wp2_with fail
              refine HSP.out.mono ?_
              clear HSP
              rintro e wJ ⟨rfl, hbJ⟩
              have HFj : Hid (Fo2 wz w3.heap.size w.heap.size wz.heap.size wa.heap.size #[.string t.n, .slice t.fa t.fs.length t.fc, .slice t.xa t.xs.length t.xc] #[.slice ca cs.length cc, .slice da ds.length dc] ⟨⟨xn, ov, u, l, false⟩, va, vc⟩ (.slice a0 ov.length c0) (.slice a1 ov.length c1) P0 P1 wJ) := HFh.out.below hbJ
              have kaj : wJ.cell? ⟨gC, 0, none⟩ = some (.string ⟨E0.toArray⟩) := by rw [hbJ.cell (by exact hgC)]; exact ka
              have kbj : wJ.cell? ⟨gF, 0, none⟩ = some (.string ⟨E1.toArray⟩) := by rw [hbJ.cell (by exact hgF)]; exact kb
              have x2j : wJ.cell? ⟨wz.heap.size, 2, none⟩ = some (.bool u) := by rw [cell_blk HFj.out.bx]; rfl
              have HBn : Hid (Below w8.heap.size w8 wJ) := HB.out.trans (HFj.out.be.mono HB.out.size)
              have hbq := beq_bs E0 E1
              clear hbJ ka kb pv0 pv1
              cases u with
              | false =>
                cases sm with
                | false =>
                  have hst := HT1.out
                  clear hbq
                  go_upto_region 35 with fail
                  go_quiet ((go_at_call 18; exact Calls.quiet_of_same (hst _)))
                  go_wp2
                  go_roundw
                  case rel => exact ⟨k + 1, by omega, by go_num, by first | exact HBn | exact below_drewN HBn.out _⟩
                  case measure => simp [intOf]; omega
                | true =>
                  have hst := HT1.out
                  clear hbq
                  go_upto_region 35 with fail
                  go_quiet ((go_at_call 18; exact Calls.quiet_of_same (hst _)))
                  go_wp2
                  go_roundw
                  case rel => exact ⟨k + 1, by omega, by go_num, by first | exact HBn | exact below_drewN HBn.out _⟩
                  case measure => simp [intOf]; omega
              | true =>
                have hun := HUN.out rfl
                rw [hun] at hbq
                cases sm with
                | false =>
                  have hst := HT1.out
                  have q2 : (E0 == E1) = false := by rw [← hun]; by_cases h : E0 = E1 <;> simp [h]
                  go_upto_region 35 with fail
                  go_quiet ((go_at_call 18; exact Calls.quiet_of_same (hst _)))
                  go_wp2
                  go_roundw
                  case rel => exact ⟨k + 1, by omega, by go_num, by first | exact HBn | exact below_drewN HBn.out _⟩
                  case measure => simp [intOf]; omega
                | true =>
                  have hst := HT1.out
                  have q2 : (E0 == E1) = true := by rw [← hun]; by_cases h : E0 = E1 <;> simp [h]
                  go_upto_region 35 with fail
                  go_quiet ((go_at_call 18; exact Calls.quiet_of_same (hst _)))
                  go_wp2
                  go_roundw
                  case rel => exact ⟨k + 1, by omega, by go_num, by first | exact HBn | exact below_drewN HBn.out _⟩
                  case measure => simp [intOf]; omega
end Go.Proofs.Ytjbnbpclelbohaa
