import Derived.Test.YtgjcchafmcccjaaGreatDoorRwKeys
/- Layer 7 (rows): fitCells, Fit, Keys. -/
namespace Go.Proofs.YtgjcchafmcccjaaGreatDoor
open Go.RowKit
set_option linter.unusedVariables false
attribute [local go_sem] Oper.semAt_some

def fitL : List Fd → List CV → Int
  | f :: fs, c :: cs => if usesB f.k c = false then 71 else if 32 < c.l.length then 72 else fitL fs cs
  | _, _ => 0
def fitC (fs : List Fd) (cs : List CV) : Int := if cs.length ≠ fs.length then 70 else fitL fs cs
theorem fitL_few : ∀ (fs : List Fd) (cs : List CV), cs.length = fs.length → fitL fs cs = 0 → ∀ c ∈ cs, c.l.length ≤ 32
  | [], [], _, _, c, hc => by simp at hc
  | f :: fs, d :: cs, hl, h, c, hc => by
    unfold fitL at h
    split at h
    · cases h
    · split at h
      · cases h
      · rcases List.mem_cons.1 hc with rfl | hc
        · omega
        · exact fitL_few fs cs (by simpa using hl) h c hc
  | [], d :: cs, hl, _, _, _ => by simp at hl
  | f :: fs, [], hl, _, c, hc => by simp at hc
theorem fitC_few {fs : List Fd} {cs : List CV} (h : fitC fs cs = 0) : cs.length = fs.length ∧ ∀ c ∈ cs, c.l.length ≤ 32 := by
  unfold fitC at h
  split at h
  · cases h
  · next hl =>
    have hl : cs.length = fs.length := Decidable.not_not.1 hl
    exact ⟨hl, fitL_few fs cs hl h⟩
theorem elems_few {fs : List Fd} {ov : List Int} {cs : List CV} (h : ∀ c ∈ cs, c.l.length ≤ 32) : (elemsOf fs ov cs).length ≤ 32 := by
  unfold elemsOf
  cases listP fs ov with
  | none => simp
  | some p =>
    dsimp only
    by_cases hp : p.toNat < cs.length
    · rw [List.getD_eq_getElem?_getD, List.getElem?_eq_getElem hp]
      exact h _ (List.getElem_mem hp)
    · rw [List.getD_eq_getElem?_getD, List.getElem?_eq_none (by omega)]
      simp [noC]

set_option maxRecDepth 100000 in
set_option maxHeartbeats 2000000 in
theorem fitCells_calls (fa : Option Addr) (fc : Nat) (fs : List Fd) (ca : Option Addr) (cc : Nat) (cs : List CV) (w : World) (hfm : fs.length ≤ 16) (hkd : ∀ f ∈ fs, 1 ≤ f.k ∧ f.k ≤ 3) (hcm : cs.length ≤ 4398046511104) (hf : CellsAt w fa (fcs fs)) (hr : RowAt w ca cs) :
    Calls Tryz.prog 20 #[.slice fa fs.length fc, .slice ca cs.length cc] w fun e w' => e = .returned (.int .i64 (fitC fs cs)) ∧ Below w.heap.size w w' := by
  have HF : Hid (CellsAt w fa (fcs fs)) := hf
  have HR : Hid (RowAt w ca cs) := hr
  have HKD : Hid (∀ f ∈ fs, 1 ≤ f.k ∧ f.k ≤ 3) := hkd
  clear hf hr hkd
  by_cases hl : cs.length = fs.length
  · have HO : Hid (fitC fs cs = fitL fs cs) := by unfold fitC; rw [Hid, if_neg (by simpa using hl)]
    have HLE : Hid (cs.length = fs.length) := hl
    have q1 : ((cs.length : Int) != (fs.length : Int)) = false := by rw [hl]; simp
    clear hl
    go_enter Tryz.func20, Tryz.ntmps20
    go_wp2
    go_loopw [5, 6, 14] (fun a5 a6 i wr => ∃ k : Nat, k ≤ cs.length ∧ i = .int .i64 k ∧ Hid (fitL fs cs = fitL (fs.drop k) (cs.drop k)) ∧ Hid (Below w.heap.size w wr)) (fun _ _ i _ => cs.length - (intOf i).toNat)
    case atStart => exact ⟨0, Nat.zero_le _, rfl, rfl, Below.refl _ _⟩
    case round =>
      obtain ⟨k, hk, rfl, HE, HB⟩ := hrel
      by_cases hlt : k < cs.length
      · have hkf : k < fs.length := by have := HLE.out; omega
        obtain ⟨fb, fo, rfl, f0, f1⟩ := (HF.out.below HB.out).fld k hkf
        obtain ⟨cb, co, rfl, d0, d1, d2⟩ := (HR.out.below HB.out).row.cel k hlt
        have hwk := HR.out.wf _ (List.getElem_mem hlt)
        have hkk := HKD.out _ (List.getElem_mem hkf)
        have HS : Hid (fitL fs cs = if usesB fs[k].k cs[k] = false then 71 else if 32 < cs[k].l.length then 72 else fitL (fs.drop (k + 1)) (cs.drop (k + 1))) := by
          rw [Hid, HE.out, List.drop_eq_getElem_cons hkf, List.drop_eq_getElem_cons hlt]
          rfl
        have HUC := usesOwn_calls fs[k].k cs[k] ((wr.alloc (.cells #[.string cs[k].t, .int .u64 cs[k].n, .slice cs[k].la cs[k].l.length cs[k].lc] 70)).drew) (by omega) hwk.2.2.2
        have HUC : Hid (Calls Tryz.prog 37 #[.int .i64 fs[k].k, .agg #[.string cs[k].t, .int .u64 cs[k].n, .slice cs[k].la cs[k].l.length cs[k].lc]] (wr.alloc (.cells #[.string cs[k].t, .int .u64 cs[k].n, .slice cs[k].la cs[k].l.length cs[k].lc] 70)).drew fun e w' => e = .returned (.bool (usesB fs[k].k cs[k])) ∧ Below (wr.alloc (.cells #[.string cs[k].t, .int .u64 cs[k].n, .slice cs[k].la cs[k].l.length cs[k].lc] 70)).drew.heap.size (wr.alloc (.cells #[.string cs[k].t, .int .u64 cs[k].n, .slice cs[k].la cs[k].l.length cs[k].lc] 70)).drew w') := HUC
        have hfb : fb < wr.heap.size := World.block_lt_of_cell? wr _ f1
        have hll := hwk.2.2.2
        clear hwk hkk
        go_upto_region 6 with fail
        obtain ⟨w3, hw3⟩ : ∃ w3, w3 = wr.alloc (.cells #[.string cs[k].t, .int .u64 cs[k].n, .slice cs[k].la cs[k].l.length cs[k].lc] 70) := ⟨_, rfl⟩
        rw [← hw3] at HUC ⊢
        have hb3 : Below wr.heap.size wr w3 := by rw [hw3]; exact (Below.refl _ _).alloc (Nat.le_refl _) _
        have HX3 : Hid (w3.heap[wr.heap.size]? = some (.cells #[.string cs[k].t, .int .u64 cs[k].n, .slice cs[k].la cs[k].l.length cs[k].lc] 70)) := by rw [hw3]; exact new_blk _ _
        have g1 : w3.cell? ⟨fb, fo + k * 2 + 1, none⟩ = some (.int .i64 fs[k].k) := by rw [hb3.cell (by exact hfb)]; exact f1
        have b0 : w3.cell? ⟨wr.heap.size, 0, none⟩ = some (.string cs[k].t) := by rw [cell_blk HX3.out]; rfl
        have b1 : w3.cell? ⟨wr.heap.size, 1, none⟩ = some (.int .u64 cs[k].n) := by rw [cell_blk HX3.out]; rfl
        have b2 : w3.cell? ⟨wr.heap.size, 2, none⟩ = some (.slice cs[k].la cs[k].l.length cs[k].lc) := by rw [cell_blk HX3.out]; rfl
        have hx3 : wr.heap.size < w3.heap.size := lt_blk HX3.out
        have hi1 : (k : Int) < (fs.length : Int) := by omega
        have hi0 : (0 : Int) ≤ (k : Int) := by omega
        have HB3 : Hid (Below w.heap.size w w3) := HB.out.trans (hb3.mono HB.out.size)
        clear hw3 f0 f1 d0 d1 d2 hb3
        go_region_held3 (fun W => W.cell? ⟨fb, fo + k * 2 + 1, none⟩ = some (.int .i64 fs[k].k) ∧ W.cell? ⟨wr.heap.size, 0, none⟩ = some (.string cs[k].t) ∧ W.cell? ⟨wr.heap.size, 1, none⟩ = some (.int .u64 cs[k].n) ∧ W.cell? ⟨wr.heap.size, 2, none⟩ = some (.slice cs[k].la cs[k].l.length cs[k].lc)) (first | (exact q3) | go_keep)
          (first
            | (go_at_call 37
               refine HUC.out.mono ?_
               rintro e w5 ⟨rfl, hb5⟩
               have HB35 : Hid (Below w3.heap.size w3 w5) := ⟨hb5.os, hb5.tape, hb5.output, hb5.size, hb5.block⟩
               have q3 : w5.cell? ⟨fb, fo + k * 2 + 1, none⟩ = some (.int .i64 fs[k].k) ∧ w5.cell? ⟨wr.heap.size, 0, none⟩ = some (.string cs[k].t) ∧ w5.cell? ⟨wr.heap.size, 1, none⟩ = some (.int .u64 cs[k].n) ∧ w5.cell? ⟨wr.heap.size, 2, none⟩ = some (.slice cs[k].la cs[k].l.length cs[k].lc) := by
                 have hfl : fb < w3.heap.size := by omega
                 exact ⟨by rw [HB35.out.cell (by exact hfl)]; exact g1, by rw [HB35.out.cell (by exact hx3)]; exact b0, by rw [HB35.out.cell (by exact hx3)]; exact b1, by rw [HB35.out.cell (by exact hx3)]; exact b2⟩
               clear hb5))
        have HB5 : Hid (Below w.heap.size w w5) := HB3.out.trans (HB35.out.mono HB3.out.size)
        have b2' := q3.2.2.2
        clear q3 g1 b0 b1 b2 HB35 HUC HX3
        cases hu : usesB fs[k].k cs[k] with
        | false =>
          have HQ : Hid (71 = fitC fs cs) := by rw [Hid, HO.out, HS.out, if_pos hu]
          clear hu
          go_wp2
          go_ret
          exact ⟨ret_num HQ.out, HB5.out⟩
        | true =>
          by_cases h32 : 32 < cs[k].l.length
          · have HQ : Hid (72 = fitC fs cs) := by rw [Hid, HO.out, HS.out, hu, if_neg (by simp), if_pos h32]
            have q4 : (32 : Int) < (cs[k].l.length : Int) := by omega
            clear hu h32
            go_wp2
            go_ret
            exact ⟨ret_num HQ.out, HB5.out⟩
          · have HQ : Hid (fitL fs cs = fitL (fs.drop (k + 1)) (cs.drop (k + 1))) := by rw [Hid, HS.out, hu, if_neg (by simp), if_neg h32]
            have q4 : ¬ ((32 : Int) < (cs[k].l.length : Int)) := by omega
            clear hu h32
            go_wp2
            go_roundw
            case rel => exact ⟨k + 1, by omega, by go_num, HQ, HB5⟩
            case measure => simp [intOf]; omega
      · have HQ : Hid (0 = fitC fs cs) := by
          rw [Hid, HO.out, HE.out, List.drop_of_length_le (by have := HLE.out; omega)]
          rfl
        go_wp2
        go_ret
        exact ⟨ret_num HQ.out, HB.out⟩
  · have HO : Hid (70 = fitC fs cs) := by unfold fitC; rw [Hid, if_pos hl]
    have q1 : ((cs.length : Int) != (fs.length : Int)) = true := by simp; omega
    clear hl
    go_enter Tryz.func20, Tryz.ntmps20
    go_wp2
    go_ret
    exact ⟨ret_num HO.out, Below.refl _ _⟩
end Go.Proofs.YtgjcchafmcccjaaGreatDoor

/- Layer 7 (rows): Fit, Keys. -/
namespace Go.Proofs.YtgjcchafmcccjaaGreatDoor
open Go.RowKit
set_option linter.unusedVariables false
attribute [local go_sem] Oper.semAt_some

/-- A table where it can be read. -/
structure TRd (w : World) (t : TV) : Prop where
  fs : CellsAt w t.fa (fcs t.fs)
  xs : CellsAt w t.xa (xcs t.xs)
  ov : ∀ x ∈ t.xs, CellsAt w x.va (ics x.x.ov)
  ok : TOk t
theorem TRd.below {w w' : World} {t : TV} (h : TRd w t) (hb : Below w.heap.size w w') : TRd w' t := ⟨h.fs.below hb, h.xs.below hb, fun x hx => (h.ov x hx).below hb, h.ok⟩
theorem Tabs.rd {w : World} {B : Nat} {v : Value} {ts : List TV} (h : Tabs w B v ts) {t : TV} (ht : t ∈ ts) : TRd w t :=
  ⟨row_cells (h.tab t ht).fs, row_cells (h.tab t ht).xs, fun x hx => row_cells ((h.tab t ht).ov x hx), h.ok t ht⟩
theorem TRd.ovok {w : World} {t : TV} {cs : List CV} (h : TRd w t) (hl : cs.length = t.fs.length) {x : XV} (hx : x ∈ t.xs) : OvOk x t.fs cs :=
  ⟨(h.ok.xok x hx).one, (h.ok.xok x hx).most, (h.ok.xok x hx).place, hl, h.ok.fmost, fun f hf => (h.ok.fsize f hf).2⟩
theorem TRd.klok {w : World} {t : TV} {ca : Option Addr} {cs : List CV} (h : TRd w t) (hr : RowAt w ca cs) (hf : fitC t.fs cs = 0) {x : XV} (hx : x ∈ t.xs) : KlOk w t x ca cs := by
  have hc := fitC_few hf
  refine ⟨h.ovok hc.1 hx, h.fs, h.xs, h.ov x hx, hr, List.length_pos_of_mem hx, h.ok.xmost, fun y hy => ?_, elems_few hc.2⟩
  have hm := List.mem_of_getElem? hy
  exact ⟨h.ovok hc.1 hm, h.ov y hm⟩

def fitX (t : Tb) (cs : List CV) : List Ix → Int
  | [] => 0
  | x :: xs => if (indexP t x cs).2 ≠ 0 then (indexP t x cs).2 else fitX t cs xs
def fitP (t : Tb) (cs : List CV) : Int := if fitC t.fs cs ≠ 0 then fitC t.fs cs else fitX t cs t.xs

set_option maxRecDepth 100000 in
set_option maxHeartbeats 2000000 in
theorem fit_calls (t : TV) (ca : Option Addr) (cc : Nat) (cs : List CV) (w : World) (hcm : cs.length ≤ 4398046511104) (ht : TRd w t) (hr : RowAt w ca cs) :
    Calls Tryz.prog 8 #[.agg #[.string t.n, t.fv, t.xv], .agg #[.slice ca cs.length cc]] w fun e w' => e = .returned (.int .i64 (fitP t.tb cs)) ∧ Below w.heap.size w w' := by
  have HTR : Hid (TRd w t) := ht
  have HRA : Hid (RowAt w ca cs) := hr
  have HFP : Hid (fitP t.tb cs = if fitC t.fs cs ≠ 0 then fitC t.fs cs else fitX t.tb cs (t.xs.map (·.x))) := rfl
  have hxm := ht.ok.xmost
  have hfm := ht.ok.fmost
  have HKD : Hid (∀ f ∈ t.fs, 1 ≤ f.k ∧ f.k ≤ 3) := fun f hf => (ht.ok.fsize f hf).2
  obtain ⟨w2, hw2⟩ : ∃ w2, w2 = (w.alloc (.cells #[.string t.n, t.fv, t.xv] 42)).alloc (.cells #[.slice ca cs.length cc] 45) := ⟨_, rfl⟩
  have hb2 : Below w.heap.size w w2 := by rw [hw2]; exact ((Below.refl _ _).alloc (Nat.le_refl _) _).alloc (by simp only [World.size_alloc]; omega) _
  have HT2 : Hid (w2.heap[w.heap.size]? = some (.cells #[.string t.n, t.fv, t.xv] 42)) := by rw [Hid, hw2]; exact old_blk (new_blk _ _) _
  have HR2 : Hid (w2.heap[w.heap.size + 1]? = some (.cells #[.slice ca cs.length cc] 45)) := by
    rw [Hid, hw2]
    have := new_blk (w.alloc (.cells #[.string t.n, t.fv, t.xv] 42)) (.cells #[.slice ca cs.length cc] 45)
    rw [World.size_alloc] at this
    exact this
  have HFC : Hid (Calls Tryz.prog 20 #[.slice t.fa t.fs.length t.fc, .slice ca cs.length cc] w2 fun e w' => e = .returned (.int .i64 (fitC t.fs cs)) ∧ Below w2.heap.size w2 w') := fitCells_calls t.fa t.fc t.fs ca cc cs w2 hfm HKD.out hcm (ht.fs.below hb2) (hr.below hb2)
  have HB2 : Hid (Below w.heap.size w w2) := hb2
  clear ht hr hb2
  have HIX : Hid (∀ W, Below w.heap.size w W → fitC t.fs cs = 0 → ∀ x ∈ t.xs, Calls Tryz.prog 21 #[.agg #[.string t.n, t.fv, t.xv], .agg #[.string x.x.n, .slice x.va x.x.ov.length x.vc, .bool x.x.u, .bool x.x.l, .bool x.x.s], .slice ca cs.length cc] W fun e w' => IxAns W t.tb x.x cs e w') := fun W hW hf x hx => indexKeys_calls t x ca cc cs W ((HTR.out.below hW).klok (HRA.out.below hW) hf hx)
  obtain ⟨tn, fs, fa, fc, xs, xa, xc⟩ := t
  dsimp only [TV.fv, TV.xv] at *
  go_enter Tryz.func8, Tryz.ntmps8
  go_wp2_with fail
  rw [← hw2]
  clear hw2
  refine HFC.out.mono ?_
  clear HFC
  rintro e w3 ⟨rfl, hb3⟩
  have HT3 : Hid (w3.heap[w.heap.size]? = some (.cells #[.string tn, .slice fa fs.length fc, .slice xa xs.length xc] 42)) := (hb3.block _ (lt_blk HT2.out)).trans HT2.out
  have HR3 : Hid (w3.heap[w.heap.size + 1]? = some (.cells #[.slice ca cs.length cc] 45)) := (hb3.block _ (lt_blk HR2.out)).trans HR2.out
  have HB3 : Hid (Below w.heap.size w w3) := HB2.out.trans (hb3.mono HB2.out.size)
  have t2 : w3.cell? ⟨w.heap.size, 2, none⟩ = some (.slice xa xs.length xc) := by rw [cell_blk HT3.out]; rfl
  clear HB2 HT2 HR2 hb3
  by_cases hf : fitC fs cs = 0
  · have HFP2 : Hid (fitP (TV.mk tn fs fa fc xs xa xc).tb cs = fitX (TV.mk tn fs fa fc xs xa xc).tb cs (xs.map (·.x))) := by rw [Hid, HFP.out, if_neg (by rw [hf]; simp)]
    have HF0 : Hid (fitC fs cs = 0) := hf
    rw [hf]
    clear hf HFP
    go_wp2
    go_loopw [7, 8, 9, 21] (fun a7 a8 a9 i wr => ∃ k : Nat, k ≤ xs.length ∧ i = .int .i64 k ∧ Hid (fitX (TV.mk tn fs fa fc xs xa xc).tb cs (xs.map (·.x)) = fitX (TV.mk tn fs fa fc xs xa xc).tb cs ((xs.map (·.x)).drop k)) ∧ Hid (Below w3.heap.size w3 wr)) (fun _ _ _ i _ => xs.length - (intOf i).toNat)
    case atStart => exact ⟨0, Nat.zero_le _, rfl, rfl, Below.refl _ _⟩
    case round =>
      obtain ⟨k, hk, rfl, HE, HB⟩ := hrel
      have HBw : Hid (Below w.heap.size w wr) := HB3.out.trans (HB.out.mono HB3.out.size)
      by_cases hlt : k < xs.length
      · obtain ⟨xb, xo, rfl, i0, i1, i2, i3, i4⟩ := (HTR.out.xs.below HBw.out).idx k hlt
        have HTr : Hid (wr.heap[w.heap.size]? = some (.cells #[.string tn, .slice fa fs.length fc, .slice (some ⟨xb, xo, none⟩) xs.length xc] 42)) := (HB.out.block _ (lt_blk HT3.out)).trans HT3.out
        have HRr : Hid (wr.heap[w.heap.size + 1]? = some (.cells #[.slice ca cs.length cc] 45)) := (HB.out.block _ (lt_blk HR3.out)).trans HR3.out
        have s0 : wr.cell? ⟨w.heap.size, 0, none⟩ = some (.string tn) := by rw [cell_blk HTr.out]; rfl
        have s1 : wr.cell? ⟨w.heap.size, 1, none⟩ = some (.slice fa fs.length fc) := by rw [cell_blk HTr.out]; rfl
        have s2 : wr.cell? ⟨w.heap.size, 2, none⟩ = some (.slice (some ⟨xb, xo, none⟩) xs.length xc) := by rw [cell_blk HTr.out]; rfl
        have r0 : wr.cell? ⟨w.heap.size + 1, 0, none⟩ = some (.slice ca cs.length cc) := by rw [cell_blk HRr.out]; rfl
        have hs1 : w.heap.size < wr.heap.size := lt_blk HTr.out
        have hs2 : w.heap.size + 1 < wr.heap.size := lt_blk HRr.out
        have HXC : Hid (Calls Tryz.prog 21 #[.agg #[.string tn, .slice fa fs.length fc, .slice (some ⟨xb, xo, none⟩) xs.length xc], .agg #[.string xs[k].x.n, .slice xs[k].va xs[k].x.ov.length xs[k].vc, .bool xs[k].x.u, .bool xs[k].x.l, .bool xs[k].x.s], .slice ca cs.length cc] (wr.alloc (.cells #[.string xs[k].x.n, .slice xs[k].va xs[k].x.ov.length xs[k].vc, .bool xs[k].x.u, .bool xs[k].x.l, .bool xs[k].x.s] 67)) fun e w' => IxAns (wr.alloc (.cells #[.string xs[k].x.n, .slice xs[k].va xs[k].x.ov.length xs[k].vc, .bool xs[k].x.u, .bool xs[k].x.l, .bool xs[k].x.s] 67)) (TV.mk tn fs fa fc xs (some ⟨xb, xo, none⟩) xc).tb xs[k].x cs e w') := HIX.out _ (HBw.out.alloc HBw.out.size _) HF0.out _ (List.getElem_mem hlt)
        have HS : Hid (fitX (TV.mk tn fs fa fc xs (some ⟨xb, xo, none⟩) xc).tb cs (xs.map (·.x)) = if (indexP (TV.mk tn fs fa fc xs (some ⟨xb, xo, none⟩) xc).tb xs[k].x cs).2 ≠ 0 then (indexP (TV.mk tn fs fa fc xs (some ⟨xb, xo, none⟩) xc).tb xs[k].x cs).2 else fitX (TV.mk tn fs fa fc xs (some ⟨xb, xo, none⟩) xc).tb cs ((xs.map (·.x)).drop (k + 1))) := by
          rw [Hid, HE.out, List.drop_eq_getElem_cons (by simpa using hlt)]
          simp only [List.getElem_map]
          rfl
        go_wp2_with fail
        refine HXC.out.mono ?_
        clear HXC
        rintro e w5 ⟨v5, rfl, -, hb5⟩
        have HB5 : Hid (Below w3.heap.size w3 w5) := (HB.out.alloc HB.out.size _).trans (hb5.mono (by simp only [World.size_alloc]; have := HB.out.size; omega))
        have HBw5 : Hid (Below w.heap.size w w5) := HB3.out.trans (HB5.out.mono HB3.out.size)
        clear hb5
        generalize (indexP (TV.mk tn fs fa fc xs (some ⟨xb, xo, none⟩) xc).tb xs[k].x cs).2 = cd at *
        by_cases hc : cd = 0
        · subst hc
          rw [if_neg (by simp)] at HS
          go_wp2
          go_roundw
          case rel => exact ⟨k + 1, by omega, by go_num, HS, HB5⟩
          case measure => simp [intOf]; omega
        · have q5 : (cd == 0) = false := by simpa using hc
          rw [if_pos hc] at HS
          clear hc
          go_wp2
          go_ret
          exact ⟨ret_num (by rw [HFP2.out, HS.out]), HBw5.out⟩
      · have HQ : Hid (0 = fitP (TV.mk tn fs fa fc xs xa xc).tb cs) := by
          rw [Hid, HFP2.out, HE.out, List.drop_of_length_le (by simp; omega)]
          rfl
        go_wp2
        go_ret
        exact ⟨ret_num HQ.out, HBw.out⟩
  · have HQ : Hid (fitC fs cs = fitP (TV.mk tn fs fa fc xs xa xc).tb cs) := by rw [Hid, HFP.out, if_pos hf]
    have q5 : (fitC fs cs == 0) = false := by simpa using hf
    clear hf HFP
    go_wp2
    go_ret
    exact ⟨ret_num HQ.out, HB3.out⟩
end Go.Proofs.YtgjcchafmcccjaaGreatDoor
