/- Layer 7 (rows): the document's Fit. -/
import Derived.Test.YtjbnbpclelbohaaRwRefK
import Derived.Test.YtjbnbpclelbohaaRwOne
namespace Go.Proofs.Ytjbnbpclelbohaa
open Go.RowKit
set_option linter.unusedVariables false
attribute [local go_sem] Oper.semAt_some

theorem TRd.kinds {w : World} {t : TV} (h : TRd w t) {x : XV} (hx : x ∈ t.xs) : KindOk t.fs x.x.ov := by
  intro p hp
  have h1 := (h.ok.xok x hx).place p hp
  obtain ⟨q, rfl⟩ : ∃ q : Nat, p = (q : Int) := ⟨p.toNat, by omega⟩
  have hq : q < t.fs.length := by omega
  rw [show ((q : Int).toNat) = q from rfl, List.getD_eq_getElem?_getD, List.getElem?_eq_getElem hq]
  have h2 := (h.ok.fsize t.fs[q] (List.getElem_mem hq)).2
  show t.fs[q].k = 1 ∨ t.fs[q].k = 2 ∨ t.fs[q].k = 3
  omega
theorem ROk.firsts {t : TV} (h : ROk t.tb) : ∀ y, t.xs[0]? = some y → listsOf t.fs y.x.ov = 0 := fun y hy => (h.first y.x (by show (t.xs.map (·.x))[0]? = _; rw [List.getElem?_map, hy]; rfl)).2.2
theorem ROk.ones {t : TV} (h : ROk t.tb) {x : XV} (hx : x ∈ t.xs) : listsOf t.fs x.x.ov ≤ 1 := h.one x.x (List.mem_map_of_mem hx)
theorem TRd.refKeysOf {w : World} {t : TV} {ca : Option Addr} {cs : List CV} (cc : Nat) (h : TRd w t) (hr : RowAt w ca cs) (hro : ROk t.tb) (hsm : SmallC cs) (hf : fitC t.fs cs = 0) {x : XV} (hx : x ∈ t.xs) :
    Calls Try.prog 25 #[.agg #[.string t.n, t.fv, t.xv], .agg #[.string x.x.n, .slice x.va x.x.ov.length x.vc, .bool x.x.u, .bool x.x.l, .bool x.x.s], .agg #[.slice ca cs.length cc]] w fun e w' => IxAns w t.tb x.x cs e w' :=
  refKeysOf_calls t x ca cc cs w (h.klok hr hf hx) (hro.ones hx) hro.firsts (h.kinds hx) hsm

set_option maxRecDepth 100000 in
set_option maxHeartbeats 4000000 in
theorem refFit_calls (t : TV) (ca : Option Addr) (cc : Nat) (cs : List CV) (w : World) (hcm : cs.length ≤ 4398046511104) (ht : TRd w t) (hr : RowAt w ca cs) (hro : ROk t.tb) (hsm : SmallC cs) :
    Calls Try.prog 11 #[.agg #[.string t.n, t.fv, t.xv], .agg #[.slice ca cs.length cc]] w fun e w' => e = .returned (.int .i64 (fitP t.tb cs)) ∧ Below w.heap.size w w' := by
  have HTR : Hid (TRd w t) := ht
  have HRA : Hid (RowAt w ca cs) := hr
  have HFP : Hid (fitP t.tb cs = if fitC t.fs cs ≠ 0 then fitC t.fs cs else fitX t.tb cs (t.xs.map (·.x))) := rfl
  have hxm := ht.ok.xmost
  have hfm := ht.ok.fmost
  have HKD : Hid (∀ f ∈ t.fs, 1 ≤ f.k ∧ f.k ≤ 3) := fun f hf => (ht.ok.fsize f hf).2
  obtain ⟨w3, hw3⟩ : ∃ w3, w3 = (w.alloc (.cells #[.string t.n, t.fv, t.xv] 29)).alloc (.cells #[.slice ca cs.length cc] 24) := ⟨_, rfl⟩
  have hb3 : Below w.heap.size w w3 := by rw [hw3]; exact ((Below.refl _ _).alloc (Nat.le_refl _) _).alloc (by simp only [World.size_alloc]; omega) _
  have HT3 : Hid (w3.heap[w.heap.size]? = some (.cells #[.string t.n, t.fv, t.xv] 29)) := by rw [Hid, hw3]; exact old_blk (new_blk _ _) _
  have HR3 : Hid (w3.heap[w.heap.size + 1]? = some (.cells #[.slice ca cs.length cc] 24)) := by
    rw [Hid, hw3]
    have := new_blk (w.alloc (.cells #[.string t.n, t.fv, t.xv] 29)) (.cells #[.slice ca cs.length cc] 24)
    rw [World.size_alloc] at this
    exact this
  have HB3 : Hid (Below w.heap.size w w3) := hb3
  have HIX : Hid (∀ W, Below w.heap.size w W → fitC t.fs cs = 0 → ∀ x ∈ t.xs, Calls Try.prog 25 #[.agg #[.string t.n, t.fv, t.xv], .agg #[.string x.x.n, .slice x.va x.x.ov.length x.vc, .bool x.x.u, .bool x.x.l, .bool x.x.s], .agg #[.slice ca cs.length cc]] W fun e w' => IxAns W t.tb x.x cs e w') := fun W hW hf x hx => (HTR.out.below hW).refKeysOf cc (HRA.out.below hW) hro hsm hf hx
  clear ht hr hb3 hro hsm
  obtain ⟨tn, fs, fa, fc, xs, xa, xc⟩ := t
  dsimp only [TV.fv, TV.xv] at *
  have r0 : w3.cell? ⟨w.heap.size + 1, 0, none⟩ = some (.slice ca cs.length cc) := by rw [cell_blk HR3.out]; rfl
  have t1 : w3.cell? ⟨w.heap.size, 1, none⟩ = some (.slice fa fs.length fc) := by rw [cell_blk HT3.out]; rfl
  by_cases hl : cs.length = fs.length
  · have HFC : Hid (fitC fs cs = fitL fs cs) := by unfold fitC; rw [Hid, if_neg (by simpa using hl)]
    have HLE : Hid (cs.length = fs.length) := hl
    have q1 : ((cs.length : Int) != (fs.length : Int)) = false := by rw [hl]; simp
    have q1' : ((cs.length : Int) == (fs.length : Int)) = true := by rw [hl]; simp
    clear hl
    go_enter Try.func11, Try.ntmps11
    go_upto_region 1 with fail
    rw [← hw3]
    clear hw3
    go_wp2
    go_loopw [5, 6, 7, 22] (fun a5 a6 a7 i wr => ∃ k : Nat, k ≤ cs.length ∧ i = .int .i64 k ∧ Hid (fitL fs cs = fitL (fs.drop k) (cs.drop k)) ∧ Hid (Below w3.heap.size w3 wr)) (fun _ _ _ i _ => cs.length - (intOf i).toNat)
    case atStart => exact ⟨0, Nat.zero_le _, rfl, rfl, Below.refl _ _⟩
    case round =>
      obtain ⟨k, hk, rfl, HE, HB⟩ := hrel
      have HBw : Hid (Below w.heap.size w wr) := HB3.out.trans (HB.out.mono HB3.out.size)
      clear r0 t1
      by_cases hlt : k < cs.length
      · have hkf : k < fs.length := by have := HLE.out; omega
        obtain ⟨fb, fo, rfl, f0, f1⟩ := (HTR.out.fs.below HBw.out).fld k hkf
        obtain ⟨cb, co, rfl, d0, d1, d2⟩ := (HRA.out.below HBw.out).row.cel k hlt
        have hll := (HRA.out.wf _ (List.getElem_mem hlt)).2.2.2
        have hkk := HKD.out _ (List.getElem_mem hkf)
        have HTr : Hid (wr.heap[w.heap.size]? = some (.cells #[.string tn, .slice (some ⟨fb, fo, none⟩) fs.length fc, .slice xa xs.length xc] 29)) := (HB.out.block _ (lt_blk HT3.out)).trans HT3.out
        have t1 : wr.cell? ⟨w.heap.size, 1, none⟩ = some (.slice (some ⟨fb, fo, none⟩) fs.length fc) := by rw [cell_blk HTr.out]; rfl
        have hs1 : w.heap.size < wr.heap.size := lt_blk HTr.out
        have hfb : fb < wr.heap.size := World.block_lt_of_cell? wr _ f1
        have hi1 : (k : Int) < (fs.length : Int) := by omega
        have hi0 : (0 : Int) ≤ (k : Int) := by omega
        have HS : Hid (fitL fs cs = if usesB fs[k].k cs[k] = false then 71 else if 32 < cs[k].l.length then 72 else fitL (fs.drop (k + 1)) (cs.drop (k + 1))) := by
          rw [Hid, HE.out, List.drop_eq_getElem_cons hkf, List.drop_eq_getElem_cons hlt]
          rfl
        have HUB : Hid (usesB fs[k].k cs[k] = ((fs[k].k == 1 || cs[k].t.toList.isEmpty) && ((fs[k].k == 2 || cs[k].n == 0) && (fs[k].k == 3 || decide (cs[k].l.length = 0))))) := rfl
        rw [HUB.out] at HS
        have HBA : Hid (Below w3.heap.size w3 (wr.alloc (.cells #[.string cs[k].t, .int .u64 cs[k].n, .slice cs[k].la cs[k].l.length cs[k].lc] 55))) := HB.out.alloc HB.out.size _
        have HBB : Hid (Below w.heap.size w (wr.alloc (.cells #[.string cs[k].t, .int .u64 cs[k].n, .slice cs[k].la cs[k].l.length cs[k].lc] 55))) := HBw.out.alloc HBw.out.size _
        have hem : (cs[k].t.toList == []) = cs[k].t.toList.isEmpty := by cases cs[k].t.toList <;> rfl
        generalize cs[k].l.length = ll at *
        generalize fs[k].k = kk at *
        generalize cs[k].t.toList.isEmpty = em at *
        generalize cs[k].n = nn at *
        clear HUB HE HTr
        have hk3 : kk = 1 ∨ kk = 2 ∨ kk = 3 := by omega
        clear hkk
        rcases hk3 with rfl | rfl | rfl
        · by_cases hn : nn = 0
          · subst hn
            by_cases hq : ll = 0
            · subst hq

              have HQ : Hid (fitL fs cs = fitL (fs.drop (k + 1)) (cs.drop (k + 1))) := by rw [Hid, HS.out]; simp
              go_wp2
              go_roundw
              case rel => exact ⟨k + 1, by omega, by go_num, HQ, HBA⟩
              case measure => simp [intOf]; omega
            · have z2 : (0 : Int) < (ll : Int) := by omega

              have HQ : Hid (71 = fitP (TV.mk tn fs (some ⟨fb, fo, none⟩) fc xs xa xc).tb cs) := by rw [Hid, HFP.out, if_pos (by rw [HFC.out, HS.out]; simp [hq]), HFC.out, HS.out]; simp [hq]
              go_wp2
              go_ret
              exact ⟨ret_num HQ.out, HBB.out⟩
          · have z1 : (nn == 0) = false := by simpa using hn

            have HQ : Hid (71 = fitP (TV.mk tn fs (some ⟨fb, fo, none⟩) fc xs xa xc).tb cs) := by rw [Hid, HFP.out, if_pos (by rw [HFC.out, HS.out]; simp [hn]), HFC.out, HS.out]; simp [hn]
            go_wp2
            go_ret
            exact ⟨ret_num HQ.out, HBB.out⟩
        · cases em with
          | true =>
            by_cases hq : ll = 0
            · subst hq

              have HQ : Hid (fitL fs cs = fitL (fs.drop (k + 1)) (cs.drop (k + 1))) := by rw [Hid, HS.out]; simp
              go_wp2
              go_roundw
              case rel => exact ⟨k + 1, by omega, by go_num, HQ, HBA⟩
              case measure => simp [intOf]; omega
            · have z2 : (0 : Int) < (ll : Int) := by omega

              have HQ : Hid (71 = fitP (TV.mk tn fs (some ⟨fb, fo, none⟩) fc xs xa xc).tb cs) := by rw [Hid, HFP.out, if_pos (by rw [HFC.out, HS.out]; simp [hq]), HFC.out, HS.out]; simp [hq]
              go_wp2
              go_ret
              exact ⟨ret_num HQ.out, HBB.out⟩

          | false =>
            have HQ : Hid (71 = fitP (TV.mk tn fs (some ⟨fb, fo, none⟩) fc xs xa xc).tb cs) := by rw [Hid, HFP.out, if_pos (by rw [HFC.out, HS.out]; simp), HFC.out, HS.out]; simp
            go_wp2
            go_ret
            exact ⟨ret_num HQ.out, HBB.out⟩
        · cases em with
          | true =>
            by_cases hn : nn = 0
            · subst hn
              by_cases h32 : 32 < ll
              · have z3 : (32 : Int) < (ll : Int) := by omega

                have HQ : Hid (72 = fitP (TV.mk tn fs (some ⟨fb, fo, none⟩) fc xs xa xc).tb cs) := by rw [Hid, HFP.out, if_pos (by rw [HFC.out, HS.out]; simp [h32]), HFC.out, HS.out]; simp [h32]
                go_wp2
                go_ret
                exact ⟨ret_num HQ.out, HBB.out⟩
              · have z3 : ¬ ((32 : Int) < (ll : Int)) := by omega

                have HQ : Hid (fitL fs cs = fitL (fs.drop (k + 1)) (cs.drop (k + 1))) := by rw [Hid, HS.out]; simp [h32]
                go_wp2
                go_roundw
                case rel => exact ⟨k + 1, by omega, by go_num, HQ, HBA⟩
                case measure => simp [intOf]; omega
            · have z1 : (nn == 0) = false := by simpa using hn

              have HQ : Hid (71 = fitP (TV.mk tn fs (some ⟨fb, fo, none⟩) fc xs xa xc).tb cs) := by rw [Hid, HFP.out, if_pos (by rw [HFC.out, HS.out]; simp [hn]), HFC.out, HS.out]; simp [hn]
              go_wp2
              go_ret
              exact ⟨ret_num HQ.out, HBB.out⟩

          | false =>
            have HQ : Hid (71 = fitP (TV.mk tn fs (some ⟨fb, fo, none⟩) fc xs xa xc).tb cs) := by rw [Hid, HFP.out, if_pos (by rw [HFC.out, HS.out]; simp), HFC.out, HS.out]; simp
            go_wp2
            go_ret
            exact ⟨ret_num HQ.out, HBB.out⟩
      · have HF0 : Hid (fitC fs cs = 0) := by
          rw [Hid, HFC.out, HE.out, List.drop_of_length_le (by have := HLE.out; omega)]
          rfl
        have HFP2 : Hid (fitP (TV.mk tn fs fa fc xs xa xc).tb cs = fitX (TV.mk tn fs fa fc xs xa xc).tb cs (xs.map (·.x))) := by rw [Hid, HFP.out, if_neg (by rw [HF0.out]; simp)]
        have HT4 : Hid (wr.heap[w.heap.size]? = some (.cells #[.string tn, .slice fa fs.length fc, .slice xa xs.length xc] 29)) := (HB.out.block _ (lt_blk HT3.out)).trans HT3.out
        have HR4 : Hid (wr.heap[w.heap.size + 1]? = some (.cells #[.slice ca cs.length cc] 24)) := (HB.out.block _ (lt_blk HR3.out)).trans HR3.out
        have t2 : wr.cell? ⟨w.heap.size, 2, none⟩ = some (.slice xa xs.length xc) := by rw [cell_blk HT4.out]; rfl
        obtain ⟨w4, hw4⟩ : ∃ w4, w4 = wr := ⟨_, rfl⟩
        rw [← hw4] at HT4 HR4 HBw t2 ⊢
        clear HB HE hw4 HT3 HR3 HB3 HFP
        go_wp2
        go_loopw [9, 10, 11, 67] (fun a9 a10 a11 i wr => ∃ k : Nat, k ≤ xs.length ∧ i = .int .i64 k ∧ Hid (fitX (TV.mk tn fs fa fc xs xa xc).tb cs (xs.map (·.x)) = fitX (TV.mk tn fs fa fc xs xa xc).tb cs ((xs.map (·.x)).drop k)) ∧ Hid (Below w4.heap.size w4 wr)) (fun _ _ _ i _ => xs.length - (intOf i).toNat)
        case atStart => exact ⟨0, Nat.zero_le _, rfl, rfl, Below.refl _ _⟩
        case round =>
          obtain ⟨k, hk, rfl, HE, HB⟩ := hrel
          have HBv : Hid (Below w.heap.size w wr) := HBw.out.trans (HB.out.mono HBw.out.size)
          by_cases hlt : k < xs.length
          · obtain ⟨xb, xo, rfl, i0, i1, i2, i3, i4⟩ := (HTR.out.xs.below HBv.out).idx k hlt
            have HTr : Hid (wr.heap[w.heap.size]? = some (.cells #[.string tn, .slice fa fs.length fc, .slice (some ⟨xb, xo, none⟩) xs.length xc] 29)) := (HB.out.block _ (lt_blk HT4.out)).trans HT4.out
            have HRr : Hid (wr.heap[w.heap.size + 1]? = some (.cells #[.slice ca cs.length cc] 24)) := (HB.out.block _ (lt_blk HR4.out)).trans HR4.out
            have s0 : wr.cell? ⟨w.heap.size, 0, none⟩ = some (.string tn) := by rw [cell_blk HTr.out]; rfl
            have s1 : wr.cell? ⟨w.heap.size, 1, none⟩ = some (.slice fa fs.length fc) := by rw [cell_blk HTr.out]; rfl
            have s2 : wr.cell? ⟨w.heap.size, 2, none⟩ = some (.slice (some ⟨xb, xo, none⟩) xs.length xc) := by rw [cell_blk HTr.out]; rfl
            have r0 : wr.cell? ⟨w.heap.size + 1, 0, none⟩ = some (.slice ca cs.length cc) := by rw [cell_blk HRr.out]; rfl
            have hs1 : w.heap.size < wr.heap.size := lt_blk HTr.out
            have hs2 : w.heap.size + 1 < wr.heap.size := lt_blk HRr.out
            have HXC : Hid (Calls Try.prog 25 #[.agg #[.string tn, .slice fa fs.length fc, .slice (some ⟨xb, xo, none⟩) xs.length xc], .agg #[.string xs[k].x.n, .slice xs[k].va xs[k].x.ov.length xs[k].vc, .bool xs[k].x.u, .bool xs[k].x.l, .bool xs[k].x.s], .agg #[.slice ca cs.length cc]] (wr.alloc (.cells #[.string xs[k].x.n, .slice xs[k].va xs[k].x.ov.length xs[k].vc, .bool xs[k].x.u, .bool xs[k].x.l, .bool xs[k].x.s] 50)) fun e w' => IxAns (wr.alloc (.cells #[.string xs[k].x.n, .slice xs[k].va xs[k].x.ov.length xs[k].vc, .bool xs[k].x.u, .bool xs[k].x.l, .bool xs[k].x.s] 50)) (TV.mk tn fs fa fc xs (some ⟨xb, xo, none⟩) xc).tb xs[k].x cs e w') := HIX.out _ (HBv.out.alloc HBv.out.size _) HF0.out _ (List.getElem_mem hlt)
            have HS : Hid (fitX (TV.mk tn fs fa fc xs (some ⟨xb, xo, none⟩) xc).tb cs (xs.map (·.x)) = if (indexP (TV.mk tn fs fa fc xs (some ⟨xb, xo, none⟩) xc).tb xs[k].x cs).2 ≠ 0 then (indexP (TV.mk tn fs fa fc xs (some ⟨xb, xo, none⟩) xc).tb xs[k].x cs).2 else fitX (TV.mk tn fs fa fc xs (some ⟨xb, xo, none⟩) xc).tb cs ((xs.map (·.x)).drop (k + 1))) := by
              rw [Hid, HE.out, List.drop_eq_getElem_cons (by simpa using hlt)]
              simp only [List.getElem_map]
              rfl
            go_wp2_with fail
            refine HXC.out.mono ?_
            clear HXC
            rintro e w5 ⟨v5, rfl, -, hb5⟩
            have HB5 : Hid (Below w4.heap.size w4 w5) := (HB.out.alloc HB.out.size _).trans (hb5.mono (by simp only [World.size_alloc]; have := HB.out.size; omega))
            have HBw5 : Hid (Below w.heap.size w w5) := HBw.out.trans (HB5.out.mono HBw.out.size)
            clear hb5
            generalize (indexP (TV.mk tn fs fa fc xs (some ⟨xb, xo, none⟩) xc).tb xs[k].x cs).2 = cd at *
            by_cases hc : cd = 0
            · subst hc
              rw [if_neg (by simp)] at HS
              go_wp2
              go_roundw
              case rel => exact ⟨k + 1, by omega, by go_num, HS, HB5⟩
              case measure => simp [intOf]; omega
            · have q5 : (cd == 0) = false := by simpa using hc
              rw [if_pos hc] at HS
              clear hc
              go_wp2
              go_ret
              exact ⟨ret_num (by rw [HFP2.out, HS.out]), HBw5.out⟩
          · have HQ : Hid (0 = fitP (TV.mk tn fs fa fc xs xa xc).tb cs) := by
              rw [Hid, HFP2.out, HE.out, List.drop_of_length_le (by simp; omega)]
              rfl
            go_wp2
            go_ret
            exact ⟨ret_num HQ.out, HBv.out⟩
  · have HFC : Hid (fitC fs cs = 70) := by unfold fitC; rw [Hid, if_pos hl]
    have HQ : Hid (70 = fitP (TV.mk tn fs fa fc xs xa xc).tb cs) := by rw [Hid, HFP.out, if_pos (by rw [HFC.out]; decide), HFC.out]
    have q1 : ((cs.length : Int) != (fs.length : Int)) = true := by simp; omega
    have q1' : ((cs.length : Int) == (fs.length : Int)) = false := by simp; omega
    clear hl
    go_enter Try.func11, Try.ntmps11
    go_upto_region 1 with fail
    rw [← hw3]
    clear hw3
    go_wp2
    go_ret
    exact ⟨ret_num HQ.out, HB3.out⟩
end Go.Proofs.Ytjbnbpclelbohaa
