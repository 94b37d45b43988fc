/- Layer 7 (rows): keyLists, the walk. -/
import Derived.Test.YtgjcchafmcccjaaGreatDoorRwLists
namespace Go.Proofs.YtgjcchafmcccjaaGreatDoor
open Go.RowKit
set_option linter.unusedVariables false
attribute [local go_sem] Oper.semAt_some

theorem ownP_len (fs : List Fd) (x : Ix) (cs : List CV) (e : ByteArray) : (ownP fs x cs e).length = x.ov.length := by
  unfold ownP
  split <;> simp
theorem ownP_wf {fs : List Fd} {x : XV} {cs : List CV} {e : ByteArray} (hok : OvOk x fs cs) (hr : ∀ c ∈ cs, c.wf) (he : e.size ≤ 140737488351232) : ∀ q ∈ ownP fs x.x cs e, q.wf := by
  have h1 : ∀ q ∈ x.x.ov.map (cellP fs cs e), q.wf := by
    intro q hq
    obtain ⟨p, hp, rfl⟩ := List.mem_map.1 hq
    have hpl := hok.place p hp
    obtain ⟨p', rfl⟩ : ∃ p' : Nat, p = (p' : Int) := ⟨p.toNat, by omega⟩
    have h2 : p' < cs.length := by have := hok.same; omega
    exact cellP_wf (by omega) h2 (hr _ (List.getElem_mem h2)) he
  unfold ownP
  split
  · intro q hq
    obtain ⟨p, hp, rfl⟩ := List.mem_map.1 hq
    exact lowPt_wf (h1 p hp)
  · exact h1
theorem elems_wf {fs : List Fd} {ov : List Int} {cs : List CV} (hr : ∀ c ∈ cs, c.wf) : ∀ e ∈ elemsOf fs ov cs, e.size ≤ 140737488351232 := by
  intro e he
  unfold elemsOf at he
  cases h : listP fs ov with
  | none =>
    rw [h] at he
    simp only [List.mem_singleton] at he
    subst he
    show (0 : Nat) ≤ _
    omega
  | some p =>
    rw [h] at he
    dsimp only at he
    by_cases hp : p.toNat < cs.length
    · rw [List.getD_eq_getElem?_getD, List.getElem?_eq_getElem hp] at he
      exact (hr _ (List.getElem_mem hp)).2.2.1 e he
    · rw [List.getD_eq_getElem?_getD, List.getElem?_eq_none (by omega)] at he
      simp [noC] at he

/-- What is asked of a table and an index over a row. -/
structure KlOk (w : World) (t : TV) (x : XV) (ca : Option Addr) (cs : List CV) : Prop where
  ok : OvOk x t.fs cs
  fs : CellsAt w t.fa (fcs t.fs)
  xs : CellsAt w t.xa (xcs t.xs)
  ov : CellsAt w x.va (ics x.x.ov)
  row : RowAt w ca cs
  id : 0 < t.xs.length
  xm : t.xs.length ≤ 8
  ok0 : ∀ y, t.xs[0]? = some y → OvOk y t.fs cs ∧ CellsAt w y.va (ics y.x.ov)
  few : (elemsOf t.fs x.x.ov cs).length ≤ 32
theorem KlOk.below {w w' : World} {t : TV} {x : XV} {ca : Option Addr} {cs : List CV} (h : KlOk w t x ca cs) (hb : Below w.heap.size w w') : KlOk w' t x ca cs :=
  ⟨h.ok, h.fs.below hb, h.xs.below hb, h.ov.below hb, h.row.below hb, h.id, h.xm, fun y hy => ⟨(h.ok0 y hy).1, (h.ok0 y hy).2.below hb⟩, h.few⟩

set_option maxRecDepth 100000 in
set_option maxHeartbeats 4000000 in
theorem keyLists_calls (t : TV) (x : XV) (ca : Option Addr) (cc : Nat) (cs : List CV) (w : World) (hk : KlOk w t x ca cs) :
    Calls Tryz.prog 38 #[.agg #[.string t.n, t.fv, t.xv], .agg #[.string x.x.n, .slice x.va x.x.ov.length x.vc, .bool x.x.u, .bool x.x.l, .bool x.x.s], .slice ca cs.length cc] w fun e w' => (∃ a c ls, e = .returned (.tuple #[.slice a ls.length c, .bool (wholeB t.tb x.x cs)]) ∧ Lists w' w.heap.size (.slice a ls.length c) ls ∧ ls.map LV.ps = listsP t.tb x.x cs) ∧ Below w.heap.size w w' := by
  have HK : Hid (KlOk w t x ca cs) := hk
  have hom := hk.ok.most
  have hfew := hk.few
  have hid := hk.id
  have hxm := hk.xm
  obtain ⟨y, hy⟩ : ∃ y, t.xs[0]? = some y := ⟨t.xs[0], List.getElem?_eq_getElem hid⟩
  obtain ⟨hy1, hy2⟩ := hk.ok0 y hy
  have HYO : Hid (OvOk y t.fs cs) := hy1
  have HYA : Hid (CellsAt w y.va (ics y.x.ov)) := hy2
  obtain ⟨xb, xo, hxa, i0, i1, i2, i3, i4⟩ := hk.xs.idx 0 hid
  have hy0 : t.xs[0] = y := by rw [List.getElem?_eq_getElem hid] at hy; exact Option.some.inj hy
  rw [hy0, Nat.zero_mul, Nat.add_zero] at i0 i1 i2 i3 i4
  have HBH : Hid (behindP t.tb x.x cs = if x.x.u then [] else ownP t.fs y.x cs ⟨#[]⟩) := by
    unfold behindP
    rw [Hid, show t.tb.xs.getD 0 ⟨⟨#[]⟩, [], false, false, false⟩ = y.x by
      rw [List.getD_eq_getElem?_getD]
      show ((t.xs.map (·.x))[0]?).getD _ = _
      rw [List.getElem?_map, hy]
      rfl]
    rfl
  have hol := HYO.out.most
  have hxbl : xb < w.heap.size := World.block_lt_of_cell? w _ i0
  clear hk hy1 hy2 hy hy0
  obtain ⟨tn, fs, fa, fc, xs, xa, xc⟩ := t
  obtain ⟨⟨xn, ov, u, l, s⟩, va, vc⟩ := x
  dsimp only [TV.fv, TV.xv] at *
  subst hxa
  have HEO : Hid (∀ W, Below w.heap.size w W → Calls Tryz.prog 52 #[.slice fa fs.length fc, .agg #[.string xn, .slice va ov.length vc, .bool u, .bool l, .bool s], .slice ca cs.length cc] W fun e' w' => (∃ ao c, e' = .returned (.slice ao (elemsOf fs ov cs).length c) ∧ CellsAt w' ao ((elemsOf fs ov cs).map Value.string) ∧ (∀ g off, ao = some ⟨g, off, none⟩ → 0 < (elemsOf fs ov cs).length → g < w.heap.size ∨ ∃ q, w'.heap[g]? = some (.cells q 9))) ∧ Below W.heap.size W w') := fun W hW => elementsOf_calls fa fc fs ⟨⟨xn, ov, u, l, s⟩, va, vc⟩ ca cc cs W w HK.out.ok (HK.out.fs.below hW) (HK.out.ov.below hW) (HK.out.row.below hW) HK.out.row
  have HOP : Hid (∀ W e, Below w.heap.size w W → e.size ≤ 140737488351232 → Calls Tryz.prog 51 #[.slice fa fs.length fc, .agg #[.string xn, .slice va ov.length vc, .bool u, .bool l, .bool s], .slice ca cs.length cc, .string e] W fun e' w' => (∃ g c, e' = .returned (.slice (some ⟨g, 0, none⟩) ov.length c) ∧ OwnP w' W.heap.size (.slice (some ⟨g, 0, none⟩) ov.length c) (ownP fs ⟨xn, ov, u, l, s⟩ cs e)) ∧ Below W.heap.size W w') := fun W e hW he => ownParts_calls fa fc fs ⟨⟨xn, ov, u, l, s⟩, va, vc⟩ ca cc cs e W HK.out.ok he (HK.out.fs.below hW) (HK.out.ov.below hW) (HK.out.row.below hW)
  obtain ⟨w2, hw2⟩ : ∃ w2, w2 = (w.alloc (.cells #[.string tn, .slice fa fs.length fc, .slice (some ⟨xb, xo, none⟩) xs.length xc] 42)).alloc (.cells #[.string xn, .slice va ov.length vc, .bool u, .bool l, .bool s] 67) := ⟨_, rfl⟩
  have hb2 : Below w.heap.size w w2 := by rw [hw2]; exact ((Below.refl _ _).alloc (Nat.le_refl _) _).alloc (by simp only [World.size_alloc]; omega) _
  have HT2 : Hid (w2.heap[w.heap.size]? = some (.cells #[.string tn, .slice fa fs.length fc, .slice (some ⟨xb, xo, none⟩) xs.length xc] 42)) := by rw [Hid, hw2]; exact old_blk (new_blk _ _) _
  have HX2 : Hid (w2.heap[w.heap.size + 1]? = some (.cells #[.string xn, .slice va ov.length vc, .bool u, .bool l, .bool s] 67)) := by
    rw [Hid, hw2]
    have := new_blk (w.alloc (.cells #[.string tn, .slice fa fs.length fc, .slice (some ⟨xb, xo, none⟩) xs.length xc] 42)) (.cells #[.string xn, .slice va ov.length vc, .bool u, .bool l, .bool s] 67)
    rw [World.size_alloc] at this
    exact this
  cases u with
  | true =>
    have HBE : Hid (behindP (TV.mk tn fs fa fc xs (some ⟨xb, xo, none⟩) xc).tb ⟨xn, ov, true, l, s⟩ cs = []) := by rw [Hid, HBH.out]; rfl
    have x2 : w2.cell? ⟨w.heap.size + 1, 2, none⟩ = some (.bool true) := by rw [cell_blk HX2.out]; rfl
    obtain ⟨bh, hbn⟩ : ∃ bh : List Pt, bh = [] := ⟨_, rfl⟩
    rw [← hbn] at HBE
    have hbz : bh.length = 0 := by rw [hbn]; rfl
    have HBW : Hid (∀ p ∈ bh, p.wf) := by intro p hp; rw [hbn] at hp; simp at hp
    have HVB : Hid (OwnP w2 w.heap.size (.slice none 0 0) bh) := by rw [hbn]; exact OwnP.nil _ _
    go_enter Tryz.func38, Tryz.ntmps38
    go_upto_region 4 with fail
    rw [← hw2]
    obtain ⟨w5, hw5⟩ : ∃ w5, w5 = w2 := ⟨_, rfl⟩
    rw [← hw5] at HT2 HX2 HVB ⊢
    have HT5 : Hid (w5.heap[w.heap.size]? = _) := HT2.out
    have HX5 : Hid (w5.heap[w.heap.size + 1]? = _) := HX2.out
    have HB5 : Hid (Below w.heap.size w w5) := by rw [hw5]; exact hb2
    clear hw5 hw2 HT2 HX2 x2 hb2 i0 i1 i2 i3 i4
    have t1 : w5.cell? ⟨w.heap.size, 1, none⟩ = some (.slice fa fs.length fc) := by rw [cell_blk HT5.out]; rfl
    have x0 : w5.cell? ⟨w.heap.size + 1, 0, none⟩ = some (.string xn) := by rw [cell_blk HX5.out]; rfl
    have x1 : w5.cell? ⟨w.heap.size + 1, 1, none⟩ = some (.slice va ov.length vc) := by rw [cell_blk HX5.out]; rfl
    have x2 : w5.cell? ⟨w.heap.size + 1, 2, none⟩ = some (.bool true) := by rw [cell_blk HX5.out]; rfl
    have x3 : w5.cell? ⟨w.heap.size + 1, 3, none⟩ = some (.bool l) := by rw [cell_blk HX5.out]; rfl
    have x4 : w5.cell? ⟨w.heap.size + 1, 4, none⟩ = some (.bool s) := by rw [cell_blk HX5.out]; rfl
    go_wp2_with fail
    refine (HEO.out _ HB5.out).mono ?_
    clear HEO
    rintro e w6 ⟨⟨ea, ec, rfl, hel, hes⟩, hb6⟩
    obtain ⟨els, hels⟩ : ∃ els, els = elemsOf fs ov cs := ⟨_, rfl⟩
    rw [← hels] at hel hes hfew
    have HELS : Hid (els = elemsOf fs ov cs) := hels
    have HI6 : Hid (KlI w ⟨tn, fs, fa, fc, xs, some ⟨xb, xo, none⟩, xc⟩ ⟨⟨xn, ov, true, l, s⟩, va, vc⟩ bh (.slice none 0 0) ea els (.slice none 0 0) [] w6) := by
      refine ⟨(hb6.block _ (lt_blk HT5.out)).trans HT5.out, (hb6.block _ (lt_blk HX5.out)).trans HX5.out, HVB.out.below hb6, ⟨hel, fun g off hg hn => ?_⟩, Lists.nil _ _, HB5.out.trans (hb6.mono HB5.out.size)⟩
      exact hes g off hg hn
    rw [← hels]
    clear hel hes hb6 hels HVB t1 x0 x1 x2 x3 x4
    have HEW : Hid (∀ e ∈ els, e.size ≤ 140737488351232) := by rw [HELS.out]; exact elems_wf HK.out.row.wf
    have HW0 : Hid (wholeB (TV.mk tn fs fa fc xs (some ⟨xb, xo, none⟩) xc).tb ⟨xn, ov, true, l, s⟩ cs = (decide (0 < els.length) && els.all fun e => !lackB fs ⟨xn, ov, true, l, s⟩ cs e)) := by rw [HELS.out]; rfl
    have HL0 : Hid (listsP (TV.mk tn fs fa fc xs (some ⟨xb, xo, none⟩) xc).tb ⟨xn, ov, true, l, s⟩ cs = els.filterMap (oneL fs ⟨xn, ov, true, l, s⟩ cs bh)) := by
      rw [HELS.out, Hid, ← HBE.out]; rfl
    obtain ⟨nn, hnn⟩ : ∃ nn, nn = els.length := ⟨_, rfl⟩
    have HNN : Hid (els.length = nn) := hnn.symm
    rw [← hnn] at hfew
    rw [← hnn]
    clear hnn
    go_wp2
    go_loopw [6, 7, 11, 12, 34] (fun v6 v7 a11 a12 i wr => ∃ (k : Nat) (a6 : Option Addr) (c6 : Nat) (ls : List LV) (wh : Bool), k ≤ nn ∧ i = .int .i64 k ∧ v6 = .slice a6 ls.length c6 ∧ v7 = .bool wh ∧ ls.length ≤ k ∧ Hid (ls.map LV.ps = (els.take k).filterMap (oneL fs ⟨xn, ov, true, l, s⟩ cs bh)) ∧ Hid (wh = (decide (0 < nn) && (els.take k).all fun e => !lackB fs ⟨xn, ov, true, l, s⟩ cs e)) ∧ Hid (KlI w ⟨tn, fs, fa, fc, xs, some ⟨xb, xo, none⟩, xc⟩ ⟨⟨xn, ov, true, l, s⟩, va, vc⟩ bh (.slice none 0 0) ea els (.slice a6 ls.length c6) ls wr)) (fun _ _ _ _ i _ => nn - (intOf i).toNat)
    case atStart => exact ⟨0, none, 0, [], decide (0 < nn), Nat.zero_le _, rfl, rfl, rfl, Nat.le_refl _, rfl, by simp [Hid], HI6⟩
    case round =>
      obtain ⟨k, a6, c6, ls, wh, hk, rfl, rfl, rfl, hlk, HLS, HWW, HI⟩ := hrel
      clear HI6
      by_cases hlt : k < nn
      · have hlt' : k < els.length := by rw [HNN.out]; exact hlt
        obtain ⟨eb, eo, rfl, c0⟩ := HI.out.els.1.str k hlt'
        have t1 : wr.cell? ⟨w.heap.size, 1, none⟩ = some (.slice fa fs.length fc) := by rw [cell_blk HI.out.tab]; rfl
        have x0 : wr.cell? ⟨w.heap.size + 1, 0, none⟩ = some (.string xn) := by rw [cell_blk HI.out.bx]; rfl
        have x1 : wr.cell? ⟨w.heap.size + 1, 1, none⟩ = some (.slice va ov.length vc) := by rw [cell_blk HI.out.bx]; rfl
        have x2 : wr.cell? ⟨w.heap.size + 1, 2, none⟩ = some (.bool true) := by rw [cell_blk HI.out.bx]; rfl
        have x3 : wr.cell? ⟨w.heap.size + 1, 3, none⟩ = some (.bool l) := by rw [cell_blk HI.out.bx]; rfl
        have x4 : wr.cell? ⟨w.heap.size + 1, 4, none⟩ = some (.bool s) := by rw [cell_blk HI.out.bx]; rfl
        have hew := HEW.out _ (List.getElem_mem hlt')
        have HPW : Hid (∀ q ∈ ownP fs ⟨xn, ov, true, l, s⟩ cs els[k], q.wf) := ownP_wf (x := ⟨⟨xn, ov, true, l, s⟩, va, vc⟩) HK.out.ok HK.out.row.wf hew
        have HOC := HOP.out wr els[k] HI.out.be hew
        have HOC : Hid (Calls Tryz.prog 51 #[.slice fa fs.length fc, .agg #[.string xn, .slice va ov.length vc, .bool true, .bool l, .bool s], .slice ca cs.length cc, .string els[k]] wr fun e' w' => (∃ g c, e' = .returned (.slice (some ⟨g, 0, none⟩) ov.length c) ∧ OwnP w' wr.heap.size (.slice (some ⟨g, 0, none⟩) ov.length c) (ownP fs ⟨xn, ov, true, l, s⟩ cs els[k])) ∧ Below wr.heap.size wr w') := HOC
        clear hew
        go_wp2_with fail
        refine HOC.out.mono ?_
        clear HOC
        rintro e w7 ⟨⟨g, c, rfl, ho7⟩, hb7⟩
        have hpl : (ownP fs ⟨xn, ov, true, l, s⟩ cs els[k]).length = ov.length := ownP_len _ _ _ _
        have HCT := contains_calls (some ⟨g, 0, none⟩) c (ownP fs ⟨xn, ov, true, l, s⟩ cs els[k]) emptyQ w7 (by rw [hpl]; omega) (ho7.parts HPW.out)
        rw [hpl] at HCT
        have HCT : Hid (Calls Tryz.prog 53 #[.slice (some ⟨g, 0, none⟩) ov.length c, .agg #[.int .i64 1, .string ⟨#[]⟩, .int .u64 0]] w7 fun e w' => e = .returned (.bool (lackB fs ⟨xn, ov, true, l, s⟩ cs els[k])) ∧ Below w7.heap.size w7 w') := HCT
        have HO7 : Hid (OwnP w7 wr.heap.size (.slice (some ⟨g, 0, none⟩) ov.length c) (ownP fs ⟨xn, ov, true, l, s⟩ cs els[k])) := ho7
        have HB7 : Hid (Below wr.heap.size wr w7) := hb7
        clear ho7 hb7 t1 x0 x1 x2 x3 x4 c0 hpl
        go_wp2_with fail
        refine HCT.out.mono ?_
        clear HCT
        rintro e w8 ⟨rfl, hb8⟩
        have HB8 : Hid (Below wr.heap.size wr w8) := HB7.out.trans (hb8.mono HB7.out.size)
        have HO8 : Hid (OwnP w8 wr.heap.size (.slice (some ⟨g, 0, none⟩) ov.length c) (ownP fs ⟨xn, ov, true, l, s⟩ cs els[k])) := HO7.out.below hb8
        clear HO7 HB7 hb8
        have HSN := oneL_snoc fs ⟨xn, ov, true, l, s⟩ cs bh els k hlt'
        have HSN : Hid ((els.take (k + 1)).filterMap (oneL fs ⟨xn, ov, true, l, s⟩ cs bh) = (els.take k).filterMap (oneL fs ⟨xn, ov, true, l, s⟩ cs bh) ++ (if lackB fs ⟨xn, ov, true, l, s⟩ cs els[k] then [] else [ownP fs ⟨xn, ov, true, l, s⟩ cs els[k] ++ bh])) := HSN
        have HAL : Hid ((els.take (k + 1)).all (fun e => !lackB fs ⟨xn, ov, true, l, s⟩ cs e) = ((els.take k).all (fun e => !lackB fs ⟨xn, ov, true, l, s⟩ cs e) && !lackB fs ⟨xn, ov, true, l, s⟩ cs els[k])) := all_snoc els _ k hlt'
        cases hlb : lackB fs ⟨xn, ov, true, l, s⟩ cs els[k] with
        | true =>
          rw [hlb, if_pos rfl, List.append_nil] at HSN
          have HW2 : Hid (false = (decide (0 < nn) && (els.take (k + 1)).all fun e => !lackB fs ⟨xn, ov, true, l, s⟩ cs e)) := by rw [Hid, HAL.out, hlb]; simp
          have HI8 : Hid (KlI w ⟨tn, fs, fa, fc, xs, some ⟨xb, xo, none⟩, xc⟩ ⟨⟨xn, ov, true, l, s⟩, va, vc⟩ bh (.slice none 0 0) (some ⟨eb, eo, none⟩) els (.slice a6 ls.length c6) ls w8) := HI.out.below HB8.out
          have HLS2 : Hid (ls.map LV.ps = (els.take (k + 1)).filterMap (oneL fs ⟨xn, ov, true, l, s⟩ cs bh)) := by rw [Hid, HSN.out]; exact HLS.out
          clear hlb HAL HSN
          go_wp2
          go_roundw
          case rel => exact ⟨k + 1, a6, c6, ls, false, by omega, by go_num, rfl, rfl, by omega, HLS2, HW2, HI8⟩
          case measure => simp [intOf]; omega
        | false =>
          rw [hlb, if_neg (by simp)] at HSN
          have HW2 : Hid (wh = (decide (0 < nn) && (els.take (k + 1)).all fun e => !lackB fs ⟨xn, ov, true, l, s⟩ cs e)) := by rw [Hid, HAL.out, hlb, HWW.out]; simp
          clear hlb HAL
          have hop1 := HO8.out
          have hsz1 : wr.heap.size ≤ w8.heap.size := HB8.out.size
          have hi8 := HI.out.below HB8.out
          have hcc : ov.length ≤ c := by
            rcases hop1.2 with ⟨he', h0⟩ | ⟨g', cap', cur, he', _, _, hc', _⟩
            · cases he'
            · simp only [Value.slice.injEq] at he'
              obtain ⟨_, hnl, rfl⟩ := he'
              rw [hnl]
              exact hc'
          obtain ⟨w9, hw9⟩ : ∃ w9, w9 = w8 := ⟨_, rfl⟩
          have hg9 : Grew w8 w9 (.slice (some ⟨g, 0, none⟩) ov.length c) (.slice (some ⟨g, 0, none⟩) ov.length c) := by rw [hw9]; exact Grew.refl _ _
          have ho9 : OwnP w9 wr.heap.size (.slice (some ⟨g, 0, none⟩) ov.length c) (ownP fs ⟨xn, ov, true, l, s⟩ cs els[k] ++ bh) := by rw [hw9, hbn, List.append_nil]; exact hop1
          rw [← hw9]
          have hlsr : Lists w9 w.heap.size (.slice a6 ls.length c6) ls := by rw [hw9]; exact hi8.ls
          have hql : (ownP fs ⟨xn, ov, true, l, s⟩ cs els[k] ++ bh).length = ov.length := by rw [List.length_append, ownP_len, hbz]; rfl
          clear hw9
          have HRow := hlsr.row
          have hn2 : ls.length ≤ 4194304 := by omega
          have hB9 : w.heap.size ≤ w9.heap.size := Nat.le_trans HI.out.be.size (Nat.le_trans HB8.out.size hg9.size)
          have HG9 : Hid (Grew w8 w9 (.slice (some ⟨g, 0, none⟩) ov.length c) (.slice (some ⟨g, 0, none⟩) ov.length c)) := hg9
          have HO9 : Hid (OwnP w9 wr.heap.size (.slice (some ⟨g, 0, none⟩) ov.length c) (ownP fs ⟨xn, ov, true, l, s⟩ cs els[k] ++ bh)) := ho9
          have HHW : Hid ((∀ p ∈ ownP fs ⟨xn, ov, true, l, s⟩ cs els[k] ++ bh, p.wf) ∧ (ownP fs ⟨xn, ov, true, l, s⟩ cs els[k] ++ bh).length ≤ 8) := ⟨fun p hp => by rcases List.mem_append.1 hp with h | h; exact HPW.out p h; exact HBW.out p h, by rw [hql]; omega⟩
          clear hg9 ho9 hop1 hi8 hlsr
          go_wp2_with (at_builtin; (refine append_row _ rfl (.tmp 47) (.tmp 51) _ 94 _ 1 24 Tryz.underlying91 info_plist rfl (by decide) rfl w.heap.size _ ls.length _ rfl [.slice (some ⟨g, 0, none⟩) ov.length c] rfl (by simp [Value.oneCell']) _ _ rfl rfl rfl HRow hn2 (by omega) hB9 ?_))
          intro v10 w10 hr10 hg10
          have HI10 : Hid (KlI w ⟨tn, fs, fa, fc, xs, some ⟨xb, xo, none⟩, xc⟩ ⟨⟨xn, ov, true, l, s⟩, va, vc⟩ bh (.slice none 0 0) (some ⟨eb, eo, none⟩) els v10 (ls ++ [⟨ownP fs ⟨xn, ov, true, l, s⟩ cs els[k] ++ bh, (some ⟨g, 0, none⟩), c⟩]) w10) := by
            have hv : (⟨ownP fs ⟨xn, ov, true, l, s⟩ cs els[k] ++ bh, (some ⟨g, 0, none⟩), c⟩ : LV).v = .slice (some ⟨g, 0, none⟩) ov.length c := by show Value.slice (some ⟨g, 0, none⟩) _ c = _; rw [hql]
            exact HI.out.push HB8.out HO8.out HG9.out (by rw [hv]; exact HO9.out) HHW.out (by rw [hv]; exact hr10) hg10
          have HLS2 : Hid ((ls ++ [(⟨ownP fs ⟨xn, ov, true, l, s⟩ cs els[k] ++ bh, (some ⟨g, 0, none⟩), c⟩ : LV)]).map LV.ps = (els.take (k + 1)).filterMap (oneL fs ⟨xn, ov, true, l, s⟩ cs bh)) := by rw [Hid, HSN.out, List.map_append, HLS.out]; rfl
          obtain ⟨a10, c10, rfl, -⟩ := row_forms HI10.out.ls.row
          clear hr10 hg10 HRow
          have hll : (ls ++ [(⟨ownP fs ⟨xn, ov, true, l, s⟩ cs els[k] ++ bh, (some ⟨g, 0, none⟩), c⟩ : LV)]).length = ls.length + 1 := by simp
          generalize ls ++ [(⟨ownP fs ⟨xn, ov, true, l, s⟩ cs els[k] ++ bh, (some ⟨g, 0, none⟩), c⟩ : LV)] = ls2 at *
          go_wp2
          go_roundw
          case rel => exact ⟨k + 1, a10, c10, ls2, wh, by omega, by go_num, rfl, rfl, by omega, HLS2, HW2, HI10⟩
          case measure => simp [intOf]; omega
      · obtain rfl : k = nn := by omega
        rw [← HNN.out, show els.take els.length = els from List.take_length] at HLS HWW
        go_wp2
        go_ret2
        refine ⟨⟨a6, c6, ls, ?_, HI.out.ls, ?_⟩, HI.out.be⟩
        · rw [HW0.out, ← HWW.out]
          rfl
        · rw [HL0.out]; exact HLS.out
  | false =>
    have HBE : Hid (behindP (TV.mk tn fs fa fc xs (some ⟨xb, xo, none⟩) xc).tb ⟨xn, ov, false, l, s⟩ cs = ownP fs y.x cs ⟨#[]⟩) := by rw [Hid, HBH.out]; rfl
    have x2 : w2.cell? ⟨w.heap.size + 1, 2, none⟩ = some (.bool false) := by rw [cell_blk HX2.out]; rfl
    have t1 : w2.cell? ⟨w.heap.size, 1, none⟩ = some (.slice fa fs.length fc) := by rw [cell_blk HT2.out]; rfl
    have t2 : w2.cell? ⟨w.heap.size, 2, none⟩ = some (.slice (some ⟨xb, xo, none⟩) xs.length xc) := by rw [cell_blk HT2.out]; rfl
    have j0 : w2.cell? ⟨xb, xo, none⟩ = some (.string y.x.n) := by rw [hb2.cell (by exact hxbl)]; exact i0
    have j1 : w2.cell? ⟨xb, xo + 1, none⟩ = some (.slice y.va y.x.ov.length y.vc) := by rw [hb2.cell (by exact hxbl)]; exact i1
    have j2 : w2.cell? ⟨xb, xo + 2, none⟩ = some (.bool y.x.u) := by rw [hb2.cell (by exact hxbl)]; exact i2
    have j3 : w2.cell? ⟨xb, xo + 3, none⟩ = some (.bool y.x.l) := by rw [hb2.cell (by exact hxbl)]; exact i3
    have j4 : w2.cell? ⟨xb, xo + 4, none⟩ = some (.bool y.x.s) := by rw [hb2.cell (by exact hxbl)]; exact i4
    obtain ⟨bh, hbn⟩ : ∃ bh : List Pt, bh = ownP fs y.x cs ⟨#[]⟩ := ⟨_, rfl⟩
    rw [← hbn] at HBE
    have hbl : bh.length = y.x.ov.length := by rw [hbn, ownP_len]
    have HBW : Hid (∀ p ∈ bh, p.wf) := by rw [hbn]; exact ownP_wf HYO.out HK.out.row.wf (show (0 : Nat) ≤ _ by omega)
    have hbd : Below w.heap.size w w2.drew := ⟨hb2.os, hb2.tape, hb2.output, hb2.size, hb2.block⟩
    have HOY : Hid (Calls Tryz.prog 51 #[.slice fa fs.length fc, .agg #[.string y.x.n, .slice y.va y.x.ov.length y.vc, .bool y.x.u, .bool y.x.l, .bool y.x.s], .slice ca cs.length cc, .string ⟨#[]⟩] w2.drew fun e' w' => (∃ g c, e' = .returned (.slice (some ⟨g, 0, none⟩) y.x.ov.length c) ∧ OwnP w' w2.drew.heap.size (.slice (some ⟨g, 0, none⟩) y.x.ov.length c) bh) ∧ Below w2.drew.heap.size w2.drew w') := by
      rw [hbn]
      exact ownParts_calls fa fc fs y ca cc cs ⟨#[]⟩ w2.drew HYO.out (show (0 : Nat) ≤ _ by omega) (HK.out.fs.below hbd) (HYA.out.below hbd) (HK.out.row.below hbd)
    have hx2l : w.heap.size + 1 < w2.heap.size := lt_blk HX2.out
    have hidI : (0 : Int) < (xs.length : Int) := by omega
    clear hbn
    go_enter Tryz.func38, Tryz.ntmps38
    go_upto_region 3 with fail
    rw [← hw2]
    clear hw2 x2
    go_region_held3 (fun W => W.cell? ⟨w.heap.size, 1, none⟩ = some (.slice fa fs.length fc) ∧ W.cell? ⟨w.heap.size, 2, none⟩ = some (.slice (some ⟨xb, xo, none⟩) xs.length xc) ∧ W.cell? ⟨xb, xo, none⟩ = some (.string y.x.n) ∧ W.cell? ⟨xb, xo + 1, none⟩ = some (.slice y.va y.x.ov.length y.vc) ∧ W.cell? ⟨xb, xo + 2, none⟩ = some (.bool y.x.u) ∧ W.cell? ⟨xb, xo + 3, none⟩ = some (.bool y.x.l) ∧ W.cell? ⟨xb, xo + 4, none⟩ = some (.bool y.x.s)) (first | (exact q3) | go_keep)
      (first
        | (go_at_call 51
           refine HOY.out.mono ?_
           rintro e w5 ⟨⟨gb, cb, rfl, ho5⟩, hb5⟩
           have HB25 : Hid (Below w2.heap.size w2 w5) := ⟨hb5.os, hb5.tape, hb5.output, hb5.size, hb5.block⟩
           have HVB : Hid (OwnP w5 w.heap.size (.slice (some ⟨gb, 0, none⟩) y.x.ov.length cb) bh) := ho5.mono hb2.size
           have q3 : w5.cell? ⟨w.heap.size, 1, none⟩ = some (.slice fa fs.length fc) ∧ w5.cell? ⟨w.heap.size, 2, none⟩ = some (.slice (some ⟨xb, xo, none⟩) xs.length xc) ∧ w5.cell? ⟨xb, xo, none⟩ = some (.string y.x.n) ∧ w5.cell? ⟨xb, xo + 1, none⟩ = some (.slice y.va y.x.ov.length y.vc) ∧ w5.cell? ⟨xb, xo + 2, none⟩ = some (.bool y.x.u) ∧ w5.cell? ⟨xb, xo + 3, none⟩ = some (.bool y.x.l) ∧ w5.cell? ⟨xb, xo + 4, none⟩ = some (.bool y.x.s) := by
             have hwl : w.heap.size < w2.heap.size := by omega
             have hxl : xb < w2.heap.size := by omega
             exact ⟨by rw [HB25.out.cell (by exact hwl)]; exact t1, by rw [HB25.out.cell (by exact hwl)]; exact t2, by rw [HB25.out.cell (by exact hxl)]; exact j0, by rw [HB25.out.cell (by exact hxl)]; exact j1, by rw [HB25.out.cell (by exact hxl)]; exact j2, by rw [HB25.out.cell (by exact hxl)]; exact j3, by rw [HB25.out.cell (by exact hxl)]; exact j4⟩
           clear ho5 hb5))
    have HT5 : Hid (w5.heap[w.heap.size]? = _) := (HB25.out.block _ (lt_blk HT2.out)).trans HT2.out
    have HX5 : Hid (w5.heap[w.heap.size + 1]? = _) := (HB25.out.block _ (lt_blk HX2.out)).trans HX2.out
    have HB5 : Hid (Below w.heap.size w w5) := hb2.trans (HB25.out.mono hb2.size)
    clear HT2 HX2 HB25 hb2 i0 i1 i2 i3 i4 j0 j1 j2 j3 j4 t1 t2 q3 HOY hbd hx2l
    have t1 : w5.cell? ⟨w.heap.size, 1, none⟩ = some (.slice fa fs.length fc) := by rw [cell_blk HT5.out]; rfl
    have x0 : w5.cell? ⟨w.heap.size + 1, 0, none⟩ = some (.string xn) := by rw [cell_blk HX5.out]; rfl
    have x1 : w5.cell? ⟨w.heap.size + 1, 1, none⟩ = some (.slice va ov.length vc) := by rw [cell_blk HX5.out]; rfl
    have x2 : w5.cell? ⟨w.heap.size + 1, 2, none⟩ = some (.bool false) := by rw [cell_blk HX5.out]; rfl
    have x3 : w5.cell? ⟨w.heap.size + 1, 3, none⟩ = some (.bool l) := by rw [cell_blk HX5.out]; rfl
    have x4 : w5.cell? ⟨w.heap.size + 1, 4, none⟩ = some (.bool s) := by rw [cell_blk HX5.out]; rfl
    go_wp2_with fail
    refine (HEO.out _ HB5.out).mono ?_
    clear HEO
    rintro e w6 ⟨⟨ea, ec, rfl, hel, hes⟩, hb6⟩
    obtain ⟨els, hels⟩ : ∃ els, els = elemsOf fs ov cs := ⟨_, rfl⟩
    rw [← hels] at hel hes hfew
    have HELS : Hid (els = elemsOf fs ov cs) := hels
    have HI6 : Hid (KlI w ⟨tn, fs, fa, fc, xs, some ⟨xb, xo, none⟩, xc⟩ ⟨⟨xn, ov, false, l, s⟩, va, vc⟩ bh (.slice (some ⟨gb, 0, none⟩) y.x.ov.length cb) ea els (.slice none 0 0) [] w6) := by
      refine ⟨(hb6.block _ (lt_blk HT5.out)).trans HT5.out, (hb6.block _ (lt_blk HX5.out)).trans HX5.out, HVB.out.below hb6, ⟨hel, fun g off hg hn => ?_⟩, Lists.nil _ _, HB5.out.trans (hb6.mono HB5.out.size)⟩
      exact hes g off hg hn
    rw [← hels]
    clear hel hes hb6 hels HVB t1 x0 x1 x2 x3 x4
    have HEW : Hid (∀ e ∈ els, e.size ≤ 140737488351232) := by rw [HELS.out]; exact elems_wf HK.out.row.wf
    have HW0 : Hid (wholeB (TV.mk tn fs fa fc xs (some ⟨xb, xo, none⟩) xc).tb ⟨xn, ov, false, l, s⟩ cs = (decide (0 < els.length) && els.all fun e => !lackB fs ⟨xn, ov, false, l, s⟩ cs e)) := by rw [HELS.out]; rfl
    have HL0 : Hid (listsP (TV.mk tn fs fa fc xs (some ⟨xb, xo, none⟩) xc).tb ⟨xn, ov, false, l, s⟩ cs = els.filterMap (oneL fs ⟨xn, ov, false, l, s⟩ cs bh)) := by
      rw [HELS.out, Hid, ← HBE.out]; rfl
    obtain ⟨nn, hnn⟩ : ∃ nn, nn = els.length := ⟨_, rfl⟩
    have HNN : Hid (els.length = nn) := hnn.symm
    rw [← hnn] at hfew
    rw [← hnn]
    clear hnn
    go_wp2
    go_loopw [6, 7, 11, 12, 34] (fun v6 v7 a11 a12 i wr => ∃ (k : Nat) (a6 : Option Addr) (c6 : Nat) (ls : List LV) (wh : Bool), k ≤ nn ∧ i = .int .i64 k ∧ v6 = .slice a6 ls.length c6 ∧ v7 = .bool wh ∧ ls.length ≤ k ∧ Hid (ls.map LV.ps = (els.take k).filterMap (oneL fs ⟨xn, ov, false, l, s⟩ cs bh)) ∧ Hid (wh = (decide (0 < nn) && (els.take k).all fun e => !lackB fs ⟨xn, ov, false, l, s⟩ cs e)) ∧ Hid (KlI w ⟨tn, fs, fa, fc, xs, some ⟨xb, xo, none⟩, xc⟩ ⟨⟨xn, ov, false, l, s⟩, va, vc⟩ bh (.slice (some ⟨gb, 0, none⟩) y.x.ov.length cb) ea els (.slice a6 ls.length c6) ls wr)) (fun _ _ _ _ i _ => nn - (intOf i).toNat)
    case atStart => exact ⟨0, none, 0, [], decide (0 < nn), Nat.zero_le _, rfl, rfl, rfl, Nat.le_refl _, rfl, by simp [Hid], HI6⟩
    case round =>
      obtain ⟨k, a6, c6, ls, wh, hk, rfl, rfl, rfl, hlk, HLS, HWW, HI⟩ := hrel
      clear HI6
      by_cases hlt : k < nn
      · have hlt' : k < els.length := by rw [HNN.out]; exact hlt
        obtain ⟨eb, eo, rfl, c0⟩ := HI.out.els.1.str k hlt'
        have t1 : wr.cell? ⟨w.heap.size, 1, none⟩ = some (.slice fa fs.length fc) := by rw [cell_blk HI.out.tab]; rfl
        have x0 : wr.cell? ⟨w.heap.size + 1, 0, none⟩ = some (.string xn) := by rw [cell_blk HI.out.bx]; rfl
        have x1 : wr.cell? ⟨w.heap.size + 1, 1, none⟩ = some (.slice va ov.length vc) := by rw [cell_blk HI.out.bx]; rfl
        have x2 : wr.cell? ⟨w.heap.size + 1, 2, none⟩ = some (.bool false) := by rw [cell_blk HI.out.bx]; rfl
        have x3 : wr.cell? ⟨w.heap.size + 1, 3, none⟩ = some (.bool l) := by rw [cell_blk HI.out.bx]; rfl
        have x4 : wr.cell? ⟨w.heap.size + 1, 4, none⟩ = some (.bool s) := by rw [cell_blk HI.out.bx]; rfl
        have hew := HEW.out _ (List.getElem_mem hlt')
        have HPW : Hid (∀ q ∈ ownP fs ⟨xn, ov, false, l, s⟩ cs els[k], q.wf) := ownP_wf (x := ⟨⟨xn, ov, false, l, s⟩, va, vc⟩) HK.out.ok HK.out.row.wf hew
        have HOC := HOP.out wr els[k] HI.out.be hew
        have HOC : Hid (Calls Tryz.prog 51 #[.slice fa fs.length fc, .agg #[.string xn, .slice va ov.length vc, .bool false, .bool l, .bool s], .slice ca cs.length cc, .string els[k]] wr fun e' w' => (∃ g c, e' = .returned (.slice (some ⟨g, 0, none⟩) ov.length c) ∧ OwnP w' wr.heap.size (.slice (some ⟨g, 0, none⟩) ov.length c) (ownP fs ⟨xn, ov, false, l, s⟩ cs els[k])) ∧ Below wr.heap.size wr w') := HOC
        clear hew
        go_wp2_with fail
        refine HOC.out.mono ?_
        clear HOC
        rintro e w7 ⟨⟨g, c, rfl, ho7⟩, hb7⟩
        have hpl : (ownP fs ⟨xn, ov, false, l, s⟩ cs els[k]).length = ov.length := ownP_len _ _ _ _
        have HCT := contains_calls (some ⟨g, 0, none⟩) c (ownP fs ⟨xn, ov, false, l, s⟩ cs els[k]) emptyQ w7 (by rw [hpl]; omega) (ho7.parts HPW.out)
        rw [hpl] at HCT
        have HCT : Hid (Calls Tryz.prog 53 #[.slice (some ⟨g, 0, none⟩) ov.length c, .agg #[.int .i64 1, .string ⟨#[]⟩, .int .u64 0]] w7 fun e w' => e = .returned (.bool (lackB fs ⟨xn, ov, false, l, s⟩ cs els[k])) ∧ Below w7.heap.size w7 w') := HCT
        have HO7 : Hid (OwnP w7 wr.heap.size (.slice (some ⟨g, 0, none⟩) ov.length c) (ownP fs ⟨xn, ov, false, l, s⟩ cs els[k])) := ho7
        have HB7 : Hid (Below wr.heap.size wr w7) := hb7
        clear ho7 hb7 t1 x0 x1 x2 x3 x4 c0 hpl
        go_wp2_with fail
        refine HCT.out.mono ?_
        clear HCT
        rintro e w8 ⟨rfl, hb8⟩
        have HB8 : Hid (Below wr.heap.size wr w8) := HB7.out.trans (hb8.mono HB7.out.size)
        have HO8 : Hid (OwnP w8 wr.heap.size (.slice (some ⟨g, 0, none⟩) ov.length c) (ownP fs ⟨xn, ov, false, l, s⟩ cs els[k])) := HO7.out.below hb8
        clear HO7 HB7 hb8
        have HSN := oneL_snoc fs ⟨xn, ov, false, l, s⟩ cs bh els k hlt'
        have HSN : Hid ((els.take (k + 1)).filterMap (oneL fs ⟨xn, ov, false, l, s⟩ cs bh) = (els.take k).filterMap (oneL fs ⟨xn, ov, false, l, s⟩ cs bh) ++ (if lackB fs ⟨xn, ov, false, l, s⟩ cs els[k] then [] else [ownP fs ⟨xn, ov, false, l, s⟩ cs els[k] ++ bh])) := HSN
        have HAL : Hid ((els.take (k + 1)).all (fun e => !lackB fs ⟨xn, ov, false, l, s⟩ cs e) = ((els.take k).all (fun e => !lackB fs ⟨xn, ov, false, l, s⟩ cs e) && !lackB fs ⟨xn, ov, false, l, s⟩ cs els[k])) := all_snoc els _ k hlt'
        cases hlb : lackB fs ⟨xn, ov, false, l, s⟩ cs els[k] with
        | true =>
          rw [hlb, if_pos rfl, List.append_nil] at HSN
          have HW2 : Hid (false = (decide (0 < nn) && (els.take (k + 1)).all fun e => !lackB fs ⟨xn, ov, false, l, s⟩ cs e)) := by rw [Hid, HAL.out, hlb]; simp
          have HI8 : Hid (KlI w ⟨tn, fs, fa, fc, xs, some ⟨xb, xo, none⟩, xc⟩ ⟨⟨xn, ov, false, l, s⟩, va, vc⟩ bh (.slice (some ⟨gb, 0, none⟩) y.x.ov.length cb) (some ⟨eb, eo, none⟩) els (.slice a6 ls.length c6) ls w8) := HI.out.below HB8.out
          have HLS2 : Hid (ls.map LV.ps = (els.take (k + 1)).filterMap (oneL fs ⟨xn, ov, false, l, s⟩ cs bh)) := by rw [Hid, HSN.out]; exact HLS.out
          clear hlb HAL HSN
          go_wp2
          go_roundw
          case rel => exact ⟨k + 1, a6, c6, ls, false, by omega, by go_num, rfl, rfl, by omega, HLS2, HW2, HI8⟩
          case measure => simp [intOf]; omega
        | false =>
          rw [hlb, if_neg (by simp)] at HSN
          have HW2 : Hid (wh = (decide (0 < nn) && (els.take (k + 1)).all fun e => !lackB fs ⟨xn, ov, false, l, s⟩ cs e)) := by rw [Hid, HAL.out, hlb, HWW.out]; simp
          clear hlb HAL
          have hop1 := HO8.out
          have hsz1 : wr.heap.size ≤ w8.heap.size := HB8.out.size
          have hi8 := HI.out.below HB8.out
          have hbo := hi8.bh
          have hbp : PartsAt w8 (some ⟨gb, 0, none⟩) bh := hbo.parts HBW.out
          go_wp2_with (at_builtin; refine append_from _ rfl (.tmp 48) (.tmp 49) rfl wr.heap.size _ (ownP fs ⟨xn, ov, false, l, s⟩ cs els[k]) rfl gb 0 y.x.ov.length cb bh rfl hbl hbp hop1 (by rw [ownP_len]; show (ov.length + y.x.ov.length) * 32 ≤ _; omega) hsz1 ?_)
          intro vq w9 ho9 hg9 _
          have hlt6 := HI.out.ls.lt
          have hlsr : Lists w9 w.heap.size (.slice a6 ls.length c6) ls := hi8.ls.grew hlt6.1 hlt6.2 HO8.out hg9
          have hql : (ownP fs ⟨xn, ov, false, l, s⟩ cs els[k] ++ bh).length = ov.length + y.x.ov.length := by rw [List.length_append, ownP_len, hbl]
          obtain ⟨aq, cq, hvq⟩ := ho9.shape
          rw [hql] at hvq
          subst hvq
          clear hbo hbp hlt6
          have HRow := hlsr.row
          have hn2 : ls.length ≤ 4194304 := by omega
          have hB9 : w.heap.size ≤ w9.heap.size := Nat.le_trans HI.out.be.size (Nat.le_trans HB8.out.size hg9.size)
          have HG9 : Hid (Grew w8 w9 (.slice (some ⟨g, 0, none⟩) ov.length c) (.slice aq (ov.length + y.x.ov.length) cq)) := hg9
          have HO9 : Hid (OwnP w9 wr.heap.size (.slice aq (ov.length + y.x.ov.length) cq) (ownP fs ⟨xn, ov, false, l, s⟩ cs els[k] ++ bh)) := ho9
          have HHW : Hid ((∀ p ∈ ownP fs ⟨xn, ov, false, l, s⟩ cs els[k] ++ bh, p.wf) ∧ (ownP fs ⟨xn, ov, false, l, s⟩ cs els[k] ++ bh).length ≤ 8) := ⟨fun p hp => by rcases List.mem_append.1 hp with h | h; exact HPW.out p h; exact HBW.out p h, by rw [hql]; omega⟩
          clear hg9 ho9 hop1 hi8 hlsr
          go_wp2_with (at_builtin; go_must (refine append_row _ rfl (.tmp 47) (.tmp 51) _ 94 _ 1 24 Tryz.underlying91 info_plist rfl (by decide) rfl w.heap.size _ ls.length _ rfl [.slice aq (ov.length + y.x.ov.length) cq] rfl (by simp [Value.oneCell']) _ _ rfl rfl rfl HRow hn2 (by omega) hB9 ?_))
          intro v10 w10 hr10 hg10
          have HI10 : Hid (KlI w ⟨tn, fs, fa, fc, xs, some ⟨xb, xo, none⟩, xc⟩ ⟨⟨xn, ov, false, l, s⟩, va, vc⟩ bh (.slice (some ⟨gb, 0, none⟩) y.x.ov.length cb) (some ⟨eb, eo, none⟩) els v10 (ls ++ [⟨ownP fs ⟨xn, ov, false, l, s⟩ cs els[k] ++ bh, aq, cq⟩]) w10) := by
            have hv : (⟨ownP fs ⟨xn, ov, false, l, s⟩ cs els[k] ++ bh, aq, cq⟩ : LV).v = .slice aq (ov.length + y.x.ov.length) cq := by show Value.slice aq _ cq = _; rw [hql]
            exact HI.out.push HB8.out HO8.out HG9.out (by rw [hv]; exact HO9.out) HHW.out (by rw [hv]; exact hr10) hg10
          have HLS2 : Hid ((ls ++ [(⟨ownP fs ⟨xn, ov, false, l, s⟩ cs els[k] ++ bh, aq, cq⟩ : LV)]).map LV.ps = (els.take (k + 1)).filterMap (oneL fs ⟨xn, ov, false, l, s⟩ cs bh)) := by rw [Hid, HSN.out, List.map_append, HLS.out]; rfl
          obtain ⟨a10, c10, rfl, -⟩ := row_forms HI10.out.ls.row
          clear hr10 hg10 HRow
          have hll : (ls ++ [(⟨ownP fs ⟨xn, ov, false, l, s⟩ cs els[k] ++ bh, aq, cq⟩ : LV)]).length = ls.length + 1 := by simp
          generalize ls ++ [(⟨ownP fs ⟨xn, ov, false, l, s⟩ cs els[k] ++ bh, aq, cq⟩ : LV)] = ls2 at *
          go_wp2
          go_roundw
          case rel => exact ⟨k + 1, a10, c10, ls2, wh, by omega, by go_num, rfl, rfl, by omega, HLS2, HW2, HI10⟩
          case measure => simp [intOf]; omega
      · obtain rfl : k = nn := by omega
        rw [← HNN.out, show els.take els.length = els from List.take_length] at HLS HWW
        go_wp2
        go_ret2
        refine ⟨⟨a6, c6, ls, ?_, HI.out.ls, ?_⟩, HI.out.be⟩
        · rw [HW0.out, ← HWW.out]
          rfl
        · rw [HL0.out]; exact HLS.out
end Go.Proofs.YtgjcchafmcccjaaGreatDoor
