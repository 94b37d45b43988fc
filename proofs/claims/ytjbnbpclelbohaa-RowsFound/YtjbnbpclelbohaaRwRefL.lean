/- Layer 7 (rows): the document's lists. -/
import Derived.Test.YtjbnbpclelbohaaRwSame
import Derived.Test.YtjbnbpclelbohaaRwCopyM
namespace Go.Proofs.Ytjbnbpclelbohaa
open Go.RowKit
set_option linter.unusedVariables false
attribute [local go_sem] Oper.semAt_some

theorem noList_of {fs : List Fd} {ov : List Int} (h : listsOf fs ov = 0) : noList fs ov := by
  intro p hp h3
  unfold listsOf at h
  have : 0 < (ov.filter fun p => decide ((fs.getD p.toNat ⟨⟨#[]⟩, 0⟩).k = 3)).length := List.length_pos_of_mem (List.mem_filter.2 ⟨hp, by simpa [noF] using h3⟩)
  omega
theorem info_prt : (Try.prog.info? 57).map (fun i => (i.zero, i.size, i.bytes)) = some (some (.agg #[.int .i64 0, .string ⟨#[]⟩, .int .u64 0]), 3, 32) := by kernel_rfl
/-- While the document's lists are gathered. -/
structure LsI (w : World) (t : TV) (x : XV) (ca : Option Addr) (cc : Nat) (cs : List CV) (v : Value) (ls : List LV) (wr : World) : Prop where
  tab : wr.heap[w.heap.size]? = some (.cells #[.string t.n, t.fv, t.xv] 29)
  bx : wr.heap[w.heap.size + 1]? = some (.cells #[.string x.x.n, .slice x.va x.x.ov.length x.vc, .bool x.x.u, .bool x.x.l, .bool x.x.s] 50)
  rw' : wr.heap[w.heap.size + 2]? = some (.cells #[.slice ca cs.length cc] 24)
  ls : Lists wr w.heap.size v ls
  be : Below w.heap.size w wr
theorem LsI.below {w : World} {t : TV} {x : XV} {ca : Option Addr} {cc : Nat} {cs : List CV} {v : Value} {ls : List LV} {wr w' : World} (h : LsI w t x ca cc cs v ls wr) (hb : Below wr.heap.size wr w') : LsI w t x ca cc cs v ls w' :=
  ⟨(hb.block _ (lt_blk h.tab)).trans h.tab, (hb.block _ (lt_blk h.bx)).trans h.bx, (hb.block _ (lt_blk h.rw')).trans h.rw', h.ls.below hb, h.be.trans (hb.mono h.be.size)⟩
theorem LsI.push {w : World} {t : TV} {x : XV} {ca : Option Addr} {cc : Nat} {cs : List CV} {v v' vp vp' : Value} {ls : List LV} {ps : List Pt} {y : LV} {wr w1 w2 w3 : World} (h : LsI w t x ca cc cs v ls wr) (hb : Below wr.heap.size wr w1)
    (ho : OwnP w1 wr.heap.size vp ps) (hg : Grew w1 w2 vp vp') (hy : OwnP w2 wr.heap.size y.v y.ps) (hw : (∀ p ∈ y.ps, p.wf) ∧ y.ps.length ≤ 8) (hr : w3.ownsRow w.heap.size 51 1 v' (ls.length + 1) (ls.map LV.v ++ [y.v])) (hg2 : Grew w2 w3 v v') :
    LsI w t x ca cc cs v' (ls ++ [y]) w3 := by
  have h1 := h.below hb
  have hlt := h.ls.lt
  have hl2 := h1.ls.grew hlt.1 hlt.2 ho hg
  have k1 : ∀ {b : Nat} {cs : Array Value} {ty : TypeId}, w1.heap[b]? = some (.cells cs ty) → 57 ≠ ty → 51 ≠ ty → w3.heap[b]? = some (.cells cs ty) := fun hc n1 n2 => by
    have a1 := (hg.grown.block _ (lt_blk hc) (fun e => row_ne ho hc n1 e.symm)).trans hc
    exact (hg2.grown.block _ (lt_blk a1) (fun e => row_ne hl2.row a1 n2 e.symm)).trans a1
  have fb : Below wr.heap.size w1 w2 := ho.toBelow hb.size hg
  have hsz : w.heap.size ≤ wr.heap.size := h.be.size
  have fb2 : Below w.heap.size w2 w3 := hg2.toBelow (Nat.le_trans hsz (Nat.le_trans hb.size hg.size)) fun k hk => (World.ownsRow.lt hl2.row k hk).1
  exact ⟨k1 h1.tab (by decide) (by decide), k1 h1.bx (by decide) (by decide), k1 h1.rw' (by decide) (by decide), hl2.push (OwnP.mono hy hsz) hw hr hg2, (h1.be.trans (fb.mono hsz)).trans fb2⟩
theorem oneR_snoc (fs : List Fd) (x : Ix) (cs : List CV) (bh : List Pt) (els : List ByteArray) (k : Nat) (hk : k < els.length) : (els.take (k + 1)).filterMap (oneR fs x cs bh) = (els.take k).filterMap (oneR fs x cs bh) ++ (if lackR fs x cs els[k] && x.s then [] else [ownP fs x cs els[k] ++ bh]) := by
  rw [List.take_succ_eq_append_getElem hk, List.filterMap_append]
  congr 1
  unfold oneR
  simp only [List.filterMap_cons, List.filterMap_nil]
  by_cases h : (lackR fs x cs els[k] && x.s) = true
  · rw [if_pos h, if_pos h]
  · rw [if_neg h, if_neg h]
theorem any_snoc (els : List ByteArray) (f : ByteArray → Bool) (k : Nat) (hk : k < els.length) : (els.take (k + 1)).any f = ((els.take k).any f || f els[k]) := by
  rw [List.take_succ_eq_append_getElem hk, List.any_append]
  simp

set_option maxRecDepth 100000 in
set_option maxHeartbeats 8000000 in
theorem refLists_calls (t : TV) (x : XV) (ca : Option Addr) (cc : Nat) (cs : List CV) (w : World) (hk : KlOk w t x ca cs) (h1 : listsOf t.fs x.x.ov ≤ 1) (hf : ∀ y, t.xs[0]? = some y → listsOf t.fs y.x.ov = 0) :
    Calls Try.prog 39 #[.agg #[.string t.n, t.fv, t.xv], .agg #[.string x.x.n, .slice x.va x.x.ov.length x.vc, .bool x.x.u, .bool x.x.l, .bool x.x.s], .agg #[.slice ca cs.length cc]] w fun e w' => (∃ a c ls, e = .returned (.tuple #[.slice a ls.length c, .bool (missR t.tb x.x cs)]) ∧ Lists w' w.heap.size (.slice a ls.length c) ls ∧ ls.map LV.ps = listsR t.tb x.x cs) ∧ Below w.heap.size w w' := by
  have HK : Hid (KlOk w t x ca cs) := hk
  have H1 : Hid (listsOf t.fs x.x.ov ≤ 1) := h1
  have hom := hk.ok.most
  have hfew := hk.few
  have hid := hk.id
  have hxm := hk.xm
  have hfm := hk.ok.fmost
  obtain ⟨y, hy⟩ : ∃ y, t.xs[0]? = some y := ⟨t.xs[0], List.getElem?_eq_getElem hid⟩
  obtain ⟨hy1, hy2⟩ := hk.ok0 y hy
  have HYN : Hid (noList t.fs y.x.ov) := noList_of (hf y hy)
  have HYO : Hid (OvOk y t.fs cs) := hy1
  have HYA : Hid (CellsAt w y.va (ics y.x.ov)) := hy2
  obtain ⟨xb, xo, hxa, i0, i1, i2, i3, i4⟩ := hk.xs.idx 0 hid
  have hy0 : t.xs[0] = y := by rw [List.getElem?_eq_getElem hid] at hy; exact Option.some.inj hy
  rw [hy0, Nat.zero_mul, Nat.add_zero] at i0 i1 i2 i3 i4
  have HI0 : Hid (w.cell? ⟨xb, xo, none⟩ = some (.string y.x.n) ∧ w.cell? ⟨xb, xo + 1, none⟩ = some (.slice y.va y.x.ov.length y.vc) ∧ w.cell? ⟨xb, xo + 2, none⟩ = some (.bool y.x.u) ∧ w.cell? ⟨xb, xo + 3, none⟩ = some (.bool y.x.l) ∧ w.cell? ⟨xb, xo + 4, none⟩ = some (.bool y.x.s)) := ⟨i0, i1, i2, i3, i4⟩
  have hxbl : xb < w.heap.size := World.block_lt_of_cell? w _ i0
  have HBH : Hid (behindP t.tb x.x cs = if x.x.u then [] else ownP t.fs y.x cs ⟨#[]⟩) := by
    unfold behindP
    rw [Hid, show t.tb.xs.getD 0 ⟨⟨#[]⟩, [], false, false, false⟩ = y.x by
      rw [List.getD_eq_getElem?_getD]
      show ((t.xs.map (·.x))[0]?).getD _ = _
      rw [List.getElem?_map, hy]
      rfl]
    rfl
  have hyo := HYO.out.most
  clear hk hy1 hy2 hy hy0 h1 hf i0 i1 i2 i3 i4
  obtain ⟨tn, fs, fa, fc, xs, xa, xc⟩ := t
  obtain ⟨⟨xn, ov, u, l, s⟩, va, vc⟩ := x
  dsimp only [TV.fv, TV.xv] at *
  subst hxa
  have HOX : Hid (∀ (W : World) (e : Nat) (el : ByteArray), Below w.heap.size w W → el.size ≤ 140737488351232 → (elemsOf fs ov cs)[e]? = some el → Calls Try.prog 56 #[.agg #[.string tn, .slice fa fs.length fc, .slice (some ⟨xb, xo, none⟩) xs.length xc], .agg #[.string xn, .slice va ov.length vc, .bool u, .bool l, .bool s], .agg #[.slice ca cs.length cc], .int .i64 e] W fun e' w' => (∃ a c, e' = .returned (.tuple #[.slice a ov.length c, .bool (lackR fs ⟨xn, ov, u, l, s⟩ cs el)]) ∧ OwnP w' W.heap.size (.slice a ov.length c) (ownP fs ⟨xn, ov, u, l, s⟩ cs el)) ∧ Below W.heap.size W w') := fun W e el hW hes hel => refOwn_calls ⟨tn, fs, fa, fc, xs, some ⟨xb, xo, none⟩, xc⟩ ⟨⟨xn, ov, u, l, s⟩, va, vc⟩ ca cc cs e el W HK.out.ok hes (list_uniq H1.out hel) (HK.out.fs.below hW) (HK.out.ov.below hW) (HK.out.row.below hW)
  have HOY : Hid (∀ W : World, Below w.heap.size w W → Calls Try.prog 56 #[.agg #[.string tn, .slice fa fs.length fc, .slice (some ⟨xb, xo, none⟩) xs.length xc], .agg #[.string y.x.n, .slice y.va y.x.ov.length y.vc, .bool y.x.u, .bool y.x.l, .bool y.x.s], .agg #[.slice ca cs.length cc], .int .i64 0] W fun e' w' => (∃ a c b, e' = .returned (.tuple #[.slice a y.x.ov.length c, .bool b]) ∧ OwnP w' W.heap.size (.slice a y.x.ov.length c) (ownP fs y.x cs ⟨#[]⟩)) ∧ Below W.heap.size W w') := fun W hW => (refOwn_calls ⟨tn, fs, fa, fc, xs, some ⟨xb, xo, none⟩, xc⟩ y ca cc cs 0 ⟨#[]⟩ W HYO.out (by show (0 : Nat) ≤ _; omega) (fun p hp h3 => absurd h3 (HYN.out p hp)) (HK.out.fs.below hW) (HYA.out.below hW) (HK.out.row.below hW)).mono fun e' w' h => ⟨by obtain ⟨a, c, h1, h2⟩ := h.1; exact ⟨a, c, _, h1, h2⟩, h.2⟩
  obtain ⟨w3, hw3⟩ : ∃ w3, w3 = ((w.alloc (.cells #[.string tn, .slice fa fs.length fc, .slice (some ⟨xb, xo, none⟩) xs.length xc] 29)).alloc (.cells #[.string xn, .slice va ov.length vc, .bool u, .bool l, .bool s] 50)).alloc (.cells #[.slice ca cs.length cc] 24) := ⟨_, rfl⟩
  have HI3 : Hid (LsI w ⟨tn, fs, fa, fc, xs, some ⟨xb, xo, none⟩, xc⟩ ⟨⟨xn, ov, u, l, s⟩, va, vc⟩ ca cc cs (.slice none 0 0) [] w3) := by
    have hb3 : Below w.heap.size w w3 := by rw [hw3]; exact (((Below.refl _ _).alloc (Nat.le_refl _) _).alloc (by simp only [World.size_alloc]; omega) _).alloc (by simp only [World.size_alloc]; omega) _
    refine ⟨?_, ?_, ?_, Lists.nil _ _, hb3⟩
    · rw [hw3]; exact old_blk (old_blk (new_blk _ _) _) _
    · rw [hw3]
      refine old_blk ?_ _
      have := new_blk (w.alloc (.cells #[.string tn, .slice fa fs.length fc, .slice (some ⟨xb, xo, none⟩) xs.length xc] 29)) (.cells #[.string xn, .slice va ov.length vc, .bool u, .bool l, .bool s] 50)
      rw [World.size_alloc] at this
      exact this
    · rw [hw3]
      have := new_blk ((w.alloc (.cells #[.string tn, .slice fa fs.length fc, .slice (some ⟨xb, xo, none⟩) xs.length xc] 29)).alloc (.cells #[.string xn, .slice va ov.length vc, .bool u, .bool l, .bool s] 50)) (.cells #[.slice ca cs.length cc] 24)
      rw [World.size_alloc, World.size_alloc] at this
      exact this
  have y1 : w3.cell? ⟨w.heap.size + 1, 1, none⟩ = some (.slice va ov.length vc) := by rw [cell_blk HI3.out.bx]; rfl
  go_enter Try.func39, Try.ntmps39
  go_upto_region 3 with fail
  rw [← hw3]
  clear hw3
  go_wp2
  go_loopw [8, 9, 11, 21] (fun v8 v9 v11 i wr => ∃ (k n : Nat) (m : Bool), k ≤ ov.length ∧ i = .int .i64 k ∧ v8 = .int .i64 n ∧ v9 = .bool m ∧ Hid (wr = w3) ∧ Hid ((n, m) = (ov.take k).foldl (stepR fs cs) (1, false))) (fun _ _ _ i _ => ov.length - (intOf i).toNat)
  case atStart => exact ⟨0, 1, false, Nat.zero_le _, rfl, rfl, rfl, rfl, rfl⟩
  case round =>
    obtain ⟨k, n, m, hk, rfl, rfl, rfl, HW, HF⟩ := hrel
    clear y1
    by_cases hlt : k < ov.length
    · have HI : Hid (LsI w ⟨tn, fs, fa, fc, xs, some ⟨xb, xo, none⟩, xc⟩ ⟨⟨xn, ov, u, l, s⟩, va, vc⟩ ca cc cs (.slice none 0 0) [] wr) := by rw [HW.out]; exact HI3.out
      obtain ⟨ob, oo, rfl, o0⟩ := (HK.out.ov.below HI.out.be).num k hlt
      have hpl := HK.out.ok.place ov[k] (List.getElem_mem hlt)
      obtain ⟨p, hp⟩ : ∃ p : Nat, ov[k] = (p : Int) := ⟨ov[k].toNat, by omega⟩
      have hpf : p < fs.length := by dsimp only at hpl; omega
      have hpc : p < cs.length := by have := HK.out.ok.same; dsimp only at this; omega
      obtain ⟨fb, fo, rfl, f0, f1⟩ := (HK.out.fs.below HI.out.be).fld p hpf
      obtain ⟨cb, co, rfl, d0, d1, d2⟩ := ((HK.out.row.below HI.out.be).row).cel p hpc
      have hkk := HK.out.ok.kind fs[p] (List.getElem_mem hpf)
      have hll := (HK.out.row.wf _ (List.getElem_mem hpc)).2.2.2
      have HS : Hid ((ov.take (k + 1)).foldl (stepR fs cs) (1, false) = if fs[p].k = 3 then (cs[p].l.length, decide (cs[p].l.length = 0)) else (n, m || (decide (fs[p].k = 1) && cs[p].t.toList.isEmpty))) := by
        rw [Hid, List.take_succ_eq_append_getElem hlt, List.foldl_append, ← HF.out, hp]
        show stepR fs cs (n, m) (p : Int) = _
        unfold stepR textE
        rw [show ((p : Int).toNat) = p from rfl, List.getD_eq_getElem?_getD, List.getElem?_eq_getElem hpf, List.getD_eq_getElem?_getD, List.getElem?_eq_getElem hpc]
        rfl
      rw [hp] at o0
      clear hpl hp HF
      have t1 : wr.cell? ⟨w.heap.size, 1, none⟩ = some (.slice (some ⟨fb, fo, none⟩) fs.length fc) := by rw [cell_blk HI.out.tab]; rfl
      have r0 : wr.cell? ⟨w.heap.size + 2, 0, none⟩ = some (.slice (some ⟨cb, co, none⟩) cs.length cc) := by rw [cell_blk HI.out.rw']; rfl
      have hem : (cs[p].t.toList == []) = cs[p].t.toList.isEmpty := by cases cs[p].t.toList <;> rfl
      have hzb := zero_beq cs[p].l.length
      generalize cs[p].l.length = ll at *
      generalize fs[p].k = kk at *
      have hk3 : kk = 1 ∨ kk = 2 ∨ kk = 3 := by omega
      clear hkk
      rcases hk3 with rfl | rfl | rfl
      · rw [if_neg (by decide)] at HS
        cases hb : cs[p].t.toList.isEmpty with
        | true =>
          rw [hb] at hem
          have HS2 : Hid ((n, true) = (ov.take (k + 1)).foldl (stepR fs cs) (1, false)) := by rw [Hid, HS.out, hb]; simp
          clear HS hb hzb
          go_wp2
          go_roundw
          case rel => exact ⟨k + 1, n, true, by omega, by go_num, rfl, rfl, HW, HS2⟩
          case measure => simp [intOf]; omega
        | false =>
          rw [hb] at hem
          have HS2 : Hid ((n, m) = (ov.take (k + 1)).foldl (stepR fs cs) (1, false)) := by rw [Hid, HS.out, hb]; simp
          clear HS hb hzb
          go_wp2
          go_roundw
          case rel => exact ⟨k + 1, n, m, by omega, by go_num, rfl, rfl, HW, HS2⟩
          case measure => simp [intOf]; omega
      · rw [if_neg (by decide)] at HS
        have HS2 : Hid ((n, m) = (ov.take (k + 1)).foldl (stepR fs cs) (1, false)) := by rw [Hid, HS.out]; simp
        clear HS hem hzb
        go_wp2
        go_roundw
        case rel => exact ⟨k + 1, n, m, by omega, by go_num, rfl, rfl, HW, HS2⟩
        case measure => simp [intOf]; omega
      · rw [if_pos rfl] at HS
        clear hem
        cases hz : decide (ll = 0) with
        | true =>
          rw [hz] at hzb
          have HS2 : Hid ((ll, true) = (ov.take (k + 1)).foldl (stepR fs cs) (1, false)) := by rw [Hid, HS.out, hz]
          clear HS hz
          go_wp2
          go_roundw
          case rel => exact ⟨k + 1, ll, true, by omega, by go_num, rfl, rfl, HW, HS2⟩
          case measure => simp [intOf]; omega
        | false =>
          rw [hz] at hzb
          have HS2 : Hid ((ll, false) = (ov.take (k + 1)).foldl (stepR fs cs) (1, false)) := by rw [Hid, HS.out, hz]
          clear HS hz
          go_wp2
          go_roundw
          case rel => exact ⟨k + 1, ll, false, by omega, by go_num, rfl, rfl, HW, HS2⟩
          case measure => simp [intOf]; omega
    · obtain rfl : k = ov.length := by omega
      rw [List.take_length] at HF
      obtain ⟨els, hels⟩ : ∃ els, els = elemsOf fs ov cs := ⟨_, rfl⟩
      have HN : Hid (n = els.length) := by
        have := fold_len (cs := cs) H1.out
        rw [← HF.out] at this
        rw [Hid, hels]; exact this
      have HM : Hid (missR (TV.mk tn fs fa fc xs (some ⟨xb, xo, none⟩) xc).tb ⟨xn, ov, u, l, s⟩ cs = (m || els.any (lackR fs ⟨xn, ov, u, l, s⟩ cs))) := by
        unfold missR
        rw [Hid, hels]
        show ((ov.foldl (stepR fs cs) (1, false)).2 || _) = _
        rw [← HF.out]
        rfl
      have HLR : Hid (∀ bh, behindP (TV.mk tn fs fa fc xs (some ⟨xb, xo, none⟩) xc).tb ⟨xn, ov, u, l, s⟩ cs = bh → listsR (TV.mk tn fs fa fc xs (some ⟨xb, xo, none⟩) xc).tb ⟨xn, ov, u, l, s⟩ cs = els.filterMap (oneR fs ⟨xn, ov, u, l, s⟩ cs bh)) := fun bh hbh => by rw [hels, ← hbh]; rfl
      have HEW : Hid (∀ e ∈ els, e.size ≤ 140737488351232) := by rw [hels]; exact elems_wf HK.out.row.wf
      have HI : Hid (LsI w ⟨tn, fs, fa, fc, xs, some ⟨xb, xo, none⟩, xc⟩ ⟨⟨xn, ov, u, l, s⟩, va, vc⟩ ca cc cs (.slice none 0 0) [] wr) := by rw [HW.out]; exact HI3.out
      rw [← hels] at hfew HOX
      have hn32 : n ≤ 32 := by rw [HN.out]; exact hfew
      obtain ⟨bh, hbh⟩ : ∃ bh, bh = behindP (TV.mk tn fs fa fc xs (some ⟨xb, xo, none⟩) xc).tb ⟨xn, ov, u, l, s⟩ cs := ⟨_, rfl⟩
      have HBQ : Hid (bh = if u then [] else ownP fs y.x cs ⟨#[]⟩) := by rw [Hid, hbh]; exact HBH.out
      have HLQ := HLR.out bh hbh.symm
      have HLQ : Hid (listsR (TV.mk tn fs fa fc xs (some ⟨xb, xo, none⟩) xc).tb ⟨xn, ov, u, l, s⟩ cs = els.filterMap (oneR fs ⟨xn, ov, u, l, s⟩ cs bh)) := HLQ
      have HYW : Hid (∀ q ∈ ownP fs y.x cs ⟨#[]⟩, q.wf) := ownP_wf HYO.out HK.out.row.wf (by show (0 : Nat) ≤ _; omega)
      have HXW : Hid (∀ e ∈ els, ∀ q ∈ ownP fs ⟨xn, ov, u, l, s⟩ cs e, q.wf) := fun e he => ownP_wf (x := ⟨⟨xn, ov, u, l, s⟩, va, vc⟩) HK.out.ok HK.out.row.wf (HEW.out e he)
      have HI4 : Hid (LsI w ⟨tn, fs, fa, fc, xs, some ⟨xb, xo, none⟩, xc⟩ ⟨⟨xn, ov, u, l, s⟩, va, vc⟩ ca cc cs (.slice (some ⟨wr.heap.size, 0, none⟩) 0 0) [] (wr.alloc (.cells #[] 51))) := by
        have h := HI.out.below ((Below.refl _ _).alloc (Nat.le_refl _) (.cells #[] 51))
        exact ⟨h.tab, h.bx, h.rw', ⟨World.ownsRow_lit (size := 1) wr #[] 0 HI.out.be.size (by unfold maxLen; omega) rfl, fun x hx => by simp at hx, fun x hx => by simp at hx⟩, h.be⟩
      clear hels hfew hbh HLR HF HBH HI3 HW HI hlt hk HYN HYA
      go_wp2
      go_loopw [9, 12, 13, 14, 15, 16, 17] (fun v9 v12 i v14 v15 v16 v17 wr => ∃ (k : Nat) (a : Option Addr) (c : Nat) (ls : List LV) (mi : Bool), k ≤ n ∧ i = .int .i64 k ∧ v12 = .slice a ls.length c ∧ v9 = .bool mi ∧ ls.length ≤ k ∧ Hid (mi = (m || (els.take k).any (lackR fs ⟨xn, ov, u, l, s⟩ cs))) ∧ Hid (ls.map LV.ps = (els.take k).filterMap (oneR fs ⟨xn, ov, u, l, s⟩ cs bh)) ∧ Hid (LsI w ⟨tn, fs, fa, fc, xs, some ⟨xb, xo, none⟩, xc⟩ ⟨⟨xn, ov, u, l, s⟩, va, vc⟩ ca cc cs (.slice a ls.length c) ls wr)) (fun _ _ i _ _ _ _ _ => n - (intOf i).toNat)
      case atStart => exact ⟨0, _, _, [], m, Nat.zero_le _, rfl, rfl, rfl, Nat.le_refl _, by simp [Hid], rfl, HI4⟩
      case round =>
        obtain ⟨k, a, c, ls, mi, hk, rfl, rfl, rfl, hlk, HMI, HLS, HI⟩ := hrel
        clear HI4
        by_cases hlt : k < n
        · have hlt' : k < els.length := by rw [← HN.out]; exact hlt
          have t0 : wr.cell? ⟨w.heap.size, 0, none⟩ = some (.string tn) := by rw [cell_blk HI.out.tab]; rfl
          have t1 : wr.cell? ⟨w.heap.size, 1, none⟩ = some (.slice fa fs.length fc) := by rw [cell_blk HI.out.tab]; rfl
          have t2 : wr.cell? ⟨w.heap.size, 2, none⟩ = some (.slice (some ⟨xb, xo, none⟩) xs.length xc) := by rw [cell_blk HI.out.tab]; rfl
          have x0 : wr.cell? ⟨w.heap.size + 1, 0, none⟩ = some (.string xn) := by rw [cell_blk HI.out.bx]; rfl
          have x1 : wr.cell? ⟨w.heap.size + 1, 1, none⟩ = some (.slice va ov.length vc) := by rw [cell_blk HI.out.bx]; rfl
          have x2 : wr.cell? ⟨w.heap.size + 1, 2, none⟩ = some (.bool u) := by rw [cell_blk HI.out.bx]; rfl
          have x3 : wr.cell? ⟨w.heap.size + 1, 3, none⟩ = some (.bool l) := by rw [cell_blk HI.out.bx]; rfl
          have x4 : wr.cell? ⟨w.heap.size + 1, 4, none⟩ = some (.bool s) := by rw [cell_blk HI.out.bx]; rfl
          have r0 : wr.cell? ⟨w.heap.size + 2, 0, none⟩ = some (.slice ca cs.length cc) := by rw [cell_blk HI.out.rw']; rfl
          have HPW : Hid (∀ q ∈ ownP fs ⟨xn, ov, u, l, s⟩ cs els[k], q.wf) := HXW.out _ (List.getElem_mem hlt')
          have HOC := HOX.out wr k els[k] HI.out.be (HEW.out _ (List.getElem_mem hlt')) (List.getElem?_eq_getElem hlt')
          have HOC : Hid (Calls Try.prog 56 #[.agg #[.string tn, .slice fa fs.length fc, .slice (some ⟨xb, xo, none⟩) xs.length xc], .agg #[.string xn, .slice va ov.length vc, .bool u, .bool l, .bool s], .agg #[.slice ca cs.length cc], .int .i64 k] wr fun e' w' => (∃ a c, e' = .returned (.tuple #[.slice a ov.length c, .bool (lackR fs ⟨xn, ov, u, l, s⟩ cs els[k])]) ∧ OwnP w' wr.heap.size (.slice a ov.length c) (ownP fs ⟨xn, ov, u, l, s⟩ cs els[k])) ∧ Below wr.heap.size wr w') := HOC
          have HSN : Hid ((els.take (k + 1)).filterMap (oneR fs ⟨xn, ov, u, l, s⟩ cs bh) = (els.take k).filterMap (oneR fs ⟨xn, ov, u, l, s⟩ cs bh) ++ (if lackR fs ⟨xn, ov, u, l, s⟩ cs els[k] && s then [] else [ownP fs ⟨xn, ov, u, l, s⟩ cs els[k] ++ bh])) := oneR_snoc fs ⟨xn, ov, u, l, s⟩ cs bh els k hlt'
          have HAS : Hid ((els.take (k + 1)).any (lackR fs ⟨xn, ov, u, l, s⟩ cs) = ((els.take k).any (lackR fs ⟨xn, ov, u, l, s⟩ cs) || lackR fs ⟨xn, ov, u, l, s⟩ cs els[k])) := any_snoc els _ k hlt'
          have hpl : (ownP fs ⟨xn, ov, u, l, s⟩ cs els[k]).length = ov.length := ownP_len _ _ _ _
          generalize hPE : ownP fs ⟨xn, ov, u, l, s⟩ cs els[k] = P at *
          generalize hLE : lackR fs ⟨xn, ov, u, l, s⟩ cs els[k] = L at *
          go_wp2_with fail
          refine HOC.out.mono ?_
          clear HOC hPE hLE
          rintro e7 w7 ⟨⟨a7, c7, rfl, ho7⟩, hb7⟩
          have HO7 : Hid (OwnP w7 wr.heap.size (.slice a7 ov.length c7) P) := ho7
          have HB7 : Hid (Below wr.heap.size wr w7) := hb7
          have HI7 : Hid (LsI w ⟨tn, fs, fa, fc, xs, some ⟨xb, xo, none⟩, xc⟩ ⟨⟨xn, ov, u, l, s⟩, va, vc⟩ ca cc cs (.slice a ls.length c) ls w7) := HI.out.below hb7
          clear ho7 hb7 t0 t1 t2 x0 x1 x2 x3 x4 r0
          have x2 : w7.cell? ⟨w.heap.size + 1, 2, none⟩ = some (.bool u) := by rw [cell_blk HI7.out.bx]; rfl
          have x4 : w7.cell? ⟨w.heap.size + 1, 4, none⟩ = some (.bool s) := by rw [cell_blk HI7.out.bx]; rfl
          cases L with
          | true =>
            have HMI2 : Hid (true = (m || (els.take (k + 1)).any (lackR fs ⟨xn, ov, u, l, s⟩ cs))) := by rw [Hid, HAS.out]; simp
            cases s with
            | true =>
              rw [if_pos (by decide), List.append_nil] at HSN
              have HLS2 : Hid (ls.map LV.ps = (els.take (k + 1)).filterMap (oneR fs ⟨xn, ov, u, l, true⟩ cs bh)) := by rw [Hid, HSN.out]; exact HLS.out
              go_wp2
              go_roundw
              case rel => exact ⟨k + 1, a, c, ls, true, by omega, by go_num, rfl, rfl, by omega, HMI2, HLS2, HI7⟩
              case measure => simp [intOf]; omega
            | false =>
              rw [if_neg (by simp)] at HSN
              cases u with
              | true =>
                rw [if_pos rfl] at HBQ
                have hbn := HBQ.out
                subst hbn
                rw [List.append_nil] at HSN
                have HRow := HI7.out.ls.row
                have hB7 : w.heap.size ≤ w7.heap.size := HI7.out.be.size
                go_wp2_with (at_builtin; (refine append_row _ rfl (.tmp 91) (.tmp 93) _ 51 _ 1 24 Try.underlying87 info_plist rfl (by decide) rfl w.heap.size _ ls.length _ rfl [.slice a7 ov.length c7] rfl (by simp [Value.oneCell']) _ _ rfl rfl rfl HRow (by omega) (by omega) hB7 ?_))
                intro v8 w8 hr8 hg8
                have hv : (⟨P, a7, c7⟩ : LV).v = .slice a7 ov.length c7 := by show Value.slice a7 P.length c7 = _; rw [hpl]
                have HI8 : Hid (LsI w ⟨tn, fs, fa, fc, xs, some ⟨xb, xo, none⟩, xc⟩ ⟨⟨xn, ov, true, l, false⟩, va, vc⟩ ca cc cs v8 (ls ++ [⟨P, a7, c7⟩]) w8) := HI.out.push HB7.out HO7.out (Grew.refl _ _) (by rw [hv]; exact HO7.out) ⟨HPW.out, by show P.length ≤ 8; omega⟩ (by rw [hv]; exact hr8) hg8
                have HLS2 : Hid ((ls ++ [(⟨P, a7, c7⟩ : LV)]).map LV.ps = (els.take (k + 1)).filterMap (oneR fs ⟨xn, ov, true, l, false⟩ cs [])) := by rw [Hid, List.map_append, HLS.out]; exact HSN.out.symm
                obtain ⟨a8, c8, rfl, -⟩ := row_forms HI8.out.ls.row
                have hll : (ls ++ [(⟨P, a7, c7⟩ : LV)]).length = ls.length + 1 := by simp
                clear hr8 hg8 HRow
                generalize ls ++ [(⟨P, a7, c7⟩ : LV)] = ls2 at *
                go_wp2
                go_roundw
                case rel => exact ⟨k + 1, a8, c8, ls2, true, by omega, by go_num, rfl, rfl, by omega, HMI2, HLS2, HI8⟩
                case measure => simp [intOf]; omega
              | false =>
                rw [if_neg (by simp)] at HBQ
                have HYC := HOY.out w7.drew ⟨HI7.out.be.os, HI7.out.be.tape, HI7.out.be.output, HI7.out.be.size, HI7.out.be.block⟩
                have HYC : Hid (Calls Try.prog 56 #[.agg #[.string tn, .slice fa fs.length fc, .slice (some ⟨xb, xo, none⟩) xs.length xc], .agg #[.string y.x.n, .slice y.va y.x.ov.length y.vc, .bool y.x.u, .bool y.x.l, .bool y.x.s], .agg #[.slice ca cs.length cc], .int .i64 0] w7.drew fun e' w' => (∃ a c b, e' = .returned (.tuple #[.slice a y.x.ov.length c, .bool b]) ∧ OwnP w' w7.drew.heap.size (.slice a y.x.ov.length c) (ownP fs y.x cs ⟨#[]⟩)) ∧ Below w7.drew.heap.size w7.drew w') := HYC
                have t0 : w7.cell? ⟨w.heap.size, 0, none⟩ = some (.string tn) := by rw [cell_blk HI7.out.tab]; rfl
                have t1 : w7.cell? ⟨w.heap.size, 1, none⟩ = some (.slice fa fs.length fc) := by rw [cell_blk HI7.out.tab]; rfl
                have t2 : w7.cell? ⟨w.heap.size, 2, none⟩ = some (.slice (some ⟨xb, xo, none⟩) xs.length xc) := by rw [cell_blk HI7.out.tab]; rfl
                have r0 : w7.cell? ⟨w.heap.size + 2, 0, none⟩ = some (.slice ca cs.length cc) := by rw [cell_blk HI7.out.rw']; rfl
                have i0 : w7.cell? ⟨xb, xo, none⟩ = some (.string y.x.n) := by rw [HI7.out.be.cell (by exact hxbl)]; exact HI0.out.1
                have i1 : w7.cell? ⟨xb, xo + 1, none⟩ = some (.slice y.va y.x.ov.length y.vc) := by rw [HI7.out.be.cell (by exact hxbl)]; exact HI0.out.2.1
                have i2 : w7.cell? ⟨xb, xo + 2, none⟩ = some (.bool y.x.u) := by rw [HI7.out.be.cell (by exact hxbl)]; exact HI0.out.2.2.1
                have i3 : w7.cell? ⟨xb, xo + 3, none⟩ = some (.bool y.x.l) := by rw [HI7.out.be.cell (by exact hxbl)]; exact HI0.out.2.2.2.1
                have i4 : w7.cell? ⟨xb, xo + 4, none⟩ = some (.bool y.x.s) := by rw [HI7.out.be.cell (by exact hxbl)]; exact HI0.out.2.2.2.2
                have hi1 : (0 : Int) < (xs.length : Int) := by omega
                have hwl : w.heap.size < w7.heap.size := lt_blk HI7.out.tab
                have hrl : w.heap.size + 2 < w7.heap.size := lt_blk HI7.out.rw'
                have hxl : xb < w7.heap.size := by omega
                go_upto_region 21 with fail
                go_region_held3 (fun W => W.cell? ⟨w.heap.size, 0, none⟩ = some (.string tn) ∧ W.cell? ⟨w.heap.size, 1, none⟩ = some (.slice fa fs.length fc) ∧ W.cell? ⟨w.heap.size, 2, none⟩ = some (.slice (some ⟨xb, xo, none⟩) xs.length xc) ∧ W.cell? ⟨w.heap.size + 2, 0, none⟩ = some (.slice ca cs.length cc) ∧ W.cell? ⟨xb, xo, none⟩ = some (.string y.x.n) ∧ W.cell? ⟨xb, xo + 1, none⟩ = some (.slice y.va y.x.ov.length y.vc) ∧ W.cell? ⟨xb, xo + 2, none⟩ = some (.bool y.x.u) ∧ W.cell? ⟨xb, xo + 3, none⟩ = some (.bool y.x.l) ∧ W.cell? ⟨xb, xo + 4, none⟩ = some (.bool y.x.s)) (first | (exact q3) | go_keep)
                  (first
                    | (go_at_call 56
                       refine HYC.out.mono ?_
                       rintro e w8 ⟨⟨a8, c8, b8, rfl, ho8⟩, hb8⟩
                       have HB78 : Hid (Below w7.heap.size w7 w8) := ⟨hb8.os, hb8.tape, hb8.output, hb8.size, hb8.block⟩
                       have HO8 : Hid (OwnP w8 w7.heap.size (.slice a8 y.x.ov.length c8) (ownP fs y.x cs ⟨#[]⟩)) := ho8
                       have q3 : w8.cell? ⟨w.heap.size, 0, none⟩ = some (.string tn) ∧ w8.cell? ⟨w.heap.size, 1, none⟩ = some (.slice fa fs.length fc) ∧ w8.cell? ⟨w.heap.size, 2, none⟩ = some (.slice (some ⟨xb, xo, none⟩) xs.length xc) ∧ w8.cell? ⟨w.heap.size + 2, 0, none⟩ = some (.slice ca cs.length cc) ∧ w8.cell? ⟨xb, xo, none⟩ = some (.string y.x.n) ∧ w8.cell? ⟨xb, xo + 1, none⟩ = some (.slice y.va y.x.ov.length y.vc) ∧ w8.cell? ⟨xb, xo + 2, none⟩ = some (.bool y.x.u) ∧ w8.cell? ⟨xb, xo + 3, none⟩ = some (.bool y.x.l) ∧ w8.cell? ⟨xb, xo + 4, none⟩ = some (.bool y.x.s) :=
                         ⟨by rw [HB78.out.cell (by exact hwl)]; exact t0, by rw [HB78.out.cell (by exact hwl)]; exact t1, by rw [HB78.out.cell (by exact hwl)]; exact t2, by rw [HB78.out.cell (by exact hrl)]; exact r0, by rw [HB78.out.cell (by exact hxl)]; exact i0, by rw [HB78.out.cell (by exact hxl)]; exact i1, by rw [HB78.out.cell (by exact hxl)]; exact i2, by rw [HB78.out.cell (by exact hxl)]; exact i3, by rw [HB78.out.cell (by exact hxl)]; exact i4⟩
                       clear hb8 ho8))
                clear q3 t0 t1 t2 r0 i0 i1 i2 i3 i4 HYC
                have HB8 : Hid (Below wr.heap.size wr w8) := HB7.out.trans (HB78.out.mono HB7.out.size)
                have HO78 : Hid (OwnP w8 wr.heap.size (.slice a7 ov.length c7) P) := HO7.out.below HB78.out
                have hown8 : w8.ownsRow wr.heap.size 57 3 (.slice a7 ov.length c7) ov.length (pcs P) := by have := HO78.out; unfold OwnP at this; rw [hpl] at this; exact this
                have hyl : (ownP fs y.x cs ⟨#[]⟩).length = y.x.ov.length := ownP_len _ _ _ _
                have HSC : Hid (CellsAt w8 a8 (pcs (ownP fs y.x cs ⟨#[]⟩))) := by have h8 := HO8.out; unfold OwnP at h8; rw [hyl] at h8; exact row_cells h8
                have hB8 : wr.heap.size ≤ w8.heap.size := HB8.out.size
                rw [← HBQ.out] at HSC hyl
                go_wp2_with (at_builtin; refine append_src _ rfl (.tmp 88) (.tmp 89) 51 57 _ 3 32 Try.underlying51 info_prt rfl (by decide) rfl wr.heap.size _ ov.length _ rfl hown8 a8 y.x.ov.length c8 (pcs bh) rfl (by rw [pcs_length, hyl]) HSC.out (pcs_one _) (by unfold maxLen; omega) (by omega) hB8 ?_)
                intro v9 w9 hr9 hg9
                have HPB : Hid ((P ++ bh).length = ov.length + y.x.ov.length) := by rw [Hid, List.length_append, hpl, hyl]
                have HO9 : Hid (OwnP w9 wr.heap.size v9 (P ++ bh)) := by unfold OwnP; rw [Hid, HPB.out, pcs_append]; exact hr9
                have HG9 : Hid (Grew w8 w9 (.slice a7 ov.length c7) v9) := hg9
                have HL9 : Hid (Lists w9 w.heap.size (.slice a ls.length c) ls) := (HI.out.below HB8.out).ls.grew HI.out.ls.lt.1 HI.out.ls.lt.2 HO78.out hg9
                obtain ⟨a9, c9, rfl, -⟩ := row_forms hr9
                clear hr9 hg9 HSC hown8
                have HRow := HL9.out.row
                have hB9 : w.heap.size ≤ w9.heap.size := Nat.le_trans HI.out.be.size (Nat.le_trans HB8.out.size HG9.out.size)
                have HWP : Hid (∀ p ∈ P ++ bh, p.wf) := fun p hp => by
                  rcases List.mem_append.1 hp with h | h
                  · exact HPW.out p h
                  · rw [HBQ.out] at h; exact HYW.out p h
                go_wp2_with (at_builtin; (refine append_row _ rfl (.tmp 91) (.tmp 93) _ 51 _ 1 24 Try.underlying87 info_plist rfl (by decide) rfl w.heap.size _ ls.length _ rfl [.slice a9 (ov.length + y.x.ov.length) c9] rfl (by simp [Value.oneCell']) _ _ rfl rfl rfl HRow (by omega) (by omega) hB9 ?_))
                intro v10 w10 hr10 hg10
                have hv : (⟨P ++ bh, a9, c9⟩ : LV).v = .slice a9 (ov.length + y.x.ov.length) c9 := by show Value.slice a9 (P ++ bh).length c9 = _; rw [HPB.out]
                have HI10 : Hid (LsI w ⟨tn, fs, fa, fc, xs, some ⟨xb, xo, none⟩, xc⟩ ⟨⟨xn, ov, false, l, false⟩, va, vc⟩ ca cc cs v10 (ls ++ [⟨P ++ bh, a9, c9⟩]) w10) := HI.out.push HB8.out HO78.out HG9.out (by rw [hv]; exact HO9.out) ⟨HWP.out, by show (P ++ bh).length ≤ 8; rw [HPB.out]; omega⟩ (by rw [hv]; exact hr10) hg10
                have HLS2 : Hid ((ls ++ [(⟨P ++ bh, a9, c9⟩ : LV)]).map LV.ps = (els.take (k + 1)).filterMap (oneR fs ⟨xn, ov, false, l, false⟩ cs bh)) := by rw [Hid, List.map_append, HLS.out]; exact HSN.out.symm
                obtain ⟨a10, c10, rfl, -⟩ := row_forms HI10.out.ls.row
                have hll : (ls ++ [(⟨P ++ bh, a9, c9⟩ : LV)]).length = ls.length + 1 := by simp
                clear hr10 hg10 HRow
                generalize ls ++ [(⟨P ++ bh, a9, c9⟩ : LV)] = ls2 at *
                go_wp2
                go_roundw
                case rel => exact ⟨k + 1, a10, c10, ls2, true, by omega, by go_num, rfl, rfl, by omega, HMI2, HLS2, HI10⟩
                case measure => simp [intOf]; omega
          | false =>
            have HMI2 : Hid (mi = (m || (els.take (k + 1)).any (lackR fs ⟨xn, ov, u, l, s⟩ cs))) := by rw [Hid, HAS.out, HMI.out]; simp
            rw [if_neg (by simp)] at HSN
            cases u with
            | true =>
              rw [if_pos rfl] at HBQ
              have hbn := HBQ.out
              subst hbn
              rw [List.append_nil] at HSN
              have HRow := HI7.out.ls.row
              have hB7 : w.heap.size ≤ w7.heap.size := HI7.out.be.size
              go_wp2_with (at_builtin; (refine append_row _ rfl (.tmp 91) (.tmp 93) _ 51 _ 1 24 Try.underlying87 info_plist rfl (by decide) rfl w.heap.size _ ls.length _ rfl [.slice a7 ov.length c7] rfl (by simp [Value.oneCell']) _ _ rfl rfl rfl HRow (by omega) (by omega) hB7 ?_))
              intro v8 w8 hr8 hg8
              have hv : (⟨P, a7, c7⟩ : LV).v = .slice a7 ov.length c7 := by show Value.slice a7 P.length c7 = _; rw [hpl]
              have HI8 : Hid (LsI w ⟨tn, fs, fa, fc, xs, some ⟨xb, xo, none⟩, xc⟩ ⟨⟨xn, ov, true, l, s⟩, va, vc⟩ ca cc cs v8 (ls ++ [⟨P, a7, c7⟩]) w8) := HI.out.push HB7.out HO7.out (Grew.refl _ _) (by rw [hv]; exact HO7.out) ⟨HPW.out, by show P.length ≤ 8; omega⟩ (by rw [hv]; exact hr8) hg8
              have HLS2 : Hid ((ls ++ [(⟨P, a7, c7⟩ : LV)]).map LV.ps = (els.take (k + 1)).filterMap (oneR fs ⟨xn, ov, true, l, s⟩ cs [])) := by rw [Hid, List.map_append, HLS.out]; exact HSN.out.symm
              obtain ⟨a8, c8, rfl, -⟩ := row_forms HI8.out.ls.row
              have hll : (ls ++ [(⟨P, a7, c7⟩ : LV)]).length = ls.length + 1 := by simp
              clear hr8 hg8 HRow
              generalize ls ++ [(⟨P, a7, c7⟩ : LV)] = ls2 at *
              go_wp2
              go_roundw
              case rel => exact ⟨k + 1, a8, c8, ls2, mi, by omega, by go_num, rfl, rfl, by omega, HMI2, HLS2, HI8⟩
              case measure => simp [intOf]; omega
            | false =>
              rw [if_neg (by simp)] at HBQ
              have HYC := HOY.out w7.drew ⟨HI7.out.be.os, HI7.out.be.tape, HI7.out.be.output, HI7.out.be.size, HI7.out.be.block⟩
              have HYC : Hid (Calls Try.prog 56 #[.agg #[.string tn, .slice fa fs.length fc, .slice (some ⟨xb, xo, none⟩) xs.length xc], .agg #[.string y.x.n, .slice y.va y.x.ov.length y.vc, .bool y.x.u, .bool y.x.l, .bool y.x.s], .agg #[.slice ca cs.length cc], .int .i64 0] w7.drew fun e' w' => (∃ a c b, e' = .returned (.tuple #[.slice a y.x.ov.length c, .bool b]) ∧ OwnP w' w7.drew.heap.size (.slice a y.x.ov.length c) (ownP fs y.x cs ⟨#[]⟩)) ∧ Below w7.drew.heap.size w7.drew w') := HYC
              have t0 : w7.cell? ⟨w.heap.size, 0, none⟩ = some (.string tn) := by rw [cell_blk HI7.out.tab]; rfl
              have t1 : w7.cell? ⟨w.heap.size, 1, none⟩ = some (.slice fa fs.length fc) := by rw [cell_blk HI7.out.tab]; rfl
              have t2 : w7.cell? ⟨w.heap.size, 2, none⟩ = some (.slice (some ⟨xb, xo, none⟩) xs.length xc) := by rw [cell_blk HI7.out.tab]; rfl
              have r0 : w7.cell? ⟨w.heap.size + 2, 0, none⟩ = some (.slice ca cs.length cc) := by rw [cell_blk HI7.out.rw']; rfl
              have i0 : w7.cell? ⟨xb, xo, none⟩ = some (.string y.x.n) := by rw [HI7.out.be.cell (by exact hxbl)]; exact HI0.out.1
              have i1 : w7.cell? ⟨xb, xo + 1, none⟩ = some (.slice y.va y.x.ov.length y.vc) := by rw [HI7.out.be.cell (by exact hxbl)]; exact HI0.out.2.1
              have i2 : w7.cell? ⟨xb, xo + 2, none⟩ = some (.bool y.x.u) := by rw [HI7.out.be.cell (by exact hxbl)]; exact HI0.out.2.2.1
              have i3 : w7.cell? ⟨xb, xo + 3, none⟩ = some (.bool y.x.l) := by rw [HI7.out.be.cell (by exact hxbl)]; exact HI0.out.2.2.2.1
              have i4 : w7.cell? ⟨xb, xo + 4, none⟩ = some (.bool y.x.s) := by rw [HI7.out.be.cell (by exact hxbl)]; exact HI0.out.2.2.2.2
              have hi1 : (0 : Int) < (xs.length : Int) := by omega
              have hwl : w.heap.size < w7.heap.size := lt_blk HI7.out.tab
              have hrl : w.heap.size + 2 < w7.heap.size := lt_blk HI7.out.rw'
              have hxl : xb < w7.heap.size := by omega
              go_upto_region 21 with fail
              go_region_held3 (fun W => W.cell? ⟨w.heap.size, 0, none⟩ = some (.string tn) ∧ W.cell? ⟨w.heap.size, 1, none⟩ = some (.slice fa fs.length fc) ∧ W.cell? ⟨w.heap.size, 2, none⟩ = some (.slice (some ⟨xb, xo, none⟩) xs.length xc) ∧ W.cell? ⟨w.heap.size + 2, 0, none⟩ = some (.slice ca cs.length cc) ∧ W.cell? ⟨xb, xo, none⟩ = some (.string y.x.n) ∧ W.cell? ⟨xb, xo + 1, none⟩ = some (.slice y.va y.x.ov.length y.vc) ∧ W.cell? ⟨xb, xo + 2, none⟩ = some (.bool y.x.u) ∧ W.cell? ⟨xb, xo + 3, none⟩ = some (.bool y.x.l) ∧ W.cell? ⟨xb, xo + 4, none⟩ = some (.bool y.x.s)) (first | (exact q3) | go_keep)
                (first
                  | (go_at_call 56
                     refine HYC.out.mono ?_
                     rintro e w8 ⟨⟨a8, c8, b8, rfl, ho8⟩, hb8⟩
                     have HB78 : Hid (Below w7.heap.size w7 w8) := ⟨hb8.os, hb8.tape, hb8.output, hb8.size, hb8.block⟩
                     have HO8 : Hid (OwnP w8 w7.heap.size (.slice a8 y.x.ov.length c8) (ownP fs y.x cs ⟨#[]⟩)) := ho8
                     have q3 : w8.cell? ⟨w.heap.size, 0, none⟩ = some (.string tn) ∧ w8.cell? ⟨w.heap.size, 1, none⟩ = some (.slice fa fs.length fc) ∧ w8.cell? ⟨w.heap.size, 2, none⟩ = some (.slice (some ⟨xb, xo, none⟩) xs.length xc) ∧ w8.cell? ⟨w.heap.size + 2, 0, none⟩ = some (.slice ca cs.length cc) ∧ w8.cell? ⟨xb, xo, none⟩ = some (.string y.x.n) ∧ w8.cell? ⟨xb, xo + 1, none⟩ = some (.slice y.va y.x.ov.length y.vc) ∧ w8.cell? ⟨xb, xo + 2, none⟩ = some (.bool y.x.u) ∧ w8.cell? ⟨xb, xo + 3, none⟩ = some (.bool y.x.l) ∧ w8.cell? ⟨xb, xo + 4, none⟩ = some (.bool y.x.s) :=
                       ⟨by rw [HB78.out.cell (by exact hwl)]; exact t0, by rw [HB78.out.cell (by exact hwl)]; exact t1, by rw [HB78.out.cell (by exact hwl)]; exact t2, by rw [HB78.out.cell (by exact hrl)]; exact r0, by rw [HB78.out.cell (by exact hxl)]; exact i0, by rw [HB78.out.cell (by exact hxl)]; exact i1, by rw [HB78.out.cell (by exact hxl)]; exact i2, by rw [HB78.out.cell (by exact hxl)]; exact i3, by rw [HB78.out.cell (by exact hxl)]; exact i4⟩
                     clear hb8 ho8))
              clear q3 t0 t1 t2 r0 i0 i1 i2 i3 i4 HYC
              have HB8 : Hid (Below wr.heap.size wr w8) := HB7.out.trans (HB78.out.mono HB7.out.size)
              have HO78 : Hid (OwnP w8 wr.heap.size (.slice a7 ov.length c7) P) := HO7.out.below HB78.out
              have hown8 : w8.ownsRow wr.heap.size 57 3 (.slice a7 ov.length c7) ov.length (pcs P) := by have := HO78.out; unfold OwnP at this; rw [hpl] at this; exact this
              have hyl : (ownP fs y.x cs ⟨#[]⟩).length = y.x.ov.length := ownP_len _ _ _ _
              have HSC : Hid (CellsAt w8 a8 (pcs (ownP fs y.x cs ⟨#[]⟩))) := by have h8 := HO8.out; unfold OwnP at h8; rw [hyl] at h8; exact row_cells h8
              have hB8 : wr.heap.size ≤ w8.heap.size := HB8.out.size
              rw [← HBQ.out] at HSC hyl
              go_wp2_with (at_builtin; refine append_src _ rfl (.tmp 88) (.tmp 89) 51 57 _ 3 32 Try.underlying51 info_prt rfl (by decide) rfl wr.heap.size _ ov.length _ rfl hown8 a8 y.x.ov.length c8 (pcs bh) rfl (by rw [pcs_length, hyl]) HSC.out (pcs_one _) (by unfold maxLen; omega) (by omega) hB8 ?_)
              intro v9 w9 hr9 hg9
              have HPB : Hid ((P ++ bh).length = ov.length + y.x.ov.length) := by rw [Hid, List.length_append, hpl, hyl]
              have HO9 : Hid (OwnP w9 wr.heap.size v9 (P ++ bh)) := by unfold OwnP; rw [Hid, HPB.out, pcs_append]; exact hr9
              have HG9 : Hid (Grew w8 w9 (.slice a7 ov.length c7) v9) := hg9
              have HL9 : Hid (Lists w9 w.heap.size (.slice a ls.length c) ls) := (HI.out.below HB8.out).ls.grew HI.out.ls.lt.1 HI.out.ls.lt.2 HO78.out hg9
              obtain ⟨a9, c9, rfl, -⟩ := row_forms hr9
              clear hr9 hg9 HSC hown8
              have HRow := HL9.out.row
              have hB9 : w.heap.size ≤ w9.heap.size := Nat.le_trans HI.out.be.size (Nat.le_trans HB8.out.size HG9.out.size)
              have HWP : Hid (∀ p ∈ P ++ bh, p.wf) := fun p hp => by
                rcases List.mem_append.1 hp with h | h
                · exact HPW.out p h
                · rw [HBQ.out] at h; exact HYW.out p h
              go_wp2_with (at_builtin; (refine append_row _ rfl (.tmp 91) (.tmp 93) _ 51 _ 1 24 Try.underlying87 info_plist rfl (by decide) rfl w.heap.size _ ls.length _ rfl [.slice a9 (ov.length + y.x.ov.length) c9] rfl (by simp [Value.oneCell']) _ _ rfl rfl rfl HRow (by omega) (by omega) hB9 ?_))
              intro v10 w10 hr10 hg10
              have hv : (⟨P ++ bh, a9, c9⟩ : LV).v = .slice a9 (ov.length + y.x.ov.length) c9 := by show Value.slice a9 (P ++ bh).length c9 = _; rw [HPB.out]
              have HI10 : Hid (LsI w ⟨tn, fs, fa, fc, xs, some ⟨xb, xo, none⟩, xc⟩ ⟨⟨xn, ov, false, l, s⟩, va, vc⟩ ca cc cs v10 (ls ++ [⟨P ++ bh, a9, c9⟩]) w10) := HI.out.push HB8.out HO78.out HG9.out (by rw [hv]; exact HO9.out) ⟨HWP.out, by show (P ++ bh).length ≤ 8; rw [HPB.out]; omega⟩ (by rw [hv]; exact hr10) hg10
              have HLS2 : Hid ((ls ++ [(⟨P ++ bh, a9, c9⟩ : LV)]).map LV.ps = (els.take (k + 1)).filterMap (oneR fs ⟨xn, ov, false, l, s⟩ cs bh)) := by rw [Hid, List.map_append, HLS.out]; exact HSN.out.symm
              obtain ⟨a10, c10, rfl, -⟩ := row_forms HI10.out.ls.row
              have hll : (ls ++ [(⟨P ++ bh, a9, c9⟩ : LV)]).length = ls.length + 1 := by simp
              clear hr10 hg10 HRow
              generalize ls ++ [(⟨P ++ bh, a9, c9⟩ : LV)] = ls2 at *
              go_wp2
              go_roundw
              case rel => exact ⟨k + 1, a10, c10, ls2, mi, by omega, by go_num, rfl, rfl, by omega, HMI2, HLS2, HI10⟩
              case measure => simp [intOf]; omega
        · obtain rfl : k = n := by omega
          rw [List.take_of_length_le (by rw [← HN.out]; omega)] at HMI HLS
          go_wp2
          go_ret2
          refine ⟨⟨a, c, ls, ?_, HI.out.ls, ?_⟩, HI.out.be⟩
          · rw [HM.out, ← HMI.out]; rfl
          · rw [HLQ.out]; exact HLS.out
end Go.Proofs.Ytjbnbpclelbohaa
