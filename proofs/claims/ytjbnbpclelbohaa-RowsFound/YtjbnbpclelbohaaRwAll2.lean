/- Layer 7 (rows): Fit, Keys. -/
import Derived.Test.YtjbnbpclelbohaaRwAll
namespace Go.Proofs.Ytjbnbpclelbohaa
open Go.RowKit
set_option linter.unusedVariables false
attribute [local go_sem] Oper.semAt_some

/-- A table where it can be read. -/
structure TRd (w : World) (t : TV) : Prop where
  fs : CellsAt w t.fa (fcs t.fs)
  xs : CellsAt w t.xa (xcs t.xs)
  ov : ∀ x ∈ t.xs, CellsAt w x.va (ics x.x.ov)
  ok : TOk t
theorem TRd.below {w w' : World} {t : TV} (h : TRd w t) (hb : Below w.heap.size w w') : TRd w' t := ⟨h.fs.below hb, h.xs.below hb, fun x hx => (h.ov x hx).below hb, h.ok⟩
theorem Tabs.rd {w : World} {B : Nat} {v : Value} {ts : List TV} (h : Tabs w B v ts) {t : TV} (ht : t ∈ ts) : TRd w t :=
  ⟨row_cells (h.tab t ht).fs, row_cells (h.tab t ht).xs, fun x hx => row_cells ((h.tab t ht).ov x hx), h.ok t ht⟩
theorem TRd.ovok {w : World} {t : TV} {cs : List CV} (h : TRd w t) (hl : cs.length = t.fs.length) {x : XV} (hx : x ∈ t.xs) : OvOk x t.fs cs :=
  ⟨(h.ok.xok x hx).one, (h.ok.xok x hx).most, (h.ok.xok x hx).place, hl, h.ok.fmost, fun f hf => (h.ok.fsize f hf).2⟩
theorem TRd.klok {w : World} {t : TV} {ca : Option Addr} {cs : List CV} (h : TRd w t) (hr : RowAt w ca cs) (hf : fitC t.fs cs = 0) {x : XV} (hx : x ∈ t.xs) : KlOk w t x ca cs := by
  have hc := fitC_few hf
  refine ⟨h.ovok hc.1 hx, h.fs, h.xs, h.ov x hx, hr, List.length_pos_of_mem hx, h.ok.xmost, fun y hy => ?_, elems_few hc.2⟩
  have hm := List.mem_of_getElem? hy
  exact ⟨h.ovok hc.1 hm, h.ov y hm⟩

def fitX (t : Tb) (cs : List CV) : List Ix → Int
  | [] => 0
  | x :: xs => if (indexP t x cs).2 ≠ 0 then (indexP t x cs).2 else fitX t cs xs
def fitP (t : Tb) (cs : List CV) : Int := if fitC t.fs cs ≠ 0 then fitC t.fs cs else fitX t cs t.xs

set_option maxRecDepth 100000 in
set_option maxHeartbeats 2000000 in
theorem fit_calls (t : TV) (ca : Option Addr) (cc : Nat) (cs : List CV) (w : World) (hcm : cs.length ≤ 4398046511104) (ht : TRd w t) (hr : RowAt w ca cs) :
    Calls Try.prog 9 #[.agg #[.string t.n, t.fv, t.xv], .agg #[.slice ca cs.length cc]] w fun e w' => e = .returned (.int .i64 (fitP t.tb cs)) ∧ Below w.heap.size w w' := by
  have HTR : Hid (TRd w t) := ht
  have HRA : Hid (RowAt w ca cs) := hr
  have HFP : Hid (fitP t.tb cs = if fitC t.fs cs ≠ 0 then fitC t.fs cs else fitX t.tb cs (t.xs.map (·.x))) := rfl
  have hxm := ht.ok.xmost
  have hfm := ht.ok.fmost
  have HKD : Hid (∀ f ∈ t.fs, 1 ≤ f.k ∧ f.k ≤ 3) := fun f hf => (ht.ok.fsize f hf).2
  obtain ⟨w2, hw2⟩ : ∃ w2, w2 = (w.alloc (.cells #[.string t.n, t.fv, t.xv] 29)).alloc (.cells #[.slice ca cs.length cc] 24) := ⟨_, rfl⟩
  have hb2 : Below w.heap.size w w2 := by rw [hw2]; exact ((Below.refl _ _).alloc (Nat.le_refl _) _).alloc (by simp only [World.size_alloc]; omega) _
  have HT2 : Hid (w2.heap[w.heap.size]? = some (.cells #[.string t.n, t.fv, t.xv] 29)) := by rw [Hid, hw2]; exact old_blk (new_blk _ _) _
  have HR2 : Hid (w2.heap[w.heap.size + 1]? = some (.cells #[.slice ca cs.length cc] 24)) := by
    rw [Hid, hw2]
    have := new_blk (w.alloc (.cells #[.string t.n, t.fv, t.xv] 29)) (.cells #[.slice ca cs.length cc] 24)
    rw [World.size_alloc] at this
    exact this
  have HFC : Hid (Calls Try.prog 23 #[.slice t.fa t.fs.length t.fc, .slice ca cs.length cc] w2 fun e w' => e = .returned (.int .i64 (fitC t.fs cs)) ∧ Below w2.heap.size w2 w') := fitCells_calls t.fa t.fc t.fs ca cc cs w2 hfm HKD.out hcm (ht.fs.below hb2) (hr.below hb2)
  have HB2 : Hid (Below w.heap.size w w2) := hb2
  clear ht hr hb2
  have HIX : Hid (∀ W, Below w.heap.size w W → fitC t.fs cs = 0 → ∀ x ∈ t.xs, Calls Try.prog 24 #[.agg #[.string t.n, t.fv, t.xv], .agg #[.string x.x.n, .slice x.va x.x.ov.length x.vc, .bool x.x.u, .bool x.x.l, .bool x.x.s], .slice ca cs.length cc] W fun e w' => IxAns W t.tb x.x cs e w') := fun W hW hf x hx => indexKeys_calls t x ca cc cs W ((HTR.out.below hW).klok (HRA.out.below hW) hf hx)
  obtain ⟨tn, fs, fa, fc, xs, xa, xc⟩ := t
  dsimp only [TV.fv, TV.xv] at *
  go_enter Try.func9, Try.ntmps9
  go_wp2_with fail
  rw [← hw2]
  clear hw2
  refine HFC.out.mono ?_
  clear HFC
  rintro e w3 ⟨rfl, hb3⟩
  have HT3 : Hid (w3.heap[w.heap.size]? = some (.cells #[.string tn, .slice fa fs.length fc, .slice xa xs.length xc] 29)) := (hb3.block _ (lt_blk HT2.out)).trans HT2.out
  have HR3 : Hid (w3.heap[w.heap.size + 1]? = some (.cells #[.slice ca cs.length cc] 24)) := (hb3.block _ (lt_blk HR2.out)).trans HR2.out
  have HB3 : Hid (Below w.heap.size w w3) := HB2.out.trans (hb3.mono HB2.out.size)
  have t2 : w3.cell? ⟨w.heap.size, 2, none⟩ = some (.slice xa xs.length xc) := by rw [cell_blk HT3.out]; rfl
  clear HB2 HT2 HR2 hb3
  by_cases hf : fitC fs cs = 0
  · have HFP2 : Hid (fitP (TV.mk tn fs fa fc xs xa xc).tb cs = fitX (TV.mk tn fs fa fc xs xa xc).tb cs (xs.map (·.x))) := by rw [Hid, HFP.out, if_neg (by rw [hf]; simp)]
    have HF0 : Hid (fitC fs cs = 0) := hf
    rw [hf]
    clear hf HFP
    go_wp2
    go_loopw [7, 8, 9, 21] (fun a7 a8 a9 i wr => ∃ k : Nat, k ≤ xs.length ∧ i = .int .i64 k ∧ Hid (fitX (TV.mk tn fs fa fc xs xa xc).tb cs (xs.map (·.x)) = fitX (TV.mk tn fs fa fc xs xa xc).tb cs ((xs.map (·.x)).drop k)) ∧ Hid (Below w3.heap.size w3 wr)) (fun _ _ _ i _ => xs.length - (intOf i).toNat)
    case atStart => exact ⟨0, Nat.zero_le _, rfl, rfl, Below.refl _ _⟩
    case round =>
      obtain ⟨k, hk, rfl, HE, HB⟩ := hrel
      have HBw : Hid (Below w.heap.size w wr) := HB3.out.trans (HB.out.mono HB3.out.size)
      by_cases hlt : k < xs.length
      · obtain ⟨xb, xo, rfl, i0, i1, i2, i3, i4⟩ := (HTR.out.xs.below HBw.out).idx k hlt
        have HTr : Hid (wr.heap[w.heap.size]? = some (.cells #[.string tn, .slice fa fs.length fc, .slice (some ⟨xb, xo, none⟩) xs.length xc] 29)) := (HB.out.block _ (lt_blk HT3.out)).trans HT3.out
        have HRr : Hid (wr.heap[w.heap.size + 1]? = some (.cells #[.slice ca cs.length cc] 24)) := (HB.out.block _ (lt_blk HR3.out)).trans HR3.out
        have s0 : wr.cell? ⟨w.heap.size, 0, none⟩ = some (.string tn) := by rw [cell_blk HTr.out]; rfl
        have s1 : wr.cell? ⟨w.heap.size, 1, none⟩ = some (.slice fa fs.length fc) := by rw [cell_blk HTr.out]; rfl
        have s2 : wr.cell? ⟨w.heap.size, 2, none⟩ = some (.slice (some ⟨xb, xo, none⟩) xs.length xc) := by rw [cell_blk HTr.out]; rfl
        have r0 : wr.cell? ⟨w.heap.size + 1, 0, none⟩ = some (.slice ca cs.length cc) := by rw [cell_blk HRr.out]; rfl
        have hs1 : w.heap.size < wr.heap.size := lt_blk HTr.out
        have hs2 : w.heap.size + 1 < wr.heap.size := lt_blk HRr.out
        have HXC : Hid (Calls Try.prog 24 #[.agg #[.string tn, .slice fa fs.length fc, .slice (some ⟨xb, xo, none⟩) xs.length xc], .agg #[.string xs[k].x.n, .slice xs[k].va xs[k].x.ov.length xs[k].vc, .bool xs[k].x.u, .bool xs[k].x.l, .bool xs[k].x.s], .slice ca cs.length cc] (wr.alloc (.cells #[.string xs[k].x.n, .slice xs[k].va xs[k].x.ov.length xs[k].vc, .bool xs[k].x.u, .bool xs[k].x.l, .bool xs[k].x.s] 50)) fun e w' => IxAns (wr.alloc (.cells #[.string xs[k].x.n, .slice xs[k].va xs[k].x.ov.length xs[k].vc, .bool xs[k].x.u, .bool xs[k].x.l, .bool xs[k].x.s] 50)) (TV.mk tn fs fa fc xs (some ⟨xb, xo, none⟩) xc).tb xs[k].x cs e w') := HIX.out _ (HBw.out.alloc HBw.out.size _) HF0.out _ (List.getElem_mem hlt)
        have HS : Hid (fitX (TV.mk tn fs fa fc xs (some ⟨xb, xo, none⟩) xc).tb cs (xs.map (·.x)) = if (indexP (TV.mk tn fs fa fc xs (some ⟨xb, xo, none⟩) xc).tb xs[k].x cs).2 ≠ 0 then (indexP (TV.mk tn fs fa fc xs (some ⟨xb, xo, none⟩) xc).tb xs[k].x cs).2 else fitX (TV.mk tn fs fa fc xs (some ⟨xb, xo, none⟩) xc).tb cs ((xs.map (·.x)).drop (k + 1))) := by
          rw [Hid, HE.out, List.drop_eq_getElem_cons (by simpa using hlt)]
          simp only [List.getElem_map]
          rfl
        go_wp2_with fail
        refine HXC.out.mono ?_
        clear HXC
        rintro e w5 ⟨v5, rfl, -, hb5⟩
        have HB5 : Hid (Below w3.heap.size w3 w5) := (HB.out.alloc HB.out.size _).trans (hb5.mono (by simp only [World.size_alloc]; have := HB.out.size; omega))
        have HBw5 : Hid (Below w.heap.size w w5) := HB3.out.trans (HB5.out.mono HB3.out.size)
        clear hb5
        generalize (indexP (TV.mk tn fs fa fc xs (some ⟨xb, xo, none⟩) xc).tb xs[k].x cs).2 = cd at *
        by_cases hc : cd = 0
        · subst hc
          rw [if_neg (by simp)] at HS
          go_wp2
          go_roundw
          case rel => exact ⟨k + 1, by omega, by go_num, HS, HB5⟩
          case measure => simp [intOf]; omega
        · have q5 : (cd == 0) = false := by simpa using hc
          rw [if_pos hc] at HS
          clear hc
          go_wp2
          go_ret
          exact ⟨ret_num (by rw [HFP2.out, HS.out]), HBw5.out⟩
      · have HQ : Hid (0 = fitP (TV.mk tn fs fa fc xs xa xc).tb cs) := by
          rw [Hid, HFP2.out, HE.out, List.drop_of_length_le (by simp; omega)]
          rfl
        go_wp2
        go_ret
        exact ⟨ret_num HQ.out, HBw.out⟩
  · have HQ : Hid (fitC fs cs = fitP (TV.mk tn fs fa fc xs xa xc).tb cs) := by rw [Hid, HFP.out, if_pos hf]
    have q5 : (fitC fs cs == 0) = false := by simpa using hf
    clear hf HFP
    go_wp2
    go_ret
    exact ⟨ret_num HQ.out, HB3.out⟩
end Go.Proofs.Ytjbnbpclelbohaa
