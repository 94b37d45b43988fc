/- Layer 7 (rows): hasPlace, Keys. -/
import Derived.Test.YtgjcchafmcccjaaGreatDoorRwAll2
namespace Go.Proofs.YtgjcchafmcccjaaGreatDoor
open Go.RowKit
set_option linter.unusedVariables false
attribute [local go_sem] Oper.semAt_some

def placeB (t : Tb) (p : Int) : Bool := decide (0 ≤ p) && decide (p < t.xs.length)
def noX : Ix := ⟨⟨#[]⟩, [], false, false, false⟩
def keysP (t : Tb) (p : Int) (cs : List CV) : List (List UInt8) × Int :=
  if placeB t p = false then ([], 75) else if fitP t cs ≠ 0 then ([], fitP t cs) else indexP t (t.xs.getD p.toNat noX) cs
theorem fitP_cells {t : Tb} {cs : List CV} (h : fitP t cs = 0) : fitC t.fs cs = 0 := by
  unfold fitP at h
  split at h
  · next h0 => exact absurd h h0
  · next h0 => exact Decidable.not_not.1 h0
set_option maxHeartbeats 1000000 in
theorem hasPlace_calls (t : TV) (p : Int) (w : World) (hp : -9223372036854775808 ≤ p ∧ p ≤ 9223372036854775807) (hx : t.xs.length ≤ 8) :
    Calls Tryz.prog 26 #[.agg #[.string t.n, t.fv, t.xv], .int .i64 p] w fun e w' => e = .returned (.bool (placeB t.tb p)) ∧ Below w.heap.size w w' := by
  have HP : Hid (placeB t.tb p = (decide (0 ≤ p) && decide (p < (t.xs.length : Int)))) := by unfold placeB; rw [Hid]; simp [TV.tb]
  obtain ⟨tn, fs, fa, fc, xs, xa, xc⟩ := t
  dsimp only [TV.fv, TV.xv] at *
  have HB : Hid (Below w.heap.size w (w.alloc (.cells #[.string tn, .slice fa fs.length fc, .slice xa xs.length xc] 42))) := (Below.refl _ _).alloc (Nat.le_refl _) _
  generalize xs.length = xl at *
  by_cases h0 : 0 ≤ p
  · by_cases h1 : p < (xl : Int)
    · rw [decide_eq_true h0, decide_eq_true h1] at HP
      go_enter Tryz.func26, Tryz.ntmps26
      go_wp2
      go_ret
      exact ⟨ret_bool HP.out.symm, HB.out⟩
    · rw [decide_eq_true h0, decide_eq_false h1] at HP
      go_enter Tryz.func26, Tryz.ntmps26
      go_wp2
      go_ret
      exact ⟨ret_bool HP.out.symm, HB.out⟩
  · rw [decide_eq_false h0] at HP
    have q0 : decide (0 ≤ p) = false := decide_eq_false h0
    go_enter Tryz.func26, Tryz.ntmps26
    go_wp2
    go_ret
    exact ⟨ret_bool HP.out.symm, HB.out⟩

set_option maxRecDepth 100000 in
set_option maxHeartbeats 2000000 in
theorem keys_calls (t : TV) (p : Int) (ca : Option Addr) (cc : Nat) (cs : List CV) (w : World) (hp : -9223372036854775808 ≤ p ∧ p ≤ 9223372036854775807) (hcm : cs.length ≤ 4398046511104) (ht : TRd w t) (hr : RowAt w ca cs) :
    Calls Tryz.prog 12 #[.agg #[.string t.n, t.fv, t.xv], .int .i64 p, .agg #[.slice ca cs.length cc]] w fun e w' => ∃ v, e = .returned (.tuple #[v, .int .i64 (keysP t.tb p cs).2]) ∧ KeysAt w' w.heap.size v (keysP t.tb p cs).1 ∧ Below w.heap.size w w' := by
  have HTR : Hid (TRd w t) := ht
  have HRA : Hid (RowAt w ca cs) := hr
  have HKP : Hid (keysP t.tb p cs = if placeB t.tb p = false then ([], 75) else if fitP t.tb cs ≠ 0 then ([], fitP t.tb cs) else indexP t.tb (t.tb.xs.getD p.toNat noX) cs) := rfl
  have hxm := ht.ok.xmost
  obtain ⟨w2, hw2⟩ : ∃ w2, w2 = (w.alloc (.cells #[.string t.n, t.fv, t.xv] 42)).alloc (.cells #[.slice ca cs.length cc] 45) := ⟨_, rfl⟩
  have hb2 : Below w.heap.size w w2 := by rw [hw2]; exact ((Below.refl _ _).alloc (Nat.le_refl _) _).alloc (by simp only [World.size_alloc]; omega) _
  have HT2 : Hid (w2.heap[w.heap.size]? = some (.cells #[.string t.n, t.fv, t.xv] 42)) := by rw [Hid, hw2]; exact old_blk (new_blk _ _) _
  have HR2 : Hid (w2.heap[w.heap.size + 1]? = some (.cells #[.slice ca cs.length cc] 45)) := by
    rw [Hid, hw2]
    have := new_blk (w.alloc (.cells #[.string t.n, t.fv, t.xv] 42)) (.cells #[.slice ca cs.length cc] 45)
    rw [World.size_alloc] at this
    exact this
  have HHP : Hid (Calls Tryz.prog 26 #[.agg #[.string t.n, t.fv, t.xv], .int .i64 p] w2 fun e w' => e = .returned (.bool (placeB t.tb p)) ∧ Below w2.heap.size w2 w') := hasPlace_calls t p w2 hp hxm
  have HFT : Hid (∀ W, Below w.heap.size w W → Calls Tryz.prog 8 #[.agg #[.string t.n, t.fv, t.xv], .agg #[.slice ca cs.length cc]] W fun e w' => e = .returned (.int .i64 (fitP t.tb cs)) ∧ Below W.heap.size W w') := fun W hW => fit_calls t ca cc cs W hcm (ht.below hW) (hr.below hW)
  have HIX : Hid (∀ W, Below w.heap.size w W → fitC t.fs cs = 0 → ∀ x ∈ t.xs, Calls Tryz.prog 21 #[.agg #[.string t.n, t.fv, t.xv], .agg #[.string x.x.n, .slice x.va x.x.ov.length x.vc, .bool x.x.u, .bool x.x.l, .bool x.x.s], .slice ca cs.length cc] W fun e w' => IxAns W t.tb x.x cs e w') := fun W hW hf x hx => indexKeys_calls t x ca cc cs W ((HTR.out.below hW).klok (HRA.out.below hW) hf hx)
  have HB2 : Hid (Below w.heap.size w w2) := hb2
  have HFC : Hid (fitP t.tb cs = 0 → fitC t.fs cs = 0) := fun h => fitP_cells h
  clear ht hr hb2
  obtain ⟨tn, fs, fa, fc, xs, xa, xc⟩ := t
  dsimp only [TV.fv, TV.xv] at *
  go_enter Tryz.func12, Tryz.ntmps12
  go_upto_region 1 with fail
  rw [← hw2]
  clear hw2
  have t0 : w2.cell? ⟨w.heap.size, 0, none⟩ = some (.string tn) := by rw [cell_blk HT2.out]; rfl
  have t1 : w2.cell? ⟨w.heap.size, 1, none⟩ = some (.slice fa fs.length fc) := by rw [cell_blk HT2.out]; rfl
  have t2 : w2.cell? ⟨w.heap.size, 2, none⟩ = some (.slice xa xs.length xc) := by rw [cell_blk HT2.out]; rfl
  go_wp2_with fail
  refine HHP.out.mono ?_
  clear HHP
  rintro e w3 ⟨rfl, hb3⟩
  have HT3 : Hid (w3.heap[w.heap.size]? = some (.cells #[.string tn, .slice fa fs.length fc, .slice xa xs.length xc] 42)) := (hb3.block _ (lt_blk HT2.out)).trans HT2.out
  have HR3 : Hid (w3.heap[w.heap.size + 1]? = some (.cells #[.slice ca cs.length cc] 45)) := (hb3.block _ (lt_blk HR2.out)).trans HR2.out
  have HB3 : Hid (Below w.heap.size w w3) := HB2.out.trans (hb3.mono HB2.out.size)
  clear hb3 HT2 HR2 HB2 t0 t1 t2
  have t0 : w3.cell? ⟨w.heap.size, 0, none⟩ = some (.string tn) := by rw [cell_blk HT3.out]; rfl
  have t1 : w3.cell? ⟨w.heap.size, 1, none⟩ = some (.slice fa fs.length fc) := by rw [cell_blk HT3.out]; rfl
  have t2 : w3.cell? ⟨w.heap.size, 2, none⟩ = some (.slice xa xs.length xc) := by rw [cell_blk HT3.out]; rfl
  have r0 : w3.cell? ⟨w.heap.size + 1, 0, none⟩ = some (.slice ca cs.length cc) := by rw [cell_blk HR3.out]; rfl
  cases hpb : placeB (TV.mk tn fs fa fc xs xa xc).tb p with
  | false =>
    rw [if_pos hpb] at HKP
    clear hpb
    go_wp2
    go_ret2
    refine ⟨.slice none 0 0, ?_, ?_, HB3.out⟩
    · rw [HKP.out]; rfl
    · rw [HKP.out]; exact World.ownsRow_nil _ _ _ _
  | true =>
    rw [if_neg (by rw [hpb]; simp)] at HKP
    have hpr : 0 ≤ p ∧ p < (xs.length : Int) := by
      unfold placeB at hpb
      simp only [Bool.and_eq_true, decide_eq_true_eq] at hpb
      simpa [TV.tb] using hpb
    clear hpb
    obtain ⟨k, rfl⟩ : ∃ k : Nat, p = (k : Int) := ⟨p.toNat, by omega⟩
    have hlt : k < xs.length := by omega
    go_wp2_with fail
    refine (HFT.out _ HB3.out).mono ?_
    clear HFT
    rintro e w4 ⟨rfl, hb4⟩
    have HB4 : Hid (Below w.heap.size w w4) := HB3.out.trans (hb4.mono HB3.out.size)
    have HT4 : Hid (w4.heap[w.heap.size]? = some (.cells #[.string tn, .slice fa fs.length fc, .slice xa xs.length xc] 42)) := (hb4.block _ (lt_blk HT3.out)).trans HT3.out
    have HR4 : Hid (w4.heap[w.heap.size + 1]? = some (.cells #[.slice ca cs.length cc] 45)) := (hb4.block _ (lt_blk HR3.out)).trans HR3.out
    clear hb4 t0 t1 t2 r0 HT3 HR3
    by_cases hf : fitP (TV.mk tn fs fa fc xs xa xc).tb cs = 0
    · rw [if_neg (by rw [hf]; simp)] at HKP
      have HKQ : Hid (keysP (TV.mk tn fs fa fc xs xa xc).tb (k : Int) cs = indexP (TV.mk tn fs fa fc xs xa xc).tb xs[k].x cs) := by
        rw [Hid, HKP.out, show ((k : Int).toNat) = k from rfl, List.getD_eq_getElem?_getD]
        show indexP _ (((xs.map (·.x))[k]?).getD noX) cs = _
        rw [List.getElem?_map, List.getElem?_eq_getElem hlt]
        rfl
      have hf0 := HFC.out hf
      rw [hf]
      clear hf HKP HFC
      have hbd : Below w.heap.size w w4.drew := ⟨HB4.out.os, HB4.out.tape, HB4.out.output, HB4.out.size, HB4.out.block⟩
      have HXC := HIX.out w4.drew hbd hf0 _ (List.getElem_mem hlt)
      obtain ⟨xb, xo, rfl, i0, i1, i2, i3, i4⟩ := (HTR.out.xs.below HB4.out).idx k hlt
      have HXC : Hid (Calls Tryz.prog 21 #[.agg #[.string tn, .slice fa fs.length fc, .slice (some ⟨xb, xo, none⟩) xs.length xc], .agg #[.string xs[k].x.n, .slice xs[k].va xs[k].x.ov.length xs[k].vc, .bool xs[k].x.u, .bool xs[k].x.l, .bool xs[k].x.s], .slice ca cs.length cc] w4.drew fun e w' => IxAns w4.drew (TV.mk tn fs fa fc xs (some ⟨xb, xo, none⟩) xc).tb xs[k].x cs e w') := HXC
      have t0 : w4.cell? ⟨w.heap.size, 0, none⟩ = some (.string tn) := by rw [cell_blk HT4.out]; rfl
      have t1 : w4.cell? ⟨w.heap.size, 1, none⟩ = some (.slice fa fs.length fc) := by rw [cell_blk HT4.out]; rfl
      have t2 : w4.cell? ⟨w.heap.size, 2, none⟩ = some (.slice (some ⟨xb, xo, none⟩) xs.length xc) := by rw [cell_blk HT4.out]; rfl
      have r0 : w4.cell? ⟨w.heap.size + 1, 0, none⟩ = some (.slice ca cs.length cc) := by rw [cell_blk HR4.out]; rfl
      have hi1 : (k : Int) < (xs.length : Int) := by omega
      have hi0 : (0 : Int) ≤ (k : Int) := by omega
      have hwl : w.heap.size < w4.heap.size := lt_blk HT4.out
      have hrl : w.heap.size + 1 < w4.heap.size := lt_blk HR4.out
      have hxl : xb < w4.heap.size := World.block_lt_of_cell? w4 _ i0
      clear hbd hf0 hpr
      go_upto_region 6 with fail
      go_region_held3 (fun W => W.cell? ⟨w.heap.size, 0, none⟩ = some (.string tn) ∧ W.cell? ⟨w.heap.size, 1, none⟩ = some (.slice fa fs.length fc) ∧ W.cell? ⟨w.heap.size, 2, none⟩ = some (.slice (some ⟨xb, xo, none⟩) xs.length xc) ∧ W.cell? ⟨w.heap.size + 1, 0, none⟩ = some (.slice ca cs.length cc) ∧ W.cell? ⟨xb, xo + k * 5, none⟩ = some (.string xs[k].x.n) ∧ W.cell? ⟨xb, xo + k * 5 + 1, none⟩ = some (.slice xs[k].va xs[k].x.ov.length xs[k].vc) ∧ W.cell? ⟨xb, xo + k * 5 + 2, none⟩ = some (.bool xs[k].x.u) ∧ W.cell? ⟨xb, xo + k * 5 + 3, none⟩ = some (.bool xs[k].x.l) ∧ W.cell? ⟨xb, xo + k * 5 + 4, none⟩ = some (.bool xs[k].x.s)) (first | (exact q3) | go_keep)
        (first
          | (go_at_call 21
             refine HXC.out.mono ?_
             rintro e w5 ⟨v5, rfl, hk5, hb5⟩
             have HB45 : Hid (Below w4.heap.size w4 w5) := ⟨hb5.os, hb5.tape, hb5.output, hb5.size, hb5.block⟩
             have HK5 : Hid (KeysAt w5 w.heap.size v5 (indexP (TV.mk tn fs fa fc xs (some ⟨xb, xo, none⟩) xc).tb xs[k].x cs).1) := row_mono hk5 HB4.out.size
             have q3 : w5.cell? ⟨w.heap.size, 0, none⟩ = some (.string tn) ∧ w5.cell? ⟨w.heap.size, 1, none⟩ = some (.slice fa fs.length fc) ∧ w5.cell? ⟨w.heap.size, 2, none⟩ = some (.slice (some ⟨xb, xo, none⟩) xs.length xc) ∧ w5.cell? ⟨w.heap.size + 1, 0, none⟩ = some (.slice ca cs.length cc) ∧ w5.cell? ⟨xb, xo + k * 5, none⟩ = some (.string xs[k].x.n) ∧ w5.cell? ⟨xb, xo + k * 5 + 1, none⟩ = some (.slice xs[k].va xs[k].x.ov.length xs[k].vc) ∧ w5.cell? ⟨xb, xo + k * 5 + 2, none⟩ = some (.bool xs[k].x.u) ∧ w5.cell? ⟨xb, xo + k * 5 + 3, none⟩ = some (.bool xs[k].x.l) ∧ w5.cell? ⟨xb, xo + k * 5 + 4, none⟩ = some (.bool xs[k].x.s) :=
               ⟨by rw [HB45.out.cell (by exact hwl)]; exact t0, by rw [HB45.out.cell (by exact hwl)]; exact t1, by rw [HB45.out.cell (by exact hwl)]; exact t2, by rw [HB45.out.cell (by exact hrl)]; exact r0, by rw [HB45.out.cell (by exact hxl)]; exact i0, by rw [HB45.out.cell (by exact hxl)]; exact i1, by rw [HB45.out.cell (by exact hxl)]; exact i2, by rw [HB45.out.cell (by exact hxl)]; exact i3, by rw [HB45.out.cell (by exact hxl)]; exact i4⟩
             clear hb5 hk5))
      go_wp2
      go_ret2
      refine ⟨v5, ?_, ?_, HB4.out.trans (HB45.out.mono HB4.out.size)⟩
      · rw [HKQ.out]; rfl
      · rw [HKQ.out]; exact HK5.out
    · rw [if_pos hf] at HKP
      have q5 : (fitP (TV.mk tn fs fa fc xs xa xc).tb cs == 0) = false := by simpa using hf
      clear hf
      go_wp2
      go_ret2
      refine ⟨.slice none 0 0, ?_, ?_, HB4.out⟩
      · rw [HKP.out]; rfl
      · rw [HKP.out]; exact World.ownsRow_nil _ _ _ _
end Go.Proofs.YtgjcchafmcccjaaGreatDoor
