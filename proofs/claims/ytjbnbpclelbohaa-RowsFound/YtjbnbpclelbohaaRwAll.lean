/- Layer 7 (rows): fitCells, Fit, Keys. -/
import Derived.Test.YtjbnbpclelbohaaRwKeys
namespace Go.Proofs.Ytjbnbpclelbohaa
open Go.RowKit
set_option linter.unusedVariables false
attribute [local go_sem] Oper.semAt_some

def fitL : List Fd → List CV → Int
  | f :: fs, c :: cs => if usesB f.k c = false then 71 else if 32 < c.l.length then 72 else fitL fs cs
  | _, _ => 0
def fitC (fs : List Fd) (cs : List CV) : Int := if cs.length ≠ fs.length then 70 else fitL fs cs
theorem fitL_few : ∀ (fs : List Fd) (cs : List CV), cs.length = fs.length → fitL fs cs = 0 → ∀ c ∈ cs, c.l.length ≤ 32
  | [], [], _, _, c, hc => by simp at hc
  | f :: fs, d :: cs, hl, h, c, hc => by
    unfold fitL at h
    split at h
    · cases h
    · split at h
      · cases h
      · rcases List.mem_cons.1 hc with rfl | hc
        · omega
        · exact fitL_few fs cs (by simpa using hl) h c hc
  | [], d :: cs, hl, _, _, _ => by simp at hl
  | f :: fs, [], hl, _, c, hc => by simp at hc
theorem fitC_few {fs : List Fd} {cs : List CV} (h : fitC fs cs = 0) : cs.length = fs.length ∧ ∀ c ∈ cs, c.l.length ≤ 32 := by
  unfold fitC at h
  split at h
  · cases h
  · next hl =>
    have hl : cs.length = fs.length := Decidable.not_not.1 hl
    exact ⟨hl, fitL_few fs cs hl h⟩
theorem elems_few {fs : List Fd} {ov : List Int} {cs : List CV} (h : ∀ c ∈ cs, c.l.length ≤ 32) : (elemsOf fs ov cs).length ≤ 32 := by
  unfold elemsOf
  cases listP fs ov with
  | none => simp
  | some p =>
    dsimp only
    by_cases hp : p.toNat < cs.length
    · rw [List.getD_eq_getElem?_getD, List.getElem?_eq_getElem hp]
      exact h _ (List.getElem_mem hp)
    · rw [List.getD_eq_getElem?_getD, List.getElem?_eq_none (by omega)]
      simp [noC]

set_option maxRecDepth 100000 in
set_option maxHeartbeats 2000000 in
theorem fitCells_calls (fa : Option Addr) (fc : Nat) (fs : List Fd) (ca : Option Addr) (cc : Nat) (cs : List CV) (w : World) (hfm : fs.length ≤ 16) (hkd : ∀ f ∈ fs, 1 ≤ f.k ∧ f.k ≤ 3) (hcm : cs.length ≤ 4398046511104) (hf : CellsAt w fa (fcs fs)) (hr : RowAt w ca cs) :
    Calls Try.prog 23 #[.slice fa fs.length fc, .slice ca cs.length cc] w fun e w' => e = .returned (.int .i64 (fitC fs cs)) ∧ Below w.heap.size w w' := by
  have HF : Hid (CellsAt w fa (fcs fs)) := hf
  have HR : Hid (RowAt w ca cs) := hr
  have HKD : Hid (∀ f ∈ fs, 1 ≤ f.k ∧ f.k ≤ 3) := hkd
  clear hf hr hkd
  by_cases hl : cs.length = fs.length
  · have HO : Hid (fitC fs cs = fitL fs cs) := by unfold fitC; rw [Hid, if_neg (by simpa using hl)]
    have HLE : Hid (cs.length = fs.length) := hl
    have q1 : ((cs.length : Int) != (fs.length : Int)) = false := by rw [hl]; simp
    clear hl
    go_enter Try.func23, Try.ntmps23
    go_wp2
    go_loopw [5, 6, 14] (fun a5 a6 i wr => ∃ k : Nat, k ≤ cs.length ∧ i = .int .i64 k ∧ Hid (fitL fs cs = fitL (fs.drop k) (cs.drop k)) ∧ Hid (Below w.heap.size w wr)) (fun _ _ i _ => cs.length - (intOf i).toNat)
    case atStart => exact ⟨0, Nat.zero_le _, rfl, rfl, Below.refl _ _⟩
    case round =>
      obtain ⟨k, hk, rfl, HE, HB⟩ := hrel
      by_cases hlt : k < cs.length
      · have hkf : k < fs.length := by have := HLE.out; omega
        obtain ⟨fb, fo, rfl, f0, f1⟩ := (HF.out.below HB.out).fld k hkf
        obtain ⟨cb, co, rfl, d0, d1, d2⟩ := (HR.out.below HB.out).row.cel k hlt
        have hwk := HR.out.wf _ (List.getElem_mem hlt)
        have hkk := HKD.out _ (List.getElem_mem hkf)
        have HS : Hid (fitL fs cs = if usesB fs[k].k cs[k] = false then 71 else if 32 < cs[k].l.length then 72 else fitL (fs.drop (k + 1)) (cs.drop (k + 1))) := by
          rw [Hid, HE.out, List.drop_eq_getElem_cons hkf, List.drop_eq_getElem_cons hlt]
          rfl
        have HUC := usesOwn_calls fs[k].k cs[k] ((wr.alloc (.cells #[.string cs[k].t, .int .u64 cs[k].n, .slice cs[k].la cs[k].l.length cs[k].lc] 55)).drew) (by omega) hwk.2.2.2
        have HUC : Hid (Calls Try.prog 35 #[.int .i64 fs[k].k, .agg #[.string cs[k].t, .int .u64 cs[k].n, .slice cs[k].la cs[k].l.length cs[k].lc]] (wr.alloc (.cells #[.string cs[k].t, .int .u64 cs[k].n, .slice cs[k].la cs[k].l.length cs[k].lc] 55)).drew fun e w' => e = .returned (.bool (usesB fs[k].k cs[k])) ∧ Below (wr.alloc (.cells #[.string cs[k].t, .int .u64 cs[k].n, .slice cs[k].la cs[k].l.length cs[k].lc] 55)).drew.heap.size (wr.alloc (.cells #[.string cs[k].t, .int .u64 cs[k].n, .slice cs[k].la cs[k].l.length cs[k].lc] 55)).drew w') := HUC
        have hfb : fb < wr.heap.size := World.block_lt_of_cell? wr _ f1
        have hll := hwk.2.2.2
        clear hwk hkk
        go_upto_region 6 with fail
        obtain ⟨w3, hw3⟩ : ∃ w3, w3 = wr.alloc (.cells #[.string cs[k].t, .int .u64 cs[k].n, .slice cs[k].la cs[k].l.length cs[k].lc] 55) := ⟨_, rfl⟩
        rw [← hw3] at HUC ⊢
        have hb3 : Below wr.heap.size wr w3 := by rw [hw3]; exact (Below.refl _ _).alloc (Nat.le_refl _) _
        have HX3 : Hid (w3.heap[wr.heap.size]? = some (.cells #[.string cs[k].t, .int .u64 cs[k].n, .slice cs[k].la cs[k].l.length cs[k].lc] 55)) := by rw [hw3]; exact new_blk _ _
        have g1 : w3.cell? ⟨fb, fo + k * 2 + 1, none⟩ = some (.int .i64 fs[k].k) := by rw [hb3.cell (by exact hfb)]; exact f1
        have b0 : w3.cell? ⟨wr.heap.size, 0, none⟩ = some (.string cs[k].t) := by rw [cell_blk HX3.out]; rfl
        have b1 : w3.cell? ⟨wr.heap.size, 1, none⟩ = some (.int .u64 cs[k].n) := by rw [cell_blk HX3.out]; rfl
        have b2 : w3.cell? ⟨wr.heap.size, 2, none⟩ = some (.slice cs[k].la cs[k].l.length cs[k].lc) := by rw [cell_blk HX3.out]; rfl
        have hx3 : wr.heap.size < w3.heap.size := lt_blk HX3.out
        have hi1 : (k : Int) < (fs.length : Int) := by omega
        have hi0 : (0 : Int) ≤ (k : Int) := by omega
        have HB3 : Hid (Below w.heap.size w w3) := HB.out.trans (hb3.mono HB.out.size)
        clear hw3 f0 f1 d0 d1 d2 hb3
        go_region_held3 (fun W => W.cell? ⟨fb, fo + k * 2 + 1, none⟩ = some (.int .i64 fs[k].k) ∧ W.cell? ⟨wr.heap.size, 0, none⟩ = some (.string cs[k].t) ∧ W.cell? ⟨wr.heap.size, 1, none⟩ = some (.int .u64 cs[k].n) ∧ W.cell? ⟨wr.heap.size, 2, none⟩ = some (.slice cs[k].la cs[k].l.length cs[k].lc)) (first | (exact q3) | go_keep)
          (first
            | (go_at_call 35
               refine HUC.out.mono ?_
               rintro e w5 ⟨rfl, hb5⟩
               have HB35 : Hid (Below w3.heap.size w3 w5) := ⟨hb5.os, hb5.tape, hb5.output, hb5.size, hb5.block⟩
               have q3 : w5.cell? ⟨fb, fo + k * 2 + 1, none⟩ = some (.int .i64 fs[k].k) ∧ w5.cell? ⟨wr.heap.size, 0, none⟩ = some (.string cs[k].t) ∧ w5.cell? ⟨wr.heap.size, 1, none⟩ = some (.int .u64 cs[k].n) ∧ w5.cell? ⟨wr.heap.size, 2, none⟩ = some (.slice cs[k].la cs[k].l.length cs[k].lc) := by
                 have hfl : fb < w3.heap.size := by omega
                 exact ⟨by rw [HB35.out.cell (by exact hfl)]; exact g1, by rw [HB35.out.cell (by exact hx3)]; exact b0, by rw [HB35.out.cell (by exact hx3)]; exact b1, by rw [HB35.out.cell (by exact hx3)]; exact b2⟩
               clear hb5))
        have HB5 : Hid (Below w.heap.size w w5) := HB3.out.trans (HB35.out.mono HB3.out.size)
        have b2' := q3.2.2.2
        clear q3 g1 b0 b1 b2 HB35 HUC HX3
        cases hu : usesB fs[k].k cs[k] with
        | false =>
          have HQ : Hid (71 = fitC fs cs) := by rw [Hid, HO.out, HS.out, if_pos hu]
          clear hu
          go_wp2
          go_ret
          exact ⟨ret_num HQ.out, HB5.out⟩
        | true =>
          by_cases h32 : 32 < cs[k].l.length
          · have HQ : Hid (72 = fitC fs cs) := by rw [Hid, HO.out, HS.out, hu, if_neg (by simp), if_pos h32]
            have q4 : (32 : Int) < (cs[k].l.length : Int) := by omega
            clear hu h32
            go_wp2
            go_ret
            exact ⟨ret_num HQ.out, HB5.out⟩
          · have HQ : Hid (fitL fs cs = fitL (fs.drop (k + 1)) (cs.drop (k + 1))) := by rw [Hid, HS.out, hu, if_neg (by simp), if_neg h32]
            have q4 : ¬ ((32 : Int) < (cs[k].l.length : Int)) := by omega
            clear hu h32
            go_wp2
            go_roundw
            case rel => exact ⟨k + 1, by omega, by go_num, HQ, HB5⟩
            case measure => simp [intOf]; omega
      · have HQ : Hid (0 = fitC fs cs) := by
          rw [Hid, HO.out, HE.out, List.drop_of_length_le (by have := HLE.out; omega)]
          rfl
        go_wp2
        go_ret
        exact ⟨ret_num HQ.out, HB.out⟩
  · have HO : Hid (70 = fitC fs cs) := by unfold fitC; rw [Hid, if_pos hl]
    have q1 : ((cs.length : Int) != (fs.length : Int)) = true := by simp; omega
    clear hl
    go_enter Try.func23, Try.ntmps23
    go_wp2
    go_ret
    exact ⟨ret_num HO.out, Below.refl _ _⟩
end Go.Proofs.Ytjbnbpclelbohaa
