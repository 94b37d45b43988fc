/- Layer 18 (json): Parse. -/
import Derived.Test.YtkpjfmnohdolaaaDoorJxVals
namespace Go.Proofs.YtkpjfmnohdolaaaDoor
open Go.RowKit Go.Sort
set_option linter.unusedVariables false

/-- The value that a text writes. -/
def parseJ (s : ByteArray) : Except Int Js := if 65536 < s.size then .error 180 else match valF (2 * s.size + 1) 0 (tl s 0) with
  | .error c => .error c
  | .ok (v, r) => if r = [] then .ok v else .error 181
/-- What Parse answers. -/
def PrR (w : World) (r : Except Int Js) (e : Ending) (w' : World) : Prop :=
  Below w.heap.size w w' ∧ match r with
  | .ok v => ∃ cs S, e = .returned (.tuple #[.agg cs, .int .i64 0]) ∧ JAt w' S v cs ∧ ∀ k, S k → w.heap.size ≤ k ∧ k < w'.heap.size
  | .error c => e = .returned (.tuple #[.agg jZ, .int .i64 c]) ∧ (c = 180 ∨ c = 181 ∨ c = 182 ∨ c = 183)

set_option maxRecDepth 100000 in
set_option maxHeartbeats 8000000 in
theorem parseJ_calls (s : ByteArray) (w : World) (hs : s.size ≤ 140737488351232) (hv : Vs w) :
    Calls Tryd.prog 11 #[.string s] w (PrR w (parseJ s)) := by
  obtain ⟨Q, HQ⟩ : ∃ Q, Hid (Q = parseJ s) := ⟨_, rfl⟩
  rw [← HQ.out]
  obtain ⟨w1, Hw1⟩ : ∃ w1, Hid (w1 = w.alloc (.cells jZ 26)) := ⟨_, rfl⟩
  obtain ⟨gr, Hg⟩ : ∃ gr, Hid (gr = w.heap.size) := ⟨_, rfl⟩
  have HB1 : Hid (Blk w1 gr jZ 26) := by rw [Hid, Hw1.out, Hg.out]; exact Blk.new _ _ _
  have HF1 : Hid (Below w.heap.size w w1) := by rw [Hid, Hw1.out]; exact below_new _ _
  have hgr : w.heap.size ≤ gr := by rw [Hg.out]; exact Nat.le_refl _
  have HV : Hid (Vs w) := hv
  clear hv
  unfold jZ jC at Hw1
  by_cases hlong : 65536 < s.size
  · have HE : Hid (Q = .error 180) := by rw [Hid, HQ.out, parseJ, if_pos hlong]
    have hlI : (65536 : Int) < (s.size : Int) := by omega
    go_enter Tryd.func11, Tryd.ntmps11
    go_upto_region 1 with fail
    rw [← Hw1.out, ← Hg.out]
    clear Hw1 Hg HQ
    obtain ⟨y0, y1, y2, y3, y4, z0, z1, z2, z3, z4⟩ := Blk.five HB1.out
    go_wp2
    change bodyPost _ _ _ _ _ (putC w1 gr 0 [.int .i64 0, .int .i64 0, .string ⟨#[]⟩, .slice none 0 0, .slice none 0 0])
    refine ret_cellE rfl rfl rfl rfl (load_js (putC_all HB1.out rfl) rfl) ?_
    rw [HE.out]
    exact ⟨putC_below _ _ _ HF1.out hgr, rfl, .inl rfl⟩
  · have HE : Hid (Q = match valF (2 * s.size + 1) 0 (tl s 0) with
      | .error c => .error c
      | .ok (v, r) => if r = [] then .ok v else .error 181) := by rw [Hid, HQ.out, parseJ, if_neg hlong]
    have hlI : ¬ (65536 : Int) < (s.size : Int) := by omega
    obtain ⟨w2, Hw2⟩ : ∃ w2, Hid (w2 = w1.alloc (.cells #[.string s, .int .i64 0] 59)) := ⟨_, rfl⟩
    obtain ⟨rb, Hrb⟩ : ∃ rb, Hid (rb = w1.heap.size) := ⟨_, rfl⟩
    have hb2 : Below w1.heap.size w1 w2 := by rw [Hw2.out]; exact below_new _ _
    have HF2 : Hid (Below w.heap.size w w2) := HF1.out.trans (hb2.mono HF1.out.size)
    have HB2 : Hid (Blk w2 gr jZ 26) := HB1.out.below hb2
    have hrg : rb ≠ gr := by
      have h1 := HB1.out.lt
      have h2 := Hrb.out
      omega
    have hrw : w.heap.size ≤ rb := by
      have h1 := HF1.out.size
      have h2 := Hrb.out
      omega
    have HRd : Hid (Rd w2 rb s 0 (tl s 0)) := ⟨by rw [Hw2.out, Hrb.out]; exact heap_alloc_new w1 _, Nat.zero_le _, rfl, by omega⟩
    have HC := vspec w s (2 * s.size + 1) (2 * s.size + 1) (Nat.le_refl _) 0 w2 rb 0 (tl s 0) ⟨HV.out, HF2.out, hrw⟩ HRd.out (by rw [tl_length]; omega) (by omega)
    clear hb2 HB1 HF1 HQ
    go_enter Tryd.func11, Tryd.ntmps11
    go_upto_region 1 with fail
    rw [← Hw1.out, ← Hg.out]
    clear Hw1 Hg
    go_upto_region 4 with fail
    rw [← Hw2.out, ← Hrb.out]
    clear Hw2 Hrb
    cases hr : valF (2 * s.size + 1) 0 (tl s 0) with
    | error c =>
      rw [hr] at HC
      have HE2 : Hid (Q = .error c) := by rw [Hid, HE.out, hr]
      clear hr HE
      go_wp2_with fail
      refine HC.mono ?_
      clear HC
      rintro e w3 ⟨f3, ⟨kk, rfl⟩, hcm, hr3⟩
      have hc0 : (c != 0) = true := by rcases hcm with h | h | h <;> subst h <;> rfl
      unfold jC
      obtain ⟨w4, Hw4⟩ : ∃ w4, Hid (w4 = w3.alloc (.cells #[.int .i64 kk, .int .i64 0, .string ⟨#[]⟩, .slice none 0 0, .slice none 0 0] 26)) := ⟨_, rfl⟩
      have hb4 : Below w3.heap.size w3 w4 := by rw [Hw4.out]; exact below_new _ _
      have hb3 : Below w.heap.size w w3 := HF2.out.trans (f3.toBelow HF2.out.size fun k e => by rw [e]; exact hrw)
      have HF4 : Hid (Below w.heap.size w w4) := hb3.trans (hb4.mono hb3.size)
      have HB4 : Hid (Blk w4 gr jZ 26) := (HB2.out.rd f3 (by omega)).below hb4
      clear hb4 hb3 f3 hr3 HF2 HB2
      go_upto_region 5 with fail
      rw [← Hw4.out]
      clear Hw4
      obtain ⟨y0, y1, y2, y3, y4, z0, z1, z2, z3, z4⟩ := Blk.five HB4.out
      go_wp2
      change bodyPost _ _ _ _ _ (putC w4 gr 0 [.int .i64 0, .int .i64 0, .string ⟨#[]⟩, .slice none 0 0, .slice none 0 0])
      refine ret_cellE rfl rfl rfl rfl (load_js (putC_all HB4.out rfl) rfl) ?_
      rw [HE2.out]
      exact ⟨putC_below _ _ _ HF4.out hgr, rfl, .inr hcm⟩
    | ok p =>
      obtain ⟨v, r⟩ := p
      rw [hr] at HC
      have HE2 : Hid (Q = if r = [] then .ok v else .error 181) := by rw [Hid, HE.out, hr]
      have hgl := HB2.out.lt
      clear hr HE
      go_wp2_with fail
      refine HC.mono ?_
      clear HC
      rintro e w3 ⟨f3, cs, S, rfl, ⟨n3, h3⟩, hj3, hs3⟩
      obtain ⟨xk, xn, xt, xa, xl, xc, ya, yl, yc, hcs⟩ := JAt.cs hj3
      subst hcs
      obtain ⟨w4, Hw4⟩ : ∃ w4, Hid (w4 = w3.alloc (.cells #[.int .i64 xk, .int .i64 xn, .string xt, .slice xa xl xc, .slice ya yl yc] 26)) := ⟨_, rfl⟩
      obtain ⟨gb, Hgb⟩ : ∃ gb, Hid (gb = w3.heap.size) := ⟨_, rfl⟩
      have hb4 : Below w3.heap.size w3 w4 := by rw [Hw4.out]; exact below_new _ _
      have hb3 : Below w.heap.size w w3 := HF2.out.trans (f3.toBelow HF2.out.size fun k e => by rw [e]; exact hrw)
      have HF4 : Hid (Below w.heap.size w w4) := hb3.trans (hb4.mono hb3.size)
      have HB4 : Hid (Blk w4 gr jZ 26) := (HB2.out.rd f3 (by omega)).below hb4
      have HBb : Hid (Blk w4 gb #[.int .i64 xk, .int .i64 xn, .string xt, .slice xa xl xc, .slice ya yl yc] 26) := by rw [Hid, Hw4.out, Hgb.out]; exact Blk.new _ _ _
      have hwl2 := HF2.out.size
      have HJ4 : Hid (JAt (putC w4 gr 0 [.int .i64 xk, .int .i64 xn, .string xt, .slice xa xl xc, .slice ya yl yc]) S v #[.int .i64 xk, .int .i64 xn, .string xt, .slice xa xl xc, .slice ya yl yc] ∧ ∀ k, S k → w.heap.size ≤ k ∧ k < w4.heap.size) :=
        ⟨JAt.frm (frm_put w4 gr _) (fun k hk e => by have := (hs3 k hk).1; omega) _ _ (JAt.frm (Frm.ofBelow hb4 (fun _ => False)) (fun _ _ h => h) _ _ hj3), fun k hk => by
          have h1 := hs3 k hk
          have h2 := hb4.size
          omega⟩
      have hR4 : Rd w4 rb s n3 r := h3.below hb4
      obtain ⟨-, c1, -⟩ := hR4.cells
      have hn3 := hR4.len
      clear hb4 hb3 f3 HF2 HB2 hj3 hs3 hgl hwl2 h3 hR4
      go_upto_region 5 with fail
      rw [← Hw4.out, ← Hgb.out]
      clear Hw4 Hgb
      by_cases hr0 : r = []
      · have HE3 : Hid (Q = .ok v) := by rw [Hid, HE2.out, if_pos hr0]
        have hne : ¬ ((n3 : Int) < (s.size : Int)) := by
          rw [hr0] at hn3
          simp at hn3
          omega
        clear hr0 HE2
        obtain ⟨x0, x1, x2, x3, x4, -⟩ := Blk.five HBb.out
        obtain ⟨y0, y1, y2, y3, y4, z0, z1, z2, z3, z4⟩ := Blk.five HB4.out
        go_wp2
        change bodyPost _ _ _ _ _ (putC w4 gr 0 [.int .i64 xk, .int .i64 xn, .string xt, .slice xa xl xc, .slice ya yl yc])
        refine ret_cellE rfl rfl rfl rfl (load_js (putC_all HB4.out rfl) rfl) ?_
        rw [HE3.out]
        exact ⟨putC_below _ _ _ HF4.out hgr, _, S, rfl, HJ4.out.1, fun k hk => by rw [putC_size]; exact HJ4.out.2 k hk⟩
      · have HE3 : Hid (Q = .error 181) := by rw [Hid, HE2.out, if_neg hr0]
        have hne : (n3 : Int) < (s.size : Int) := by
          have : 0 < r.length := by
            cases r with
            | nil => exact absurd rfl hr0
            | cons x l => simp
          omega
        clear hr0 HE2 HBb HJ4
        obtain ⟨y0, y1, y2, y3, y4, z0, z1, z2, z3, z4⟩ := Blk.five HB4.out
        go_wp2
        change bodyPost _ _ _ _ _ (putC w4 gr 0 [.int .i64 0, .int .i64 0, .string ⟨#[]⟩, .slice none 0 0, .slice none 0 0])
        refine ret_cellE rfl rfl rfl rfl (load_js (putC_all HB4.out rfl) rfl) ?_
        rw [HE3.out]
        exact ⟨putC_below _ _ _ HF4.out hgr, rfl, .inr (.inl rfl)⟩
end Go.Proofs.YtkpjfmnohdolaaaDoor
