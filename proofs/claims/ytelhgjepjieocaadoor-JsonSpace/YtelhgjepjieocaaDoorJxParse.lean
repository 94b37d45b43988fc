import Derived.Test.YtelhgjepjieocaaDoorJxValue
/- Layer 18 (json): value: every value is read so; Parse. -/
namespace Go.Proofs.YtelhgjepjieocaaDoor
open Go.RowKit Go.Sort
set_option linter.unusedVariables false

set_option maxRecDepth 100000 in
set_option maxHeartbeats 8000000 in
theorem value_calls (w0 : World) (K0 : Nat) (s : ByteArray) (IH : VSpec w0 s K0) (w : World) (rb n d : Nat) (l : List UInt8) (hb : Bs w0 w rb) (h : Rd w rb s n l) (hk : 2 * l.length + 1 ≤ K0 + 1) (hd : d ≤ 16) :
    Calls Tryd.prog 27 #[.pointer (some ⟨rb, 0, none⟩), .int .i64 (d : Int)] w (VlR w rb s (valF (K0 + 1) d l)) := by
  have hrb := lt_of_heapT h.blk
  have HIH : Hid (VSpec w0 s K0) := IH
  have HBs : Hid (Bs w0 w rb) := hb
  obtain ⟨Q, HQ⟩ : ∃ Q, Hid (Q = valF (K0 + 1) d l) := ⟨_, rfl⟩
  rw [← HQ.out]
  obtain ⟨w1, Hw1⟩ : ∃ w1, Hid (w1 = w.alloc (.cells jZ 26)) := ⟨_, rfl⟩
  obtain ⟨gr, Hg⟩ : ∃ gr, Hid (gr = w.heap.size) := ⟨_, rfl⟩
  have HB1 : Hid (Blk w1 gr jZ 26) := by rw [Hid, Hw1.out, Hg.out]; exact Blk.new _ _ _
  have HF1 : Hid (Frm (fun k => k = rb) w w1) := by rw [Hid, Hw1.out]; exact Frm.ofBelow (below_new _ _) _
  have HR1 : Rd w1 rb s n l := by rw [Hw1.out]; exact h.below (below_new _ _)
  have hgr : w.heap.size ≤ gr := by rw [Hg.out]; exact Nat.le_refl _
  have hrg : rb ≠ gr := by omega
  have HSK := skip_calls w1 rb n s l HR1
  have HKK : Hid (2 * (spL l).length + 1 ≤ K0 + 1 ∧ d ≤ 16) := ⟨by have := spL_len l; omega, hd⟩
  clear h hb IH hk hd HR1
  unfold jZ jC at Hw1
  go_enter Tryd.func27, Tryd.ntmps27
  go_upto_region 1 with fail
  rw [← Hw1.out, ← Hg.out]
  clear Hw1 Hg
  go_wp2_with fail
  refine HSK.mono ?_
  clear HSK
  rintro e wa ⟨rfl, ⟨na, ha⟩, fa⟩
  have HF : Hid (Frm (fun k => k = rb) w wa) := HF1.out.trans fa
  have HB : Hid (Blk wa gr jZ 26) := HB1.out.rd fa (by omega)
  have HC := bareValue_calls w0 K0 s HIH.out wa rb na d (spL l) (HBs.out.frm HF.out) ha HKK.out.1 HKK.out.2
  clear HF1 HB1 ha fa HKK HIH HBs
  cases hr : bareF (K0 + 1) d (spL l) with
  | error c =>
    rw [hr] at HC
    have HE2 : Hid (Q = .error c) := by rw [Hid, HQ.out, valF, hr]; rfl
    clear hr HQ
    go_wp2_with fail
    refine HC.mono ?_
    clear HC
    rintro e w2 ⟨f2, ⟨kk, rfl⟩, hcm, l2, n2, h2⟩
    unfold jC
    obtain ⟨w3, Hw3⟩ : ∃ w3, Hid (w3 = w2.alloc (.cells #[.int .i64 kk, .int .i64 0, .string ⟨#[]⟩, .slice none 0 0, .slice none 0 0] 26)) := ⟨_, rfl⟩
    obtain ⟨gb, Hgb⟩ : ∃ gb, Hid (gb = w2.heap.size) := ⟨_, rfl⟩
    have hb3 : Below w2.heap.size w2 w3 := by rw [Hw3.out]; exact below_new _ _
    have HBb : Hid (Blk w3 gb #[.int .i64 kk, .int .i64 0, .string ⟨#[]⟩, .slice none 0 0, .slice none 0 0] 26) := by rw [Hid, Hw3.out, Hgb.out]; exact Blk.new _ _ _
    have HF3 : Hid (Frm (fun k => k = rb) w w3) := (HF.out.trans f2).trans (Frm.ofBelow hb3 _)
    have HB3 : Hid (Blk w3 gr jZ 26) := (HB.out.rd f2 (by omega)).below hb3
    have hgb : gb ≠ rb := by
      have h1 := Hgb.out
      have h2 := HF.out.size
      have h3 := f2.size
      omega
    have HSK := skip_calls w3 rb n2 s l2 (h2.below hb3)
    clear f2 h2 hb3
    go_upto_region 3 with fail
    rw [← Hw3.out, ← Hgb.out]
    clear Hw3 Hgb
    go_wp2_with fail
    refine HSK.mono ?_
    clear HSK
    rintro e w4 ⟨rfl, ⟨n4, h4⟩, f4⟩
    have HR4 : Hid (Rd w4 rb s n4 (spL l2)) := h4
    have HF4 : Hid (Frm (fun k => k = rb) w w4) := HF3.out.trans f4
    have HB4 : Hid (Blk w4 gr jZ 26) := HB3.out.rd f4 (by omega)
    have HBb4 : Hid (Blk w4 gb #[.int .i64 kk, .int .i64 0, .string ⟨#[]⟩, .slice none 0 0, .slice none 0 0] 26) := HBb.out.rd f4 hgb
    clear h4 f4 HF3 HB3 HBb HF HB
    obtain ⟨x0, x1, x2, x3, x4, -⟩ := Blk.five HBb4.out
    obtain ⟨y0, y1, y2, y3, y4, z0, z1, z2, z3, z4⟩ := Blk.five HB4.out
    go_wp2
    change bodyPost _ _ _ _ _ (putC w4 gr 0 [.int .i64 kk, .int .i64 0, .string ⟨#[]⟩, .slice none 0 0, .slice none 0 0])
    refine ret_cellE rfl rfl rfl rfl (load_js (putC_all HB4.out rfl) rfl) ?_
    rw [HE2.out]
    exact ⟨HF4.out.put _ _ 0 hgr, ⟨kk, rfl⟩, hcm, _, n4, HR4.out.put hrg _⟩
  | ok p =>
    obtain ⟨v, r⟩ := p
    rw [hr] at HC
    have HE2 : Hid (Q = .ok (v, spL r)) := by rw [Hid, HQ.out, valF, hr]; rfl
    clear hr HQ
    have hgl := HB.out.lt
    have hwl := HF.out.size
    go_wp2_with fail
    refine HC.mono ?_
    clear HC
    rintro e w2 ⟨f2, cs, S, rfl, ⟨n2, h2⟩, hj2, hs2⟩
    obtain ⟨xk, xn, xt, xa, xl, xc, ya, yl, yc, hcs⟩ := JAt.cs hj2
    subst hcs
    obtain ⟨w3, Hw3⟩ : ∃ w3, Hid (w3 = w2.alloc (.cells #[.int .i64 xk, .int .i64 xn, .string xt, .slice xa xl xc, .slice ya yl yc] 26)) := ⟨_, rfl⟩
    obtain ⟨gb, Hgb⟩ : ∃ gb, Hid (gb = w2.heap.size) := ⟨_, rfl⟩
    have hb3 : Below w2.heap.size w2 w3 := by rw [Hw3.out]; exact below_new _ _
    have HBb : Hid (Blk w3 gb #[.int .i64 xk, .int .i64 xn, .string xt, .slice xa xl xc, .slice ya yl yc] 26) := by rw [Hid, Hw3.out, Hgb.out]; exact Blk.new _ _ _
    have HF3 : Hid (Frm (fun k => k = rb) w w3) := (HF.out.trans f2).trans (Frm.ofBelow hb3 _)
    have HB3 : Hid (Blk w3 gr jZ 26) := (HB.out.rd f2 (by omega)).below hb3
    have hgb : gb ≠ rb := by
      have h1 := Hgb.out
      have h2 := f2.size
      omega
    have HJ3 : Hid (JAt w3 S v #[.int .i64 xk, .int .i64 xn, .string xt, .slice xa xl xc, .slice ya yl yc] ∧ ∀ k, S k → w.heap.size ≤ k ∧ k < w3.heap.size ∧ k ≠ gr ∧ k ≠ rb) := ⟨JAt.frm (Frm.ofBelow hb3 (fun _ => False)) (fun _ _ h => h) _ _ hj2, fun k hk => by
      have h1 := hs2 k hk
      have h2 := hb3.size
      omega⟩
    have HSK := skip_calls w3 rb n2 s r (h2.below hb3)
    clear f2 h2 hb3 hj2 hs2 hgl hwl
    go_upto_region 3 with fail
    rw [← Hw3.out, ← Hgb.out]
    clear Hw3 Hgb
    go_wp2_with fail
    refine HSK.mono ?_
    clear HSK
    rintro e w4 ⟨rfl, ⟨n4, h4⟩, f4⟩
    have HR4 : Hid (Rd w4 rb s n4 (spL r)) := h4
    have HF4 : Hid (Frm (fun k => k = rb) w w4) := HF3.out.trans f4
    have HB4 : Hid (Blk w4 gr jZ 26) := HB3.out.rd f4 (by omega)
    have HBb4 : Hid (Blk w4 gb #[.int .i64 xk, .int .i64 xn, .string xt, .slice xa xl xc, .slice ya yl yc] 26) := HBb.out.rd f4 hgb
    have HJ4 : Hid (JAt (putC w4 gr 0 [.int .i64 xk, .int .i64 xn, .string xt, .slice xa xl xc, .slice ya yl yc]) S v #[.int .i64 xk, .int .i64 xn, .string xt, .slice xa xl xc, .slice ya yl yc] ∧ ∀ k, S k → w.heap.size ≤ k ∧ k < w4.heap.size) :=
      ⟨JAt.frm (frm_put w4 gr _) (fun k hk e => (HJ3.out.2 k hk).2.2.1 e) _ _ (JAt.frm f4 (fun k hk e => (HJ3.out.2 k hk).2.2.2 e) _ _ HJ3.out.1), fun k hk => by
        have h1 := HJ3.out.2 k hk
        have h2 := f4.size
        omega⟩
    clear h4 f4 HF3 HB3 HBb HF HB HJ3
    obtain ⟨x0, x1, x2, x3, x4, -⟩ := Blk.five HBb4.out
    obtain ⟨y0, y1, y2, y3, y4, z0, z1, z2, z3, z4⟩ := Blk.five HB4.out
    go_wp2
    change bodyPost _ _ _ _ _ (putC w4 gr 0 [.int .i64 xk, .int .i64 xn, .string xt, .slice xa xl xc, .slice ya yl yc])
    refine ret_cellE rfl rfl rfl rfl (load_js (putC_all HB4.out rfl) rfl) ?_
    rw [HE2.out]
    exact ⟨HF4.out.put _ _ 0 hgr, _, S, rfl, ⟨n4, HR4.out.put hrg _⟩, HJ4.out.1, fun k hk => by rw [putC_size]; exact HJ4.out.2 k hk⟩

/-- Every value is read as the plain function reads it. -/
theorem vspec (w0 : World) (s : ByteArray) : ∀ (K0 : Nat), VSpec w0 s K0
  | 0 => fun k hk d w rb n l _ _ h _ => by omega
  | K0 + 1 => fun k hk d w rb n l hb hr hl hd => by
    rcases Nat.lt_or_ge k (K0 + 1) with h | h
    · exact vspec w0 s K0 k (by omega) d w rb n l hb hr hl hd
    · obtain rfl : k = K0 + 1 := by omega
      exact value_calls w0 K0 s (vspec w0 s K0) w rb n d l hb hr hl hd
end Go.Proofs.YtelhgjepjieocaaDoor

/- Layer 18 (json): Parse. -/
namespace Go.Proofs.YtelhgjepjieocaaDoor
open Go.RowKit Go.Sort
set_option linter.unusedVariables false

/-- The value that a text writes. -/
def parseJ (s : ByteArray) : Except Int Js := if 65536 < s.size then .error 180 else match valF (2 * s.size + 1) 0 (tl s 0) with
  | .error c => .error c
  | .ok (v, r) => if r = [] then .ok v else .error 181
/-- What Parse answers. -/
def PrR (w : World) (r : Except Int Js) (e : Ending) (w' : World) : Prop :=
  Below w.heap.size w w' ∧ match r with
  | .ok v => ∃ cs S, e = .returned (.tuple #[.agg cs, .int .i64 0]) ∧ JAt w' S v cs ∧ ∀ k, S k → w.heap.size ≤ k ∧ k < w'.heap.size
  | .error c => e = .returned (.tuple #[.agg jZ, .int .i64 c]) ∧ (c = 180 ∨ c = 181 ∨ c = 182 ∨ c = 183)

set_option maxRecDepth 100000 in
set_option maxHeartbeats 8000000 in
theorem parseJ_calls (s : ByteArray) (w : World) (hs : s.size ≤ 140737488351232) (hv : Vs w) :
    Calls Tryd.prog 11 #[.string s] w (PrR w (parseJ s)) := by
  obtain ⟨Q, HQ⟩ : ∃ Q, Hid (Q = parseJ s) := ⟨_, rfl⟩
  rw [← HQ.out]
  obtain ⟨w1, Hw1⟩ : ∃ w1, Hid (w1 = w.alloc (.cells jZ 26)) := ⟨_, rfl⟩
  obtain ⟨gr, Hg⟩ : ∃ gr, Hid (gr = w.heap.size) := ⟨_, rfl⟩
  have HB1 : Hid (Blk w1 gr jZ 26) := by rw [Hid, Hw1.out, Hg.out]; exact Blk.new _ _ _
  have HF1 : Hid (Below w.heap.size w w1) := by rw [Hid, Hw1.out]; exact below_new _ _
  have hgr : w.heap.size ≤ gr := by rw [Hg.out]; exact Nat.le_refl _
  have HV : Hid (Vs w) := hv
  clear hv
  unfold jZ jC at Hw1
  by_cases hlong : 65536 < s.size
  · have HE : Hid (Q = .error 180) := by rw [Hid, HQ.out, parseJ, if_pos hlong]
    have hlI : (65536 : Int) < (s.size : Int) := by omega
    go_enter Tryd.func11, Tryd.ntmps11
    go_upto_region 1 with fail
    rw [← Hw1.out, ← Hg.out]
    clear Hw1 Hg HQ
    obtain ⟨y0, y1, y2, y3, y4, z0, z1, z2, z3, z4⟩ := Blk.five HB1.out
    go_wp2
    change bodyPost _ _ _ _ _ (putC w1 gr 0 [.int .i64 0, .int .i64 0, .string ⟨#[]⟩, .slice none 0 0, .slice none 0 0])
    refine ret_cellE rfl rfl rfl rfl (load_js (putC_all HB1.out rfl) rfl) ?_
    rw [HE.out]
    exact ⟨putC_below _ _ _ HF1.out hgr, rfl, .inl rfl⟩
  · have HE : Hid (Q = match valF (2 * s.size + 1) 0 (tl s 0) with
      | .error c => .error c
      | .ok (v, r) => if r = [] then .ok v else .error 181) := by rw [Hid, HQ.out, parseJ, if_neg hlong]
    have hlI : ¬ (65536 : Int) < (s.size : Int) := by omega
    obtain ⟨w2, Hw2⟩ : ∃ w2, Hid (w2 = w1.alloc (.cells #[.string s, .int .i64 0] 61)) := ⟨_, rfl⟩
    obtain ⟨rb, Hrb⟩ : ∃ rb, Hid (rb = w1.heap.size) := ⟨_, rfl⟩
    have hb2 : Below w1.heap.size w1 w2 := by rw [Hw2.out]; exact below_new _ _
    have HF2 : Hid (Below w.heap.size w w2) := HF1.out.trans (hb2.mono HF1.out.size)
    have HB2 : Hid (Blk w2 gr jZ 26) := HB1.out.below hb2
    have hrg : rb ≠ gr := by
      have h1 := HB1.out.lt
      have h2 := Hrb.out
      omega
    have hrw : w.heap.size ≤ rb := by
      have h1 := HF1.out.size
      have h2 := Hrb.out
      omega
    have HRd : Hid (Rd w2 rb s 0 (tl s 0)) := ⟨by rw [Hw2.out, Hrb.out]; exact heap_alloc_new w1 _, Nat.zero_le _, rfl, by omega⟩
    have HC := vspec w s (2 * s.size + 1) (2 * s.size + 1) (Nat.le_refl _) 0 w2 rb 0 (tl s 0) ⟨HV.out, HF2.out, hrw⟩ HRd.out (by rw [tl_length]; omega) (by omega)
    clear hb2 HB1 HF1 HQ
    go_enter Tryd.func11, Tryd.ntmps11
    go_upto_region 1 with fail
    rw [← Hw1.out, ← Hg.out]
    clear Hw1 Hg
    go_upto_region 4 with fail
    rw [← Hw2.out, ← Hrb.out]
    clear Hw2 Hrb
    cases hr : valF (2 * s.size + 1) 0 (tl s 0) with
    | error c =>
      rw [hr] at HC
      have HE2 : Hid (Q = .error c) := by rw [Hid, HE.out, hr]
      clear hr HE
      go_wp2_with fail
      refine HC.mono ?_
      clear HC
      rintro e w3 ⟨f3, ⟨kk, rfl⟩, hcm, hr3⟩
      have hc0 : (c != 0) = true := by rcases hcm with h | h | h <;> subst h <;> rfl
      unfold jC
      obtain ⟨w4, Hw4⟩ : ∃ w4, Hid (w4 = w3.alloc (.cells #[.int .i64 kk, .int .i64 0, .string ⟨#[]⟩, .slice none 0 0, .slice none 0 0] 26)) := ⟨_, rfl⟩
      have hb4 : Below w3.heap.size w3 w4 := by rw [Hw4.out]; exact below_new _ _
      have hb3 : Below w.heap.size w w3 := HF2.out.trans (f3.toBelow HF2.out.size fun k e => by rw [e]; exact hrw)
      have HF4 : Hid (Below w.heap.size w w4) := hb3.trans (hb4.mono hb3.size)
      have HB4 : Hid (Blk w4 gr jZ 26) := (HB2.out.rd f3 (by omega)).below hb4
      clear hb4 hb3 f3 hr3 HF2 HB2
      go_upto_region 5 with fail
      rw [← Hw4.out]
      clear Hw4
      obtain ⟨y0, y1, y2, y3, y4, z0, z1, z2, z3, z4⟩ := Blk.five HB4.out
      go_wp2
      change bodyPost _ _ _ _ _ (putC w4 gr 0 [.int .i64 0, .int .i64 0, .string ⟨#[]⟩, .slice none 0 0, .slice none 0 0])
      refine ret_cellE rfl rfl rfl rfl (load_js (putC_all HB4.out rfl) rfl) ?_
      rw [HE2.out]
      exact ⟨putC_below _ _ _ HF4.out hgr, rfl, .inr hcm⟩
    | ok p =>
      obtain ⟨v, r⟩ := p
      rw [hr] at HC
      have HE2 : Hid (Q = if r = [] then .ok v else .error 181) := by rw [Hid, HE.out, hr]
      have hgl := HB2.out.lt
      clear hr HE
      go_wp2_with fail
      refine HC.mono ?_
      clear HC
      rintro e w3 ⟨f3, cs, S, rfl, ⟨n3, h3⟩, hj3, hs3⟩
      obtain ⟨xk, xn, xt, xa, xl, xc, ya, yl, yc, hcs⟩ := JAt.cs hj3
      subst hcs
      obtain ⟨w4, Hw4⟩ : ∃ w4, Hid (w4 = w3.alloc (.cells #[.int .i64 xk, .int .i64 xn, .string xt, .slice xa xl xc, .slice ya yl yc] 26)) := ⟨_, rfl⟩
      obtain ⟨gb, Hgb⟩ : ∃ gb, Hid (gb = w3.heap.size) := ⟨_, rfl⟩
      have hb4 : Below w3.heap.size w3 w4 := by rw [Hw4.out]; exact below_new _ _
      have hb3 : Below w.heap.size w w3 := HF2.out.trans (f3.toBelow HF2.out.size fun k e => by rw [e]; exact hrw)
      have HF4 : Hid (Below w.heap.size w w4) := hb3.trans (hb4.mono hb3.size)
      have HB4 : Hid (Blk w4 gr jZ 26) := (HB2.out.rd f3 (by omega)).below hb4
      have HBb : Hid (Blk w4 gb #[.int .i64 xk, .int .i64 xn, .string xt, .slice xa xl xc, .slice ya yl yc] 26) := by rw [Hid, Hw4.out, Hgb.out]; exact Blk.new _ _ _
      have hwl2 := HF2.out.size
      have HJ4 : Hid (JAt (putC w4 gr 0 [.int .i64 xk, .int .i64 xn, .string xt, .slice xa xl xc, .slice ya yl yc]) S v #[.int .i64 xk, .int .i64 xn, .string xt, .slice xa xl xc, .slice ya yl yc] ∧ ∀ k, S k → w.heap.size ≤ k ∧ k < w4.heap.size) :=
        ⟨JAt.frm (frm_put w4 gr _) (fun k hk e => by have := (hs3 k hk).1; omega) _ _ (JAt.frm (Frm.ofBelow hb4 (fun _ => False)) (fun _ _ h => h) _ _ hj3), fun k hk => by
          have h1 := hs3 k hk
          have h2 := hb4.size
          omega⟩
      have hR4 : Rd w4 rb s n3 r := h3.below hb4
      obtain ⟨-, c1, -⟩ := hR4.cells
      have hn3 := hR4.len
      clear hb4 hb3 f3 HF2 HB2 hj3 hs3 hgl hwl2 h3 hR4
      go_upto_region 5 with fail
      rw [← Hw4.out, ← Hgb.out]
      clear Hw4 Hgb
      by_cases hr0 : r = []
      · have HE3 : Hid (Q = .ok v) := by rw [Hid, HE2.out, if_pos hr0]
        have hne : ¬ ((n3 : Int) < (s.size : Int)) := by
          rw [hr0] at hn3
          simp at hn3
          omega
        clear hr0 HE2
        obtain ⟨x0, x1, x2, x3, x4, -⟩ := Blk.five HBb.out
        obtain ⟨y0, y1, y2, y3, y4, z0, z1, z2, z3, z4⟩ := Blk.five HB4.out
        go_wp2
        change bodyPost _ _ _ _ _ (putC w4 gr 0 [.int .i64 xk, .int .i64 xn, .string xt, .slice xa xl xc, .slice ya yl yc])
        refine ret_cellE rfl rfl rfl rfl (load_js (putC_all HB4.out rfl) rfl) ?_
        rw [HE3.out]
        exact ⟨putC_below _ _ _ HF4.out hgr, _, S, rfl, HJ4.out.1, fun k hk => by rw [putC_size]; exact HJ4.out.2 k hk⟩
      · have HE3 : Hid (Q = .error 181) := by rw [Hid, HE2.out, if_neg hr0]
        have hne : (n3 : Int) < (s.size : Int) := by
          have : 0 < r.length := by
            cases r with
            | nil => exact absurd rfl hr0
            | cons x l => simp
          omega
        clear hr0 HE2 HBb HJ4
        obtain ⟨y0, y1, y2, y3, y4, z0, z1, z2, z3, z4⟩ := Blk.five HB4.out
        go_wp2
        change bodyPost _ _ _ _ _ (putC w4 gr 0 [.int .i64 0, .int .i64 0, .string ⟨#[]⟩, .slice none 0 0, .slice none 0 0])
        refine ret_cellE rfl rfl rfl rfl (load_js (putC_all HB4.out rfl) rfl) ?_
        rw [HE3.out]
        exact ⟨putC_below _ _ _ HF4.out hgr, rfl, .inr (.inl rfl)⟩
end Go.Proofs.YtelhgjepjieocaaDoor
