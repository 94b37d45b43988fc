import Derived.Test.YtelhgjepjieocaaDoorJxRw
import Derived.Test.YtelhgjepjieocaaDoorJxSnd2
import Derived.Test.YtelhgjepjieocaaDoorJxRfA
import Derived.Test.YtelhgjepjieocaaDoorScBase
import Derived.Deep.Slices
import Derived.OpenShut
import Derived.SizedLaws
import Derived.ProofKit
/- Layer 18 (json): the document's Print. -/
namespace Go.Proofs.YtelhgjepjieocaaDoor
open Go.RowKit Go.MapKept Go.Sort
set_option linter.unusedVariables false

theorem docW_byt {v : Js} (hs : soundJ v 0 = true) (h : ¬ 65536 < (docW v []).length) : Byt (docW v []) := by
  have hl := valP_lk v 0 [] [] hs (.inl rfl)
  rcases hl with e | ⟨_, h2⟩
  · rw [← e]; exact byt_valP v [] (fun c hc => by cases hc)
  · exact absurd h2 h
set_option maxRecDepth 100000 in
set_option maxHeartbeats 4000000 in
theorem refPrint_calls (v : Js) (w : World) (S : Nat → Prop) (cs : Array Value) (hr : Rng v) (hsm : Sml v) (hj : JAt w S v cs) (hSB : ∀ k, S k → k < w.heap.size) :
    Calls Tryd.prog 14 #[.agg cs] w (fun e w' => e = .returned (.tuple #[.string ⟨(bytesOfN (printJ v).1).toArray⟩, .int .i64 (printJ v).2]) ∧ Below w.heap.size w w') := by
  rw [← refPrJ_eq]
  obtain ⟨Q, HQ⟩ : ∃ Q : List Nat × Int, Hid (Q = refPrJ v) := ⟨refPrJ v, (Eq.refl _ : refPrJ v = _)⟩
  rw [← HQ.out]
  obtain ⟨xk, xn, xt, xa, xl, xc, ya, yl, yc, hcs⟩ := JAt.cs hj
  subst hcs
  obtain ⟨w1, Hw1⟩ : ∃ w1, Hid (w1 = w.alloc (.cells #[.int .i64 xk, .int .i64 xn, .string xt, .slice xa xl xc, .slice ya yl yc] 26)) := ⟨_, rfl⟩
  obtain ⟨g, Hg⟩ : ∃ g, Hid (g = w.heap.size) := ⟨_, rfl⟩
  have HB1 : Hid (Blk w1 g #[.int .i64 xk, .int .i64 xn, .string xt, .slice xa xl xc, .slice ya yl yc] 26) := by rw [Hid, Hw1.out, Hg.out]; exact Blk.new _ _ _
  have HF1 : Hid (Below w.heap.size w w1) := by rw [Hid, Hw1.out]; exact below_new _ _
  have HJ : Hid (JAt w1 S v #[.int .i64 xk, .int .i64 xn, .string xt, .slice xa xl xc, .slice ya yl yc]) := hj.below HF1.out
  have HR : Hid (Rng v ∧ (∀ k, S k → k < w.heap.size) ∧ Sml v) := ⟨hr, hSB, hsm⟩
  obtain ⟨sv, Hsv⟩ : ∃ sv, Hid (sv = soundJ v 0) := ⟨soundJ v 0, rfl⟩
  have HS := specR v 0 w1 S _ (by omega) HR.out.1 HJ.out
  rw [← Hsv.out, show ((0 : Nat) : Int) + 1 = 1 from rfl] at HS
  obtain ⟨x0, x1, x2, x3, x4, -⟩ := Blk.five HB1.out
  clear hr hj hSB hsm
  go_enter Tryd.func14, Tryd.ntmps14
  go_upto_region 1 with fail
  rw [← Hw1.out, ← Hg.out]
  clear Hw1 Hg
  go_wp2_with fail
  refine HS.mono ?_
  clear HS x0 x1 x2 x3 x4
  rintro e w2 ⟨rfl, hb2⟩
  have HB2 : Hid (Blk w2 g #[.int .i64 xk, .int .i64 xn, .string xt, .slice xa xl xc, .slice ya yl yc] 26 ∧ Below w.heap.size w w2) := ⟨HB1.out.below hb2, HF1.out.trans (hb2.mono HF1.out.size)⟩
  have HJ2 : Hid (JAt w2 S v #[.int .i64 xk, .int .i64 xn, .string xt, .slice xa xl xc, .slice ya yl yc]) := HJ.out.below hb2
  clear HB1 HF1 HJ hb2
  cases sv with
  | false =>
    have HV : Hid (Q = ([], 184)) := by rw [Hid, HQ.out]; unfold refPrJ; rw [← Hsv.out]; rfl
    go_wp2
    go_ret2
    exact ⟨by rw [HV.out]; rfl, HB2.out.2⟩
  | true =>
    obtain ⟨w3, Hw3⟩ : ∃ w3, Hid (w3 = w2.alloc (.cells #[] 5)) := ⟨_, rfl⟩
    obtain ⟨g3, Hg3⟩ : ∃ g3, Hid (g3 = w2.heap.size) := ⟨_, rfl⟩
    have hb3 : Below w2.heap.size w2 w3 := by rw [Hw3.out]; exact below_new _ _
    have HO3 : Hid (Ow w3 w2.heap.size 5 (.slice (some ⟨g3, 0, none⟩) 0 0) (nbs []) ∧ w2.heap.size ≤ w3.heap.size ∧ Below w.heap.size w w3) := ⟨by rw [Hw3.out, Hg3.out]; exact emptyB w2, hb3.size, HB2.out.2.trans (hb3.mono HB2.out.2.size)⟩
    have HB3 : Hid (Blk w3 g #[.int .i64 xk, .int .i64 xn, .string xt, .slice xa xl xc, .slice ya yl yc] 26) := HB2.out.1.below hb3
    have HC := specW v 0 w3 S _ w2.heap.size (.slice (some ⟨g3, 0, none⟩) 0 0) [] Hsv.out.symm HR.out.1 HR.out.2.2 (HJ2.out.below hb3) (fun k hk => Nat.lt_of_lt_of_le (HR.out.2.1 k hk) HB2.out.2.size) HO3.out.1 HO3.out.2.1
    obtain ⟨L, HL⟩ : ∃ L : List Nat, Hid (L = docW v []) := ⟨docW v [], (Eq.refl _ : docW v [] = _)⟩
    rw [← HL.out] at HC
    have HV : Hid (Q = if 65536 < L.length then ([], 180) else (L, 0)) := by rw [Hid, HQ.out]; unfold refPrJ; rw [← Hsv.out, HL.out]; rfl
    have HY : Hid (¬ 65536 < L.length → Byt L) := fun h => by rw [HL.out] at h ⊢; exact docW_byt Hsv.out.symm h
    have hsz2 := HB2.out.2.size
    clear hb3
    go_upto_region 3 with fail
    obtain ⟨x0, x1, x2, x3, x4, -⟩ := Blk.five HB3.out
    have y0 : (w2.alloc (.cells #[] 5)).cell? ⟨g, 0, none⟩ = some (.int .i64 xk) := by rw [← Hw3.out]; exact x0
    have y1 : (w2.alloc (.cells #[] 5)).cell? ⟨g, 1, none⟩ = some (.int .i64 xn) := by rw [← Hw3.out]; exact x1
    have y2 : (w2.alloc (.cells #[] 5)).cell? ⟨g, 2, none⟩ = some (.string xt) := by rw [← Hw3.out]; exact x2
    have y3 : (w2.alloc (.cells #[] 5)).cell? ⟨g, 3, none⟩ = some (.slice xa xl xc) := by rw [← Hw3.out]; exact x3
    have y4 : (w2.alloc (.cells #[] 5)).cell? ⟨g, 4, none⟩ = some (.slice ya yl yc) := by rw [← Hw3.out]; exact x4
    go_wp2_with fail
    rw [← Hw3.out, ← Hg3.out]
    clear x0 x1 x2 x3 x4 y0 y1 y2 y3 y4
    refine HC.mono ?_
    clear HC
    rintro e w4 ⟨v4, rfl, ho4, hg4⟩
    obtain ⟨a4, c4, rfl, -, -, -⟩ := ho4.shape
    have HB4 : Hid (Below w.heap.size w w4) := by
      have h1 : Below w2.heap.size w3 w4 := hg4.toBelow HO3.out.2.1 (fun q hq => (World.ownsRow.lt HO3.out.1 q hq).1)
      exact HO3.out.2.2.trans (h1.mono hsz2)
    have HST := fun h => ow_string (l := bytesOfN L) (by rw [← nbs_bs (HY.out h)]; exact ho4)
    rw [nbs_length] at HST ⊢
    clear ho4 hg4 HO3 HB3 Hw3 Hg3
    by_cases h65 : 65536 < L.length
    · have i65 : (65536 : Int) < (L.length : Int) := by omega
      have HN : Hid (Q = ([], 180)) := by rw [Hid, HV.out, if_pos h65]
      clear h65 HST
      go_wp2
      go_ret2
      exact ⟨by rw [HN.out]; rfl, HB4.out⟩
    · have i65 : ¬ ((65536 : Int) < (L.length : Int)) := by omega
      have HN : Hid (Q = (L, 0)) := by rw [Hid, HV.out, if_neg h65]
      have hst := HST h65
      clear h65 HST
      go_wp2
      go_ret2
      exact ⟨by rw [HN.out]; rfl, HB4.out⟩
end Go.Proofs.YtelhgjepjieocaaDoor

/- Layer 18 (json): the law's own parts: it comes back with some number. -/
namespace Go.Proofs.YtelhgjepjieocaaDoor
open Go.RowKit Go.MapKept Go.Sort
set_option linter.unusedVariables false

def SpecN (v : Js) : Prop := ∀ (m : Int) (w : World) (S : Nat → Prop) (cs : Array Value), -1000000 ≤ m → m ≤ 1000000 → Rng v → JAt w S v cs → Calls Tryd.prog 13 #[.agg cs, .int .i64 m] w fun e w' => (∃ r : Int, e = .returned (.int .i64 r) ∧ 1 ≤ r ∧ (r ≤ m ∨ r ≤ 1)) ∧ Below w.heap.size w w'
set_option maxRecDepth 100000 in
set_option maxHeartbeats 2000000 in
theorem parts_of (k n : Int) (t : List UInt8) (ns : List (List UInt8)) (its : List Js) (IH : ∀ x ∈ its, SpecN x) : SpecN (.mk k n t ns its) := by
  intro m w S cs hm1 hm2 hr hj
  unfold Rng at hr
  obtain ⟨-, -, r3, r4, -, r6⟩ := hr
  unfold JAt at hj
  obtain ⟨na, nc, ia, ic, rfl, h2, h3, h4, h5⟩ := hj
  obtain ⟨nl, hnl⟩ : ∃ nl, nl = ns.length := ⟨_, rfl⟩
  obtain ⟨il, hil⟩ : ∃ il, il = its.length := ⟨_, rfl⟩
  obtain ⟨tb, htb⟩ : ∃ tb, tb = nmB t := ⟨_, rfl⟩
  rw [← hnl, ← hil, ← htb]
  rw [← hnl] at r3
  rw [← hil] at r4
  have HIH : Hid ((∀ x ∈ its, SpecN x) ∧ Rngs its ∧ its.length = il) := ⟨IH, r6, hil.symm⟩
  have HII : Hid (ItAt w S ia 0 its ∧ ∀ a, ia = some a → its ≠ [] → S a.block) := ⟨h5, h4⟩
  clear IH r6 hnl hil htb h2 h3 h4 h5
  obtain ⟨w1, Hw1⟩ : ∃ w1, Hid (w1 = w.alloc (.cells #[.int .i64 k, .int .i64 n, .string tb, .slice na nl nc, .slice ia il ic] 26)) := ⟨_, rfl⟩
  obtain ⟨ga, Hga⟩ : ∃ ga, Hid (ga = w.heap.size) := ⟨_, rfl⟩
  have hb1 : Below w.heap.size w w1 := by rw [Hw1.out]; exact below_new _ _
  have HBk : Blk w1 ga #[.int .i64 k, .int .i64 n, .string tb, .slice na nl nc, .slice ia il ic] 26 := by rw [Hw1.out, Hga.out]; exact Blk.new _ _ _
  have HB1 : Hid (Below w.heap.size w w1) := hb1
  obtain ⟨x0, x1, x2, x3, x4, -⟩ := Blk.five HBk
  clear hb1 HBk
  unfold jC
  go_enter Tryd.func13, Tryd.ntmps13
  go_upto_region 1 with fail
  rw [← Hw1.out, ← Hga.out]
  clear Hw1 Hga
  go_wp2
  go_loopw [5, 11] (fun x i wr => ∃ (j : Nat) (r : Int), j ≤ il ∧ x = .int .i64 r ∧ i = .int .i64 (j : Int) ∧ (1 ≤ r ∧ (r ≤ m ∨ r ≤ 1)) ∧ Hid (Below w.heap.size w wr)) (fun _ i _ => il - (intOf i).toNat)
  case atStart => exact ⟨0, 1, Nat.zero_le _, rfl, rfl, ⟨by omega, by omega⟩, HB1⟩
  case round =>
    clear HB1 x0 x1 x2 x3 x4
    obtain ⟨j, r, hj, rfl, rfl, hr, HI⟩ := hrel
    by_cases hlt : j < il
    · have hkl : j < its.length := by rw [HIH.out.2.2]; exact hlt
      obtain ⟨b, off, cs, rfl, h5, hcell, hj2⟩ := ItAt.get its 0 j hkl (HII.out.1.below HII.out.2 HI.out)
      obtain ⟨xk, xn, xt, xa, xl, xc, ya, yl, yc, hcs⟩ := JAt.cs hj2
      subst hcs
      simp only [Nat.zero_add] at hcell
      have q0 := hcell 0 _ rfl
      have q1 := hcell 1 _ rfl
      have q2 := hcell 2 _ rfl
      have q3 := hcell 3 _ rfl
      have q4 := hcell 4 _ rfl
      simp only [Nat.add_zero] at q0
      obtain ⟨w1, Hw1⟩ : ∃ w1, Hid (w1 = wr.alloc (.cells #[.int .i64 xk, .int .i64 xn, .string xt, .slice xa xl xc, .slice ya yl yc] 26)) := ⟨_, rfl⟩
      obtain ⟨g, Hg⟩ : ∃ g, Hid (g = wr.heap.size) := ⟨_, rfl⟩
      have hb1 : Below wr.heap.size wr w1 := by rw [Hw1.out]; exact below_new _ _
      have HBk : Hid (Blk w1 g #[.int .i64 xk, .int .i64 xn, .string xt, .slice xa xl xc, .slice ya yl yc] 26) := by rw [Hid, Hw1.out, Hg.out]; exact Blk.new _ _ _
      obtain ⟨x0, x1, x2, x3, x4, -⟩ := Blk.five HBk.out
      have HB1 : Hid (Below w.heap.size w w1) := HI.out.trans (hb1.mono HI.out.size)
      by_cases hrm : m ≤ r
      · clear hcell hj2
        go_upto_region 5 with fail
        rw [← Hw1.out, ← Hg.out]
        clear Hw1 Hg q0 q1 q2 q3 q4 hb1
        go_wp2
        go_ret
        exact ⟨⟨r, rfl, hr⟩, HB1.out⟩
      · have HC := HIH.out.1 _ (List.getElem_mem hkl) (m - r) w1 S _ (by omega) (by omega) (Rngs.mem HIH.out.2.1 _ (List.getElem_mem hkl)) (hj2.below hb1)
        clear hcell hj2 hb1 HI
        go_upto_region 5 with fail
        rw [← Hw1.out, ← Hg.out]
        clear Hw1 Hg q0 q1 q2 q3 q4
        go_wp2_with fail
        refine HC.mono ?_
        clear HC
        rintro e w2 ⟨⟨r2, rfl, hr2⟩, hb2⟩
        have HB2 : Hid (Below w.heap.size w w2) := HB1.out.trans (hb2.mono HB1.out.size)
        clear hb2 x0 x1 x2 x3 x4
        go_wp2
        go_roundw
        case rel => exact ⟨j + 1, r + r2, by omega, rfl, by go_num, ⟨by omega, by omega⟩, HB2⟩
        case measure => simp [intOf]; omega
    · go_wp2
      go_ret
      exact ⟨⟨r, rfl, hr⟩, HI.out⟩
mutual
theorem specN : ∀ v : Js, SpecN v
  | .mk k n t ns its => parts_of k n t ns its (specNs its)
theorem specNs : ∀ its : List Js, ∀ x ∈ its, SpecN x
  | [], x, hx => by cases hx
  | y :: ys, x, hx => by
    rcases List.mem_cons.1 hx with h | h
    · rw [h]; exact specN y
    · exact specNs ys x h
end
end Go.Proofs.YtelhgjepjieocaaDoor

/- Layer 18 (json): the chapter's example. -/
namespace Go.Proofs.YtelhgjepjieocaaDoor
open Go.RowKit Go.MapKept Go.Sort
set_option linter.unusedVariables false

def exS : ByteArray := ⟨#[32, 123, 34, 97, 34, 58, 32, 91, 49, 44, 32, 45, 50, 44, 32, 34, 120, 92, 117, 48, 48, 48, 65, 34, 93, 125, 32]⟩
def exV : Js := .mk 6 0 [] [[97]] [.mk 5 0 [] [] [.mk 3 1 [] [] [], .mk 3 (-2) [] [] [], .mk 4 0 [120, 10] [] []]]
set_option maxRecDepth 100000 in
theorem parse_ex : parseJ exS = .ok exV := by kernel_rfl
set_option maxRecDepth 100000 in
theorem print_ex : printJ exV = ([123, 34, 97, 34, 58, 91, 49, 44, 45, 50, 44, 34, 120, 92, 110, 34, 93, 125], 0) := by kernel_rfl
theorem rng_ex : Rng exV := by
  unfold exV
  simp [Rng, Rngs]
theorem bytes_ex : (⟨(bytesOfN [123, 34, 97, 34, 58, 91, 49, 44, 45, 50, 44, 34, 120, 92, 110, 34, 93, 125]).toArray⟩ : ByteArray) = ⟨#[123, 34, 97, 34, 58, 91, 49, 44, 45, 50, 44, 34, 120, 92, 110, 34, 93, 125]⟩ := rfl
set_option maxRecDepth 100000 in
set_option maxHeartbeats 4000000 in
theorem alive_calls (w : World) (hv : Vs w) : Calls Tryd.prog 9 #[] w (fun e w' => e = .returned (.bool true) ∧ Below w.heap.size w w') := by
  have HP := parseJ_calls exS w (by decide) hv
  rw [parse_ex] at HP
  have HV : Hid (Vs w) := hv
  clear hv
  go_enter Tryd.func9, Tryd.ntmps9
  go_wp2_with fail
  refine HP.mono ?_
  clear HP
  rintro e w1 ⟨hb1, cs, S, rfl, hj, hs⟩
  obtain ⟨xk, xn, xt, xa, xl, xc, ya, yl, yc, hcs⟩ := JAt.cs hj
  subst hcs
  have HB1 : Hid (Below w.heap.size w w1 ∧ JAt w1 S exV _ ∧ ∀ k, S k → k < w1.heap.size) := ⟨hb1, hj, fun k hk => (hs k hk).2⟩
  clear hb1 hj hs
  obtain ⟨w2, Hw2⟩ : ∃ w2, Hid (w2 = w1.alloc (.cells #[.int .i64 xk, .int .i64 xn, .string xt, .slice xa xl xc, .slice ya yl yc] 26)) := ⟨_, rfl⟩
  obtain ⟨g, Hg⟩ : ∃ g, Hid (g = w1.heap.size) := ⟨_, rfl⟩
  have HBg : Hid (Blk w2 g #[.int .i64 xk, .int .i64 xn, .string xt, .slice xa xl xc, .slice ya yl yc] 26) := by rw [Hid, Hw2.out, Hg.out]; exact Blk.new _ _ _
  have HF2 : Hid (Below w1.heap.size w1 w2) := by rw [Hid, Hw2.out]; exact below_new _ _
  have HB2 : Hid (Below w.heap.size w w2) := HB1.out.1.trans (HF2.out.mono HB1.out.1.size)
  have HP := print_calls exV w2 S _ rng_ex (HB1.out.2.1.below HF2.out) (fun k hk => Nat.lt_of_lt_of_le (HB1.out.2.2 k hk) HF2.out.size) (HV.out.stay HB2.out)
  rw [print_ex] at HP
  simp only [] at HP
  rw [bytes_ex] at HP
  obtain ⟨x0, x1, x2, x3, x4, -⟩ := Blk.five HBg.out
  go_upto_region 2 with fail
  rw [← Hw2.out, ← Hg.out]
  clear Hw2 Hg
  go_wp2_with fail
  refine HP.mono ?_
  clear HP
  rintro e w3 ⟨rfl, hb3⟩
  have HB3 : Hid (Below w.heap.size w w3) := HB2.out.trans (hb3.mono HB2.out.size)
  clear hb3
  go_wp2
  go_ret
  exact ⟨rfl, HB3.out⟩
end Go.Proofs.YtelhgjepjieocaaDoor

/- Layer 18 (json): the law JsonPrints. -/
namespace Go.Proofs.YtelhgjepjieocaaDoor
open Go.RowKit Go.MapKept Go.Sort
set_option linter.unusedVariables false

set_option maxRecDepth 100000 in
set_option maxHeartbeats 4000000 in
theorem jsonPrints_calls (v : Js) (w : World) (cs : Array Value) (hr : Rng v) (hsm : Sml v) (hj : JAt w (fun k => k < w.heap.size) v cs) (hv : Vs w) :
    Calls Tryd.prog 4 #[.agg cs] w (fun e w' => e = .returned (.bool true) ∧ Below w.heap.size w w') := by
  obtain ⟨xk, xn, xt, xa, xl, xc, ya, yl, yc, hcs⟩ := JAt.cs hj
  subst hcs
  obtain ⟨S, HS0⟩ : ∃ S : Nat → Prop, Hid (S = fun k => k < w.heap.size) := ⟨_, rfl⟩
  rw [← HS0.out] at hj
  obtain ⟨w1, Hw1⟩ : ∃ w1, Hid (w1 = w.alloc (.cells #[.int .i64 xk, .int .i64 xn, .string xt, .slice xa xl xc, .slice ya yl yc] 26)) := ⟨_, rfl⟩
  obtain ⟨g, Hg⟩ : ∃ g, Hid (g = w.heap.size) := ⟨_, rfl⟩
  have HF1 : Hid (Below w.heap.size w w1) := by rw [Hid, Hw1.out]; exact below_new _ _
  have HB1 : Hid (Blk w1 g #[.int .i64 xk, .int .i64 xn, .string xt, .slice xa xl xc, .slice ya yl yc] 26) := by rw [Hid, Hw1.out, Hg.out]; exact Blk.new _ _ _
  have HJ : Hid (JAt w1 S v #[.int .i64 xk, .int .i64 xn, .string xt, .slice xa xl xc, .slice ya yl yc]) := hj.below HF1.out
  have HR : Hid (Rng v ∧ Sml v ∧ (∀ k, S k → k < w.heap.size) ∧ Vs w) := ⟨hr, hsm, fun k hk => by rw [HS0.out] at hk; exact hk, hv⟩
  have HA := alive_calls w1 (hv.stay HF1.out)
  obtain ⟨Q, HQ⟩ : ∃ Q : List Nat × Int, Hid (Q = printJ v) := ⟨printJ v, (Eq.refl _ : printJ v = _)⟩
  clear hr hsm hj hv HS0
  go_enter Tryd.func4, Tryd.ntmps4
  go_upto_region 1 with fail
  rw [← Hw1.out, ← Hg.out]
  clear Hw1 Hg
  go_wp2_with fail
  refine HA.mono ?_
  clear HA
  rintro e w2 ⟨rfl, hb2⟩
  have H2 : Hid (Below w.heap.size w w2 ∧ Blk w2 g #[.int .i64 xk, .int .i64 xn, .string xt, .slice xa xl xc, .slice ya yl yc] 26 ∧ JAt w2 S v #[.int .i64 xk, .int .i64 xn, .string xt, .slice xa xl xc, .slice ya yl yc]) := ⟨HF1.out.trans (hb2.mono HF1.out.size), HB1.out.below hb2, HJ.out.below hb2⟩
  clear hb2 HF1 HB1 HJ
  obtain ⟨x0, x1, x2, x3, x4, -⟩ := Blk.five H2.out.2.1
  have HN := specN v 5000 w2 S _ (by omega) (by omega) HR.out.1 H2.out.2.2
  go_wp2_with fail
  refine HN.mono ?_
  clear HN x0 x1 x2 x3 x4
  rintro e w3 ⟨⟨r, rfl, hr⟩, hb3⟩
  have H3 : Hid (Below w.heap.size w w3 ∧ Blk w3 g #[.int .i64 xk, .int .i64 xn, .string xt, .slice xa xl xc, .slice ya yl yc] 26 ∧ JAt w3 S v #[.int .i64 xk, .int .i64 xn, .string xt, .slice xa xl xc, .slice ya yl yc]) := ⟨H2.out.1.trans (hb3.mono H2.out.1.size), H2.out.2.1.below hb3, H2.out.2.2.below hb3⟩
  clear hb3 H2
  by_cases h5 : 5000 ≤ r
  · go_wp2
    go_ret
    exact ⟨rfl, H3.out.1⟩
  · obtain ⟨x0, x1, x2, x3, x4, -⟩ := Blk.five H3.out.2.1
    have HP := refPrint_calls v w3 S _ HR.out.1 HR.out.2.1 H3.out.2.2 (fun k hk => Nat.lt_of_lt_of_le (HR.out.2.2.1 k hk) H3.out.1.size)
    rw [← HQ.out] at HP
    go_wp2_with fail
    refine HP.mono ?_
    clear HP x0 x1 x2 x3 x4
    rintro e w4 ⟨rfl, hb4⟩
    have H4 : Hid (Below w.heap.size w w4 ∧ Blk w4 g #[.int .i64 xk, .int .i64 xn, .string xt, .slice xa xl xc, .slice ya yl yc] 26 ∧ JAt w4 S v #[.int .i64 xk, .int .i64 xn, .string xt, .slice xa xl xc, .slice ya yl yc]) := ⟨H3.out.1.trans (hb4.mono H3.out.1.size), H3.out.2.1.below hb4, H3.out.2.2.below hb4⟩
    clear hb4 H3
    obtain ⟨x0, x1, x2, x3, x4, -⟩ := Blk.five H4.out.2.1
    have HP := print_calls v w4 S _ HR.out.1 H4.out.2.2 (fun k hk => Nat.lt_of_lt_of_le (HR.out.2.2.1 k hk) H4.out.1.size) (HR.out.2.2.2.stay H4.out.1)
    rw [← HQ.out] at HP
    obtain ⟨qs, qc, hqq⟩ : ∃ (qs : ByteArray) (qc : Int), qs = ⟨(bytesOfN Q.1).toArray⟩ ∧ qc = Q.2 := ⟨_, _, rfl, rfl⟩
    rw [← hqq.1, ← hqq.2] at HP ⊢
    clear hqq
    go_wp2_with fail
    refine HP.mono ?_
    clear HP x0 x1 x2 x3 x4
    rintro e w5 ⟨rfl, hb5⟩
    have H5 : Hid (Below w.heap.size w w5) := H4.out.1.trans (hb5.mono H4.out.1.size)
    clear hb5 H4
    go_wp2
    go_ret
    exact ⟨rfl, H5.out⟩
end Go.Proofs.YtelhgjepjieocaaDoor

/- An argument of type []int, opened. -/
namespace Go.Proofs.YtelhgjepjieocaaDoor
open Go.RowKit Go.Deep Go.ChangeShapes Go.WideShapes
set_option linter.unusedVariables false

def intData {H : Type} (t : Int) : DataW H := .lit (.int .i64 t)
theorem cells_intS : Tryd.prog.cellsOf 3 = 1 := by kernel_rfl
theorem bytes_intS : Tryd.prog.bytesOf 3 = 8 := by kernel_rfl
theorem i64_bnd {n : Int} (h : (Lit.int .i64 n).wf = true) : -9223372036854775808 ≤ n ∧ n ≤ 9223372036854775807 := by
  exact bounds_i64 h

end Go.Proofs.YtelhgjepjieocaaDoor
