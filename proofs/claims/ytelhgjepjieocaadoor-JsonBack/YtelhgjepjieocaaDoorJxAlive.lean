import Derived.Test.YtelhgjepjieocaaDoorJxBkS
import Derived.Test.YtelhgjepjieocaaDoorJxSndI
import Derived.Test.YtelhgjepjieocaaDoorJxPrint
/- Layer 18 (json): when a value is printed. -/
namespace Go.Proofs.YtelhgjepjieocaaDoor
open Go.RowKit Go.Sort
set_option linter.unusedVariables false

theorem chrsP_is2 : ∀ (t : List UInt8) (l : List Nat), l.length + (flB t).length ≤ 65536 → chrsP (t.map UInt8.toNat) l = l ++ nats (flB t)
  | [], l, h => by simp [chrsP, flB, nats]
  | c :: t, l, h => by
    have e : (flB (c :: t)).length = (chB c).length + (flB t).length := by simp [flB]
    rw [List.map_cons]
    unfold chrsP
    rw [if_neg (by omega), chrP_nats, chrsP_is2 t _ (by rw [List.length_append, nats_len]; omega), List.append_assoc, ← nats_append]
    simp [flB]
theorem txtP_is2 (t : List UInt8) (l : List Nat) (h : l.length + (ptx t).length ≤ 65536) : txtP (nmB t) l = l ++ nats (ptx t) := by
  unfold txtP
  have e : bytesN (nmB t) 0 = t.map UInt8.toNat := by unfold bytesN tl nmB; simp
  have e2 : (ptx t).length = (flB t).length + 2 := by simp [ptx]
  rw [e, chrsP_is2 t _ (by simp only [List.length_append, List.length_cons, List.length_nil]; omega)]
  simp [ptx, nats]
mutual
theorem valP_is2 : ∀ (v : Js) (l : List Nat), l.length + (pv v).length ≤ 65536 → valP v l = l ++ nats (pv v)
  | .mk k n t ns its, l, h => by
    unfold valP
    unfold pv at h ⊢
    by_cases h2 : k = 2
    · rw [if_pos h2, if_pos h2]
      by_cases h1 : n = 1
      · rw [if_pos h1, if_pos h1]; rfl
      · rw [if_neg h1, if_neg h1]; rfl
    rw [if_neg h2] at h ⊢
    rw [if_neg h2]
    by_cases h3 : k = 3
    · rw [if_pos h3, if_pos h3, numD_nats]
    rw [if_neg h3] at h ⊢
    rw [if_neg h3]
    by_cases h4 : k = 4
    · rw [if_pos h4] at h ⊢
      rw [if_pos h4]
      exact txtP_is2 t l h
    rw [if_neg h4] at h ⊢
    rw [if_neg h4]
    by_cases h5 : k = 5
    · rw [if_pos h5] at h ⊢
      rw [if_pos h5, itsP_is2 its false true ns _ (by simp only [List.length_append, List.length_cons, List.length_nil] at h ⊢; omega)]
      simp [nats]
    rw [if_neg h5] at h ⊢
    rw [if_neg h5]
    by_cases h6 : k = 6
    · rw [if_pos h6] at h ⊢
      rw [if_pos h6, itsP_is2 its true true ns _ (by simp only [List.length_append, List.length_cons, List.length_nil] at h ⊢; omega)]
      simp [nats]
    rw [if_neg h6, if_neg h6]
    rfl
theorem itsP_is2 : ∀ (its : List Js) (obj first : Bool) (ns : List (List UInt8)) (l : List Nat), l.length + (pis obj first ns its).length ≤ 65536 → itsP obj first ns its l = l ++ nats (pis obj first ns its)
  | [], obj, first, ns, l, h => by unfold itsP; rw [pis_nil]; simp [nats]
  | x :: xs, obj, first, ns, l, h => by
    have h0 := h
    rw [pis_cons] at h ⊢
    unfold itsP
    rw [if_neg (by omega)]
    cases obj with
    | true =>
      simp only [if_true, List.length_append, List.length_cons, List.length_nil] at h
      have hf : (if first = true then l else l ++ [44]).length = l.length + (if first = true then ([] : List UInt8) else [44]).length := by cases first <;> simp
      simp only [if_true]
      rw [txtP_is2 (ns.headD []) _ (by omega), valP_is2 x _ (by simp only [List.length_append, List.length_cons, List.length_nil, nats_len]; omega), itsP_is2 xs true false ns.tail _ (by simp only [List.length_append, List.length_cons, List.length_nil, nats_len]; omega)]
      cases first <;> simp [nats]
    | false =>
      simp only [if_false, List.length_append, List.length_nil, Bool.false_eq_true] at h
      have hf : (if first = true then l else l ++ [44]).length = l.length + (if first = true then ([] : List UInt8) else [44]).length := by cases first <;> simp
      simp only [Bool.false_eq_true, if_false]
      rw [valP_is2 x _ (by omega), itsP_is2 xs false false ns.tail _ (by simp only [List.length_append, nats_len]; omega)]
      cases first <;> simp [nats]
end
theorem nmB_len (a : List UInt8) : (nmB a).size = a.length := by simp [nmB, ByteArray.size]
theorem bytes_nats (l : List UInt8) : bytesOfN (nats l) = l := by
  unfold bytesOfN nats
  rw [List.map_map]
  exact (List.map_congr_left fun c _ => by simp).trans (List.map_id _)
theorem printJ_of {v : Js} (hs : soundJ v 0 = true) (hl : (pv v).length ≤ 65536) : bytesOfN (printJ v).1 = pv v ∧ (printJ v).2 = 0 := by
  have h1 := valP_is2 v [] (by simpa using hl)
  rw [List.nil_append] at h1
  have hp : printJ v = (nats (pv v), 0) := by
    unfold printJ
    rw [if_pos hs, h1, if_neg (by rw [nats_len]; omega)]
  rw [hp]
  exact ⟨bytes_nats _, rfl⟩
theorem printJ_two (v : Js) (hr : Rng v) : (bytesOfN (printJ v).1 = pv v ∧ (printJ v).2 = 0 ∧ parseJ (nmB (pv v)) = .ok v ∧ (pv v).length ≤ 65536) ∨ (printJ v).2 ≠ 0 := by
  by_cases h0 : (printJ v).2 = 0
  · left
    have hs : soundJ v 0 = true := by
      cases hq : soundJ v 0 with
      | true => rfl
      | false =>
        unfold printJ at h0
        rw [hq] at h0
        cases h0
    obtain ⟨h1, h2⟩ := printJ_is v hs h0
    exact ⟨h1, h0, parseJ_back v hs hr h2, h2⟩
  · exact .inr h0
end Go.Proofs.YtelhgjepjieocaaDoor

/- Layer 18 (json): the law's own parts: it comes back with some number. -/
namespace Go.Proofs.YtelhgjepjieocaaDoor
open Go.RowKit Go.MapKept Go.Sort
set_option linter.unusedVariables false

def SpecN (v : Js) : Prop := ∀ (m : Int) (w : World) (S : Nat → Prop) (cs : Array Value), -1000000 ≤ m → m ≤ 1000000 → Rng v → JAt w S v cs → Calls Tryd.prog 13 #[.agg cs, .int .i64 m] w fun e w' => (∃ r : Int, e = .returned (.int .i64 r) ∧ 1 ≤ r ∧ (r ≤ m ∨ r ≤ 1)) ∧ Below w.heap.size w w'
set_option maxRecDepth 100000 in
set_option maxHeartbeats 2000000 in
theorem parts_of (k n : Int) (t : List UInt8) (ns : List (List UInt8)) (its : List Js) (IH : ∀ x ∈ its, SpecN x) : SpecN (.mk k n t ns its) := by
  intro m w S cs hm1 hm2 hr hj
  unfold Rng at hr
  obtain ⟨-, -, r3, r4, -, r6⟩ := hr
  unfold JAt at hj
  obtain ⟨na, nc, ia, ic, rfl, h2, h3, h4, h5⟩ := hj
  obtain ⟨nl, hnl⟩ : ∃ nl, nl = ns.length := ⟨_, rfl⟩
  obtain ⟨il, hil⟩ : ∃ il, il = its.length := ⟨_, rfl⟩
  obtain ⟨tb, htb⟩ : ∃ tb, tb = nmB t := ⟨_, rfl⟩
  rw [← hnl, ← hil, ← htb]
  rw [← hnl] at r3
  rw [← hil] at r4
  have HIH : Hid ((∀ x ∈ its, SpecN x) ∧ Rngs its ∧ its.length = il) := ⟨IH, r6, hil.symm⟩
  have HII : Hid (ItAt w S ia 0 its ∧ ∀ a, ia = some a → its ≠ [] → S a.block) := ⟨h5, h4⟩
  clear IH r6 hnl hil htb h2 h3 h4 h5
  obtain ⟨w1, Hw1⟩ : ∃ w1, Hid (w1 = w.alloc (.cells #[.int .i64 k, .int .i64 n, .string tb, .slice na nl nc, .slice ia il ic] 26)) := ⟨_, rfl⟩
  obtain ⟨ga, Hga⟩ : ∃ ga, Hid (ga = w.heap.size) := ⟨_, rfl⟩
  have hb1 : Below w.heap.size w w1 := by rw [Hw1.out]; exact below_new _ _
  have HBk : Blk w1 ga #[.int .i64 k, .int .i64 n, .string tb, .slice na nl nc, .slice ia il ic] 26 := by rw [Hw1.out, Hga.out]; exact Blk.new _ _ _
  have HB1 : Hid (Below w.heap.size w w1) := hb1
  obtain ⟨x0, x1, x2, x3, x4, -⟩ := Blk.five HBk
  clear hb1 HBk
  unfold jC
  go_enter Tryd.func13, Tryd.ntmps13
  go_upto_region 1 with fail
  rw [← Hw1.out, ← Hga.out]
  clear Hw1 Hga
  go_wp2
  go_loopw [5, 11] (fun x i wr => ∃ (j : Nat) (r : Int), j ≤ il ∧ x = .int .i64 r ∧ i = .int .i64 (j : Int) ∧ (1 ≤ r ∧ (r ≤ m ∨ r ≤ 1)) ∧ Hid (Below w.heap.size w wr)) (fun _ i _ => il - (intOf i).toNat)
  case atStart => exact ⟨0, 1, Nat.zero_le _, rfl, rfl, ⟨by omega, by omega⟩, HB1⟩
  case round =>
    clear HB1 x0 x1 x2 x3 x4
    obtain ⟨j, r, hj, rfl, rfl, hr, HI⟩ := hrel
    by_cases hlt : j < il
    · have hkl : j < its.length := by rw [HIH.out.2.2]; exact hlt
      obtain ⟨b, off, cs, rfl, h5, hcell, hj2⟩ := ItAt.get its 0 j hkl (HII.out.1.below HII.out.2 HI.out)
      obtain ⟨xk, xn, xt, xa, xl, xc, ya, yl, yc, hcs⟩ := JAt.cs hj2
      subst hcs
      simp only [Nat.zero_add] at hcell
      have q0 := hcell 0 _ rfl
      have q1 := hcell 1 _ rfl
      have q2 := hcell 2 _ rfl
      have q3 := hcell 3 _ rfl
      have q4 := hcell 4 _ rfl
      simp only [Nat.add_zero] at q0
      obtain ⟨w1, Hw1⟩ : ∃ w1, Hid (w1 = wr.alloc (.cells #[.int .i64 xk, .int .i64 xn, .string xt, .slice xa xl xc, .slice ya yl yc] 26)) := ⟨_, rfl⟩
      obtain ⟨g, Hg⟩ : ∃ g, Hid (g = wr.heap.size) := ⟨_, rfl⟩
      have hb1 : Below wr.heap.size wr w1 := by rw [Hw1.out]; exact below_new _ _
      have HBk : Hid (Blk w1 g #[.int .i64 xk, .int .i64 xn, .string xt, .slice xa xl xc, .slice ya yl yc] 26) := by rw [Hid, Hw1.out, Hg.out]; exact Blk.new _ _ _
      obtain ⟨x0, x1, x2, x3, x4, -⟩ := Blk.five HBk.out
      have HB1 : Hid (Below w.heap.size w w1) := HI.out.trans (hb1.mono HI.out.size)
      by_cases hrm : m ≤ r
      · clear hcell hj2
        go_upto_region 5 with fail
        rw [← Hw1.out, ← Hg.out]
        clear Hw1 Hg q0 q1 q2 q3 q4 hb1
        go_wp2
        go_ret
        exact ⟨⟨r, rfl, hr⟩, HB1.out⟩
      · have HC := HIH.out.1 _ (List.getElem_mem hkl) (m - r) w1 S _ (by omega) (by omega) (Rngs.mem HIH.out.2.1 _ (List.getElem_mem hkl)) (hj2.below hb1)
        clear hcell hj2 hb1 HI
        go_upto_region 5 with fail
        rw [← Hw1.out, ← Hg.out]
        clear Hw1 Hg q0 q1 q2 q3 q4
        go_wp2_with fail
        refine HC.mono ?_
        clear HC
        rintro e w2 ⟨⟨r2, rfl, hr2⟩, hb2⟩
        have HB2 : Hid (Below w.heap.size w w2) := HB1.out.trans (hb2.mono HB1.out.size)
        clear hb2 x0 x1 x2 x3 x4
        go_wp2
        go_roundw
        case rel => exact ⟨j + 1, r + r2, by omega, rfl, by go_num, ⟨by omega, by omega⟩, HB2⟩
        case measure => simp [intOf]; omega
    · go_wp2
      go_ret
      exact ⟨⟨r, rfl, hr⟩, HI.out⟩
mutual
theorem specN : ∀ v : Js, SpecN v
  | .mk k n t ns its => parts_of k n t ns its (specNs its)
theorem specNs : ∀ its : List Js, ∀ x ∈ its, SpecN x
  | [], x, hx => by cases hx
  | y :: ys, x, hx => by
    rcases List.mem_cons.1 hx with h | h
    · rw [h]; exact specN y
    · exact specNs ys x h
end
end Go.Proofs.YtelhgjepjieocaaDoor

/- Layer 18 (json): the chapter's example. -/
namespace Go.Proofs.YtelhgjepjieocaaDoor
open Go.RowKit Go.MapKept Go.Sort
set_option linter.unusedVariables false

def exS : ByteArray := ⟨#[32, 123, 34, 97, 34, 58, 32, 91, 49, 44, 32, 45, 50, 44, 32, 34, 120, 92, 117, 48, 48, 48, 65, 34, 93, 125, 32]⟩
def exV : Js := .mk 6 0 [] [[97]] [.mk 5 0 [] [] [.mk 3 1 [] [] [], .mk 3 (-2) [] [] [], .mk 4 0 [120, 10] [] []]]
set_option maxRecDepth 100000 in
theorem parse_ex : parseJ exS = .ok exV := by kernel_rfl
set_option maxRecDepth 100000 in
theorem print_ex : printJ exV = ([123, 34, 97, 34, 58, 91, 49, 44, 45, 50, 44, 34, 120, 92, 110, 34, 93, 125], 0) := by kernel_rfl
theorem rng_ex : Rng exV := by
  unfold exV
  simp [Rng, Rngs]
theorem bytes_ex : (⟨(bytesOfN [123, 34, 97, 34, 58, 91, 49, 44, 45, 50, 44, 34, 120, 92, 110, 34, 93, 125]).toArray⟩ : ByteArray) = ⟨#[123, 34, 97, 34, 58, 91, 49, 44, 45, 50, 44, 34, 120, 92, 110, 34, 93, 125]⟩ := rfl
set_option maxRecDepth 100000 in
set_option maxHeartbeats 4000000 in
theorem alive_calls (w : World) (hv : Vs w) : Calls Tryd.prog 9 #[] w (fun e w' => e = .returned (.bool true) ∧ Below w.heap.size w w') := by
  have HP := parseJ_calls exS w (by decide) hv
  rw [parse_ex] at HP
  have HV : Hid (Vs w) := hv
  clear hv
  go_enter Tryd.func9, Tryd.ntmps9
  go_wp2_with fail
  refine HP.mono ?_
  clear HP
  rintro e w1 ⟨hb1, cs, S, rfl, hj, hs⟩
  obtain ⟨xk, xn, xt, xa, xl, xc, ya, yl, yc, hcs⟩ := JAt.cs hj
  subst hcs
  have HB1 : Hid (Below w.heap.size w w1 ∧ JAt w1 S exV _ ∧ ∀ k, S k → k < w1.heap.size) := ⟨hb1, hj, fun k hk => (hs k hk).2⟩
  clear hb1 hj hs
  obtain ⟨w2, Hw2⟩ : ∃ w2, Hid (w2 = w1.alloc (.cells #[.int .i64 xk, .int .i64 xn, .string xt, .slice xa xl xc, .slice ya yl yc] 26)) := ⟨_, rfl⟩
  obtain ⟨g, Hg⟩ : ∃ g, Hid (g = w1.heap.size) := ⟨_, rfl⟩
  have HBg : Hid (Blk w2 g #[.int .i64 xk, .int .i64 xn, .string xt, .slice xa xl xc, .slice ya yl yc] 26) := by rw [Hid, Hw2.out, Hg.out]; exact Blk.new _ _ _
  have HF2 : Hid (Below w1.heap.size w1 w2) := by rw [Hid, Hw2.out]; exact below_new _ _
  have HB2 : Hid (Below w.heap.size w w2) := HB1.out.1.trans (HF2.out.mono HB1.out.1.size)
  have HP := print_calls exV w2 S _ rng_ex (HB1.out.2.1.below HF2.out) (fun k hk => Nat.lt_of_lt_of_le (HB1.out.2.2 k hk) HF2.out.size) (HV.out.stay HB2.out)
  rw [print_ex] at HP
  simp only [] at HP
  rw [bytes_ex] at HP
  obtain ⟨x0, x1, x2, x3, x4, -⟩ := Blk.five HBg.out
  go_upto_region 2 with fail
  rw [← Hw2.out, ← Hg.out]
  clear Hw2 Hg
  go_wp2_with fail
  refine HP.mono ?_
  clear HP
  rintro e w3 ⟨rfl, hb3⟩
  have HB3 : Hid (Below w.heap.size w w3) := HB2.out.trans (hb3.mono HB2.out.size)
  clear hb3
  go_wp2
  go_ret
  exact ⟨rfl, HB3.out⟩
end Go.Proofs.YtelhgjepjieocaaDoor
