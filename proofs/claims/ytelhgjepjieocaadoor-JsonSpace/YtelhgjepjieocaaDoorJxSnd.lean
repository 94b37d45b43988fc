import Derived.Test.YtelhgjepjieocaaDoorJxSame
import Derived.Test.YtelhgjepjieocaaDoorJxSnd2
/- Layer 18 (json): sound of one kind. -/
namespace Go.Proofs.YtelhgjepjieocaaDoor
open Go.RowKit Go.MapKept Go.Sort
set_option linter.unusedVariables false

set_option maxRecDepth 100000 in
set_option maxHeartbeats 16000000 in
theorem soundK4_calls (n : Int) (t : List UInt8) (ns : List (List UInt8)) (its : List Js) (IH : ∀ x ∈ its, SpecS x) (d nl nc il ic : Nat) (na ia : Option Addr) (w : World) (S : Nat → Prop) (hd : d ≤ 17) (hnl : ns.length = nl) (hil : its.length = il) (hnm : nl ≤ 140737488355328) (him : il ≤ 140737488355328) (hr : Rngs its) (hv : VAt w na (ns.map strV)) (hi : ItAt w S ia 0 its) (hs : ∀ a, ia = some a → its ≠ [] → S a.block) :
    Calls Tryd.prog 30 #[.agg (jC 4 n (nmB t) (.slice na nl nc) (.slice ia il ic)), .int .i64 (d : Int)] w fun e w' => e = .returned (.bool (soundJ (.mk 4 n t ns its) d)) ∧ Below w.heap.size w w' := by
  obtain ⟨Q, HQ0⟩ : ∃ Q, Hid (Q = soundJ (.mk 4 n t ns its) d) := ⟨_, rfl⟩
  rw [← HQ0.out]
  have HQe : Hid (Q = (n == 0 && (ns.isEmpty && its.isEmpty))) := by
    rw [Hid, HQ0.out]
    conv => lhs; unfold soundJ
    simp
  have hte := empty_txt t
  obtain ⟨tb, Htb⟩ : ∃ tb, Hid (tb = nmB t) := ⟨_, rfl⟩
  obtain ⟨te, Hte⟩ : ∃ te, Hid (te = t.isEmpty) := ⟨_, rfl⟩
  rw [← Htb.out, ← Hte.out] at hte
  first | rw [← Hte.out] at HQe | skip
  rw [← Htb.out]
  obtain ⟨w1, Hw1⟩ : ∃ w1, Hid (w1 = w.alloc (.cells #[.int .i64 4, .int .i64 n, .string tb, .slice na nl nc, .slice ia il ic] 26)) := ⟨_, rfl⟩
  obtain ⟨g, Hg⟩ : ∃ g, Hid (g = w.heap.size) := ⟨_, rfl⟩
  have HB1 : Hid (Blk w1 g #[.int .i64 4, .int .i64 n, .string tb, .slice na nl nc, .slice ia il ic] 26) := by rw [Hid, Hw1.out, Hg.out]; exact Blk.new _ _ _
  have HF1 : Hid (Below w.heap.size w w1) := by rw [Hid, Hw1.out]; exact below_new _ _
  obtain ⟨x0, x1, x2, x3, x4, -⟩ := Blk.five HB1.out
  have HPC := hasParts_calls 4 n tb na ia nl nc il ic w1
  rw [parts_or hnl hil] at HPC
  obtain ⟨pe, Hpe⟩ : ∃ pe, Hid (pe = (ns.isEmpty && its.isEmpty)) := ⟨_, rfl⟩
  rw [← Hpe.out] at HPC HQe
  unfold jC at HPC

  clear IH hr hv hi hs HQ0 Htb Hte
  unfold jC
  go_enter Tryd.func30, Tryd.ntmps30
  go_upto_region 1 with fail
  rw [← Hw1.out, ← Hg.out]
  clear Hw1 Hg
  by_cases hn0 : n = 0
  · subst hn0
    go_wp2_with fail
    refine HPC.mono ?_
    clear HPC
    rintro e w2 ⟨rfl, hb2⟩
    have HB2 : Hid (Below w.heap.size w w2) := HF1.out.trans (hb2.mono HF1.out.size)
    cases pe with
    | true =>
      have HQ : Hid (Q = true) := by rw [Hid, HQe.out]; simp []
      go_wp2
      go_ret
      exact ⟨by rw [HQ.out]; rfl, HB2.out⟩
    | false =>
      have HQ : Hid (Q = false) := by rw [Hid, HQe.out]; simp []
      go_wp2
      go_ret
      exact ⟨by rw [HQ.out]; rfl, HB2.out⟩
  · have qn : (n == 0) = false := by simpa using hn0
    have HQ : Hid (Q = false) := by rw [Hid, HQe.out]; simp [qn]
    go_wp2
    go_ret
    exact ⟨by rw [HQ.out]; rfl, HF1.out⟩
end Go.Proofs.YtelhgjepjieocaaDoor

/- Layer 18 (json): sound of one kind. -/
namespace Go.Proofs.YtelhgjepjieocaaDoor
open Go.RowKit Go.MapKept Go.Sort
set_option linter.unusedVariables false

set_option maxRecDepth 100000 in
set_option maxHeartbeats 16000000 in
theorem soundK5_calls (n : Int) (t : List UInt8) (ns : List (List UInt8)) (its : List Js) (IH : ∀ x ∈ its, SpecS x) (d nl nc il ic : Nat) (na ia : Option Addr) (w : World) (S : Nat → Prop) (hd : d ≤ 17) (hnl : ns.length = nl) (hil : its.length = il) (hnm : nl ≤ 140737488355328) (him : il ≤ 140737488355328) (hr : Rngs its) (hv : VAt w na (ns.map strV)) (hi : ItAt w S ia 0 its) (hs : ∀ a, ia = some a → its ≠ [] → S a.block) :
    Calls Tryd.prog 30 #[.agg (jC 5 n (nmB t) (.slice na nl nc) (.slice ia il ic)), .int .i64 (d : Int)] w fun e w' => e = .returned (.bool (soundJ (.mk 5 n t ns its) d)) ∧ Below w.heap.size w w' := by
  obtain ⟨Q, HQ0⟩ : ∃ Q, Hid (Q = soundJ (.mk 5 n t ns its) d) := ⟨_, rfl⟩
  rw [← HQ0.out]
  have HQe : Hid (Q = (n == 0 && t.isEmpty && ns.isEmpty && (decide (d < 16) && allS its (d + 1)))) := by
    rw [Hid, HQ0.out]
    conv => lhs; unfold soundJ
    simp
  have hte := empty_txt t
  obtain ⟨tb, Htb⟩ : ∃ tb, Hid (tb = nmB t) := ⟨_, rfl⟩
  obtain ⟨te, Hte⟩ : ∃ te, Hid (te = t.isEmpty) := ⟨_, rfl⟩
  rw [← Htb.out, ← Hte.out] at hte
  rw [← Hte.out] at HQe
  rw [← Htb.out]
  obtain ⟨w1, Hw1⟩ : ∃ w1, Hid (w1 = w.alloc (.cells #[.int .i64 5, .int .i64 n, .string tb, .slice na nl nc, .slice ia il ic] 26)) := ⟨_, rfl⟩
  obtain ⟨g, Hg⟩ : ∃ g, Hid (g = w.heap.size) := ⟨_, rfl⟩
  have HB1 : Hid (Blk w1 g #[.int .i64 5, .int .i64 n, .string tb, .slice na nl nc, .slice ia il ic] 26) := by rw [Hid, Hw1.out, Hg.out]; exact Blk.new _ _ _
  have HF1 : Hid (Below w.heap.size w w1) := by rw [Hid, Hw1.out]; exact below_new _ _
  obtain ⟨x0, x1, x2, x3, x4, -⟩ := Blk.five HB1.out
  have HIC := fun W (hb : Below w.heap.size w W) => soundItems_calls its IH d il ic ia W S hil hd hr him (hi.below hs hb) hs
  have HIC : Hid (∀ W, Below w.heap.size w W → Calls Tryd.prog 47 #[.slice ia il ic, .int .i64 (d : Int)] W fun e w' => e = .returned (.bool (decide (d < 16) && allS its (d + 1))) ∧ Below W.heap.size W w') := HIC
  obtain ⟨si, Hsi⟩ : ∃ si, Hid (si = (decide (d < 16) && allS its (d + 1))) := ⟨_, rfl⟩
  rw [← Hsi.out] at HIC HQe

  clear IH hr hv hi hs HQ0 Htb Hte
  unfold jC
  go_enter Tryd.func30, Tryd.ntmps30
  go_upto_region 1 with fail
  rw [← Hw1.out, ← Hg.out]
  clear Hw1 Hg
  by_cases hn0 : n = 0
  · subst hn0
    cases te with
    | true =>
      by_cases hz : nl = 0
      · have qz : ns.isEmpty = true := by rw [List.isEmpty_iff_length_eq_zero, hnl]; exact hz
        have qz2 : ((nl : Int) == 0) = true := by simpa using hz
        go_wp2_with fail
        refine (HIC.out _ HF1.out).mono ?_
        rintro e w2 ⟨rfl, hb2⟩
        have HB2 : Hid (Below w.heap.size w w2) := HF1.out.trans (hb2.mono HF1.out.size)
        have HQ : Hid (Q = si) := by rw [Hid, HQe.out]; simp [qz]
        go_wp2
        go_ret
        exact ⟨by rw [HQ.out]; rfl, HB2.out⟩
      · have qz : ns.isEmpty = false := by
          cases ns with
          | nil => exact absurd hnl.symm hz
          | cons a l => rfl
        have qz2 : ((nl : Int) == 0) = false := by simpa using hz
        have HQ : Hid (Q = false) := by rw [Hid, HQe.out]; simp [qz]
        go_wp2
        go_ret
        exact ⟨by rw [HQ.out]; rfl, HF1.out⟩
    | false =>
      have HQ : Hid (Q = false) := by rw [Hid, HQe.out]; simp []
      go_wp2
      go_ret
      exact ⟨by rw [HQ.out]; rfl, HF1.out⟩
  · have qn : (n == 0) = false := by simpa using hn0
    have HQ : Hid (Q = false) := by rw [Hid, HQe.out]; simp [qn]
    go_wp2
    go_ret
    exact ⟨by rw [HQ.out]; rfl, HF1.out⟩
end Go.Proofs.YtelhgjepjieocaaDoor

/- Layer 18 (json): sound of one kind. -/
namespace Go.Proofs.YtelhgjepjieocaaDoor
open Go.RowKit Go.MapKept Go.Sort
set_option linter.unusedVariables false

set_option maxRecDepth 100000 in
set_option maxHeartbeats 16000000 in
theorem soundK6_calls (n : Int) (t : List UInt8) (ns : List (List UInt8)) (its : List Js) (IH : ∀ x ∈ its, SpecS x) (d nl nc il ic : Nat) (na ia : Option Addr) (w : World) (S : Nat → Prop) (hd : d ≤ 17) (hnl : ns.length = nl) (hil : its.length = il) (hnm : nl ≤ 140737488355328) (him : il ≤ 140737488355328) (hr : Rngs its) (hv : VAt w na (ns.map strV)) (hi : ItAt w S ia 0 its) (hs : ∀ a, ia = some a → its ≠ [] → S a.block) :
    Calls Tryd.prog 30 #[.agg (jC 6 n (nmB t) (.slice na nl nc) (.slice ia il ic)), .int .i64 (d : Int)] w fun e w' => e = .returned (.bool (soundJ (.mk 6 n t ns its) d)) ∧ Below w.heap.size w w' := by
  obtain ⟨Q, HQ0⟩ : ∃ Q, Hid (Q = soundJ (.mk 6 n t ns its) d) := ⟨_, rfl⟩
  rw [← HQ0.out]
  have HQe : Hid (Q = (n == 0 && t.isEmpty && decide (ns.length = its.length) && (decide (d < 16) && allS its (d + 1)) && decide ns.Nodup)) := by
    rw [Hid, HQ0.out]
    conv => lhs; unfold soundJ
    simp
  have hte := empty_txt t
  obtain ⟨tb, Htb⟩ : ∃ tb, Hid (tb = nmB t) := ⟨_, rfl⟩
  obtain ⟨te, Hte⟩ : ∃ te, Hid (te = t.isEmpty) := ⟨_, rfl⟩
  rw [← Htb.out, ← Hte.out] at hte
  rw [← Hte.out] at HQe
  rw [← Htb.out]
  obtain ⟨w1, Hw1⟩ : ∃ w1, Hid (w1 = w.alloc (.cells #[.int .i64 6, .int .i64 n, .string tb, .slice na nl nc, .slice ia il ic] 26)) := ⟨_, rfl⟩
  obtain ⟨g, Hg⟩ : ∃ g, Hid (g = w.heap.size) := ⟨_, rfl⟩
  have HB1 : Hid (Blk w1 g #[.int .i64 6, .int .i64 n, .string tb, .slice na nl nc, .slice ia il ic] 26) := by rw [Hid, Hw1.out, Hg.out]; exact Blk.new _ _ _
  have HF1 : Hid (Below w.heap.size w w1) := by rw [Hid, Hw1.out]; exact below_new _ _
  obtain ⟨x0, x1, x2, x3, x4, -⟩ := Blk.five HB1.out
  have HIC := fun W (hb : Below w.heap.size w W) => soundItems_calls its IH d il ic ia W S hil hd hr him (hi.below hs hb) hs
  have HIC : Hid (∀ W, Below w.heap.size w W → Calls Tryd.prog 47 #[.slice ia il ic, .int .i64 (d : Int)] W fun e w' => e = .returned (.bool (decide (d < 16) && allS its (d + 1))) ∧ Below W.heap.size W w') := HIC
  obtain ⟨si, Hsi⟩ : ∃ si, Hid (si = (decide (d < 16) && allS its (d + 1))) := ⟨_, rfl⟩
  rw [← Hsi.out] at HIC HQe
  have HUC := fun W (hb : Below w.heap.size w W) => unlike_calls na nl nc ns W hnl (by omega) (hv.below hb)
  have HUC : Hid (∀ W, Below w.heap.size w W → Calls Tryd.prog 48 #[.slice na nl nc] W fun e w' => e = .returned (.bool (decide ns.Nodup)) ∧ Below W.heap.size W w') := HUC
  obtain ⟨un, Hun⟩ : ∃ un, Hid (un = decide ns.Nodup) := ⟨_, rfl⟩
  rw [← Hun.out] at HUC HQe

  clear IH hr hv hi hs HQ0 Htb Hte
  unfold jC
  go_enter Tryd.func30, Tryd.ntmps30
  go_upto_region 1 with fail
  rw [← Hw1.out, ← Hg.out]
  clear Hw1 Hg
  by_cases hn0 : n = 0
  · subst hn0
    cases te with
    | true =>
      by_cases hz : nl = il
      · have qz : decide (ns.length = its.length) = true := decide_eq_true (by rw [hnl, hil]; exact hz)
        have qz2 : ((nl : Int) == (il : Int)) = true := by rw [beq_iff_eq]; omega
        clear hz
        rw [qz] at HQe
        go_wp2_with fail
        refine (HIC.out _ HF1.out).mono ?_
        rintro e w2 ⟨rfl, hb2⟩
        have HB2 : Hid (Below w.heap.size w w2) := HF1.out.trans (hb2.mono HF1.out.size)
        have HBk2 : Hid (Blk w2 g #[.int .i64 6, .int .i64 0, .string tb, .slice na nl nc, .slice ia il ic] 26) := HB1.out.below hb2
        clear x0 x1 x2 x3 x4 hb2
        cases si with
        | true =>
          obtain ⟨x0, x1, x2, x3, x4, -⟩ := Blk.five HBk2.out
          go_wp2_with fail
          refine (HUC.out _ HB2.out).mono ?_
          rintro e w3 ⟨rfl, hb3⟩
          have HB3 : Hid (Below w.heap.size w w3) := HB2.out.trans (hb3.mono HB2.out.size)
          have HQ : Hid (Q = un) := by rw [Hid, HQe.out]; simp [Bool.true_and]
          go_wp2
          go_ret
          exact ⟨by rw [HQ.out]; rfl, HB3.out⟩
        | false =>
          have HQ : Hid (Q = false) := by rw [Hid, HQe.out]; simp
          go_wp2
          go_ret
          exact ⟨by rw [HQ.out]; rfl, HB2.out⟩
      · have qz : decide (ns.length = its.length) = false := decide_eq_false (by rw [hnl, hil]; exact hz)
        have qz2 : ((nl : Int) == (il : Int)) = false := by rw [beq_eq_false_iff_ne]; omega
        clear hz
        rw [qz] at HQe
        have HQ : Hid (Q = false) := by rw [Hid, HQe.out]; simp [Bool.and_false]
        go_wp2
        go_ret
        exact ⟨by rw [HQ.out]; rfl, HF1.out⟩
    | false =>
      have HQ : Hid (Q = false) := by rw [Hid, HQe.out]; simp []
      go_wp2
      go_ret
      exact ⟨by rw [HQ.out]; rfl, HF1.out⟩
  · have qn : (n == 0) = false := by simpa using hn0
    have HQ : Hid (Q = false) := by rw [Hid, HQe.out]; simp [qn]
    go_wp2
    go_ret
    exact ⟨by rw [HQ.out]; rfl, HF1.out⟩
end Go.Proofs.YtelhgjepjieocaaDoor

/- Layer 18 (json): sound of one kind. -/
namespace Go.Proofs.YtelhgjepjieocaaDoor
open Go.RowKit Go.MapKept Go.Sort
set_option linter.unusedVariables false

set_option maxRecDepth 100000 in
set_option maxHeartbeats 4000000 in
theorem soundO_calls (k n : Int) (t : ByteArray) (d nl nc il ic : Nat) (na ia : Option Addr) (w : World) (h1 : k ≠ 1) (h2 : k ≠ 2) (h3 : k ≠ 3) (h4 : k ≠ 4) (h5 : k ≠ 5) (h6 : k ≠ 6) :
    Calls Tryd.prog 30 #[.agg (jC k n t (.slice na nl nc) (.slice ia il ic)), .int .i64 (d : Int)] w fun e w' => e = .returned (.bool false) ∧ Below w.heap.size w w' := by
  obtain ⟨w1, Hw1⟩ : ∃ w1, Hid (w1 = w.alloc (.cells #[.int .i64 k, .int .i64 n, .string t, .slice na nl nc, .slice ia il ic] 26)) := ⟨_, rfl⟩
  obtain ⟨g, Hg⟩ : ∃ g, Hid (g = w.heap.size) := ⟨_, rfl⟩
  have HB1 : Hid (Blk w1 g #[.int .i64 k, .int .i64 n, .string t, .slice na nl nc, .slice ia il ic] 26) := by rw [Hid, Hw1.out, Hg.out]; exact Blk.new _ _ _
  have HF1 : Hid (Below w.heap.size w w1) := by rw [Hid, Hw1.out]; exact below_new _ _
  obtain ⟨x0, x1, x2, x3, x4, -⟩ := Blk.five HB1.out
  have q1 : (k == 1) = false := by simpa using h1
  have q2 : (k == 2) = false := by simpa using h2
  have q3 : (k == 3) = false := by simpa using h3
  have q4 : (k == 4) = false := by simpa using h4
  have q5 : (k == 5) = false := by simpa using h5
  have q6 : (k == 6) = false := by simpa using h6
  clear h1 h2 h3 h4 h5 h6
  unfold jC
  go_enter Tryd.func30, Tryd.ntmps30
  go_upto_region 1 with fail
  rw [← Hw1.out, ← Hg.out]
  clear Hw1 Hg
  go_wp2
  go_ret
  exact ⟨rfl, HF1.out⟩
end Go.Proofs.YtelhgjepjieocaaDoor

/- Layer 18 (json): sound. -/
namespace Go.Proofs.YtelhgjepjieocaaDoor
open Go.RowKit Go.MapKept Go.Sort
set_option linter.unusedVariables false
theorem specS_of (k n : Int) (t : List UInt8) (ns : List (List UInt8)) (its : List Js) (IH : ∀ x ∈ its, SpecS x) : SpecS (.mk k n t ns its) := by
  intro d w S cs hd hr hj
  unfold Rng at hr
  obtain ⟨-, -, r3, r4, -, r6⟩ := hr
  unfold JAt at hj
  obtain ⟨na, nc, ia, ic, rfl, h2, h3, h4, h5⟩ := hj
  by_cases k1 : k = 1
  · subst k1; exact soundK1_calls n t ns its IH d _ nc _ ic na ia w S hd rfl rfl r3 r4 r6 h2 h5 h4
  by_cases k2 : k = 2
  · subst k2; exact soundK2_calls n t ns its IH d _ nc _ ic na ia w S hd rfl rfl r3 r4 r6 h2 h5 h4
  by_cases k3 : k = 3
  · subst k3; exact soundK3_calls n t ns its IH d _ nc _ ic na ia w S hd rfl rfl r3 r4 r6 h2 h5 h4
  by_cases k4 : k = 4
  · subst k4; exact soundK4_calls n t ns its IH d _ nc _ ic na ia w S hd rfl rfl r3 r4 r6 h2 h5 h4
  by_cases k5 : k = 5
  · subst k5; exact soundK5_calls n t ns its IH d _ nc _ ic na ia w S hd rfl rfl r3 r4 r6 h2 h5 h4
  by_cases k6 : k = 6
  · subst k6; exact soundK6_calls n t ns its IH d _ nc _ ic na ia w S hd rfl rfl r3 r4 r6 h2 h5 h4
  have hz : soundJ (.mk k n t ns its) d = false := by
    unfold soundJ
    simp [k1, k2, k3, k4, k5, k6]
  rw [hz]
  exact soundO_calls k n (nmB t) d _ nc _ ic na ia w k1 k2 k3 k4 k5 k6
mutual
theorem specS : ∀ v : Js, SpecS v
  | .mk k n t ns its => specS_of k n t ns its (specSs its)
theorem specSs : ∀ its : List Js, ∀ x ∈ its, SpecS x
  | [], x, hx => by cases hx
  | y :: ys, x, hx => by
    rcases List.mem_cons.1 hx with h | h
    · rw [h]; exact specS y
    · exact specSs ys x h
end
end Go.Proofs.YtelhgjepjieocaaDoor
