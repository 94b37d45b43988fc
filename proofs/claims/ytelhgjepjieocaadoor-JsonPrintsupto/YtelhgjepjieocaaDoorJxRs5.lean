import Derived.Test.YtelhgjepjieocaaDoorJxRs2
/- Layer 18 (json): the document's Sound of one kind. -/
namespace Go.Proofs.YtelhgjepjieocaaDoor
open Go.RowKit Go.MapKept Go.Sort
set_option linter.unusedVariables false
set_option linter.unusedSimpArgs false

set_option maxRecDepth 100000 in
set_option maxHeartbeats 16000000 in
theorem refSoundK3_calls (n : Int) (t : List UInt8) (ns : List (List UInt8)) (its : List Js) (IH : ∀ x ∈ its, SpecR x) (d nl nc il ic : Nat) (na ia : Option Addr) (w : World) (S : Nat → Prop) (hd : d ≤ 16) (hnl : ns.length = nl) (hil : its.length = il) (hnm : nl ≤ 140737488355328) (him : il ≤ 140737488355328) (hr : Rngs its) (hv : VAt w na (ns.map strV)) (hi : ItAt w S ia 0 its) (hs : ∀ a, ia = some a → its ≠ [] → S a.block) :
    Calls Tryd.prog 28 #[.agg (jC 3 n (nmB t) (.slice na nl nc) (.slice ia il ic)), .int .i64 ((d : Int) + 1)] w fun e w' => e = .returned (.bool (soundJ (.mk 3 n t ns its) d)) ∧ Below w.heap.size w w' := by
  obtain ⟨Q, HQ0⟩ : ∃ Q, Hid (Q = soundJ (.mk 3 n t ns its) d) := ⟨_, rfl⟩
  rw [← HQ0.out]
  have hne : ns.isEmpty = decide (nl = 0) := by rw [← hnl]; cases ns <;> simp
  have hie : its.isEmpty = decide (il = 0) := by rw [← hil]; cases its <;> simp
  have HQe : Hid (Q = (t.isEmpty && (decide (nl = 0) && decide (il = 0)))) := by
    rw [Hid, HQ0.out]
    conv => lhs; unfold soundJ
    simp [hne, hie, hnl, hil]
  have hte := empty_txt t
  obtain ⟨tb, Htb⟩ : ∃ tb, Hid (tb = nmB t) := ⟨_, rfl⟩
  obtain ⟨te, Hte⟩ : ∃ te, Hid (te = t.isEmpty) := ⟨_, rfl⟩
  rw [← Htb.out, ← Hte.out] at hte
  try rw [← Hte.out] at HQe
  rw [← Htb.out]
  obtain ⟨w1, Hw1⟩ : ∃ w1, Hid (w1 = w.alloc (.cells #[.int .i64 3, .int .i64 n, .string tb, .slice na nl nc, .slice ia il ic] 26)) := ⟨_, rfl⟩
  obtain ⟨g, Hg⟩ : ∃ g, Hid (g = w.heap.size) := ⟨_, rfl⟩
  have HB1 : Hid (Blk w1 g #[.int .i64 3, .int .i64 n, .string tb, .slice na nl nc, .slice ia il ic] 26) := by rw [Hid, Hw1.out, Hg.out]; exact Blk.new _ _ _
  have HF1 : Hid (Below w.heap.size w w1) := by rw [Hid, Hw1.out]; exact below_new _ _
  have HIH : Hid ((∀ x ∈ its, SpecR x) ∧ Rngs its ∧ its.length = il ∧ ns.length = nl) := ⟨IH, hr, hil, hnl⟩
  have HII : Hid (ItAt w S ia 0 its ∧ (∀ a, ia = some a → its ≠ [] → S a.block) ∧ VAt w na (ns.map strV)) := ⟨hi, hs, hv⟩
  obtain ⟨x0, x1, x2, x3, x4, -⟩ := Blk.five HB1.out
  clear IH hr hv hi hs HQ0 Htb Hte hnl hil hne hie
  unfold jC
  go_enter Tryd.func28, Tryd.ntmps28
  go_upto_region 1 with fail
  rw [← Hw1.out, ← Hg.out]
  clear Hw1 Hg
  cases te with
  | false =>
    have HQ : Hid (Q = false) := by rw [Hid, HQe.out]; simp []
    go_wp2
    go_ret
    exact ⟨by rw [HQ.out]; rfl, HF1.out⟩
  | true =>
    by_cases hl0 : nl = 0
    · subst hl0
      by_cases hi0 : il = 0
      · subst hi0
        have HQ : Hid (Q = true) := by rw [Hid, HQe.out]; simp
        go_wp2
        go_ret
        exact ⟨by rw [HQ.out]; rfl, HF1.out⟩
      · have qi : (0 : Int) < (il : Int) := by omega
        have HQ : Hid (Q = false) := by rw [Hid, HQe.out]; simp [hi0]
        go_wp2
        go_ret
        exact ⟨by rw [HQ.out]; rfl, HF1.out⟩
    · have ql : (0 : Int) < (nl : Int) := by omega
      have HQ : Hid (Q = false) := by rw [Hid, HQe.out]; simp [hl0]
      go_wp2
      go_ret
      exact ⟨by rw [HQ.out]; rfl, HF1.out⟩
end Go.Proofs.YtelhgjepjieocaaDoor

/- Layer 18 (json): the document's Sound of one kind. -/
namespace Go.Proofs.YtelhgjepjieocaaDoor
open Go.RowKit Go.MapKept Go.Sort
set_option linter.unusedVariables false
set_option linter.unusedSimpArgs false

set_option maxRecDepth 100000 in
set_option maxHeartbeats 16000000 in
theorem refSoundK4_calls (n : Int) (t : List UInt8) (ns : List (List UInt8)) (its : List Js) (IH : ∀ x ∈ its, SpecR x) (d nl nc il ic : Nat) (na ia : Option Addr) (w : World) (S : Nat → Prop) (hd : d ≤ 16) (hnl : ns.length = nl) (hil : its.length = il) (hnm : nl ≤ 140737488355328) (him : il ≤ 140737488355328) (hr : Rngs its) (hv : VAt w na (ns.map strV)) (hi : ItAt w S ia 0 its) (hs : ∀ a, ia = some a → its ≠ [] → S a.block) :
    Calls Tryd.prog 28 #[.agg (jC 4 n (nmB t) (.slice na nl nc) (.slice ia il ic)), .int .i64 ((d : Int) + 1)] w fun e w' => e = .returned (.bool (soundJ (.mk 4 n t ns its) d)) ∧ Below w.heap.size w w' := by
  obtain ⟨Q, HQ0⟩ : ∃ Q, Hid (Q = soundJ (.mk 4 n t ns its) d) := ⟨_, rfl⟩
  rw [← HQ0.out]
  have hne : ns.isEmpty = decide (nl = 0) := by rw [← hnl]; cases ns <;> simp
  have hie : its.isEmpty = decide (il = 0) := by rw [← hil]; cases its <;> simp
  have HQe : Hid (Q = (n == 0 && (decide (nl = 0) && decide (il = 0)))) := by
    rw [Hid, HQ0.out]
    conv => lhs; unfold soundJ
    simp [hne, hie, hnl, hil]
  have hte := empty_txt t
  obtain ⟨tb, Htb⟩ : ∃ tb, Hid (tb = nmB t) := ⟨_, rfl⟩
  obtain ⟨te, Hte⟩ : ∃ te, Hid (te = t.isEmpty) := ⟨_, rfl⟩
  rw [← Htb.out, ← Hte.out] at hte
  try rw [← Hte.out] at HQe
  rw [← Htb.out]
  obtain ⟨w1, Hw1⟩ : ∃ w1, Hid (w1 = w.alloc (.cells #[.int .i64 4, .int .i64 n, .string tb, .slice na nl nc, .slice ia il ic] 26)) := ⟨_, rfl⟩
  obtain ⟨g, Hg⟩ : ∃ g, Hid (g = w.heap.size) := ⟨_, rfl⟩
  have HB1 : Hid (Blk w1 g #[.int .i64 4, .int .i64 n, .string tb, .slice na nl nc, .slice ia il ic] 26) := by rw [Hid, Hw1.out, Hg.out]; exact Blk.new _ _ _
  have HF1 : Hid (Below w.heap.size w w1) := by rw [Hid, Hw1.out]; exact below_new _ _
  have HIH : Hid ((∀ x ∈ its, SpecR x) ∧ Rngs its ∧ its.length = il ∧ ns.length = nl) := ⟨IH, hr, hil, hnl⟩
  have HII : Hid (ItAt w S ia 0 its ∧ (∀ a, ia = some a → its ≠ [] → S a.block) ∧ VAt w na (ns.map strV)) := ⟨hi, hs, hv⟩
  obtain ⟨x0, x1, x2, x3, x4, -⟩ := Blk.five HB1.out
  clear IH hr hv hi hs HQ0 Htb Hte hnl hil hne hie
  unfold jC
  go_enter Tryd.func28, Tryd.ntmps28
  go_upto_region 1 with fail
  rw [← Hw1.out, ← Hg.out]
  clear Hw1 Hg
  by_cases hn0 : n = 0
  · subst hn0
    by_cases hl0 : nl = 0
    · subst hl0
      by_cases hi0 : il = 0
      · subst hi0
        have HQ : Hid (Q = true) := by rw [Hid, HQe.out]; simp
        go_wp2
        go_ret
        exact ⟨by rw [HQ.out]; rfl, HF1.out⟩
      · have qi : (0 : Int) < (il : Int) := by omega
        have HQ : Hid (Q = false) := by rw [Hid, HQe.out]; simp [hi0]
        go_wp2
        go_ret
        exact ⟨by rw [HQ.out]; rfl, HF1.out⟩
    · have ql : (0 : Int) < (nl : Int) := by omega
      have HQ : Hid (Q = false) := by rw [Hid, HQe.out]; simp [hl0]
      go_wp2
      go_ret
      exact ⟨by rw [HQ.out]; rfl, HF1.out⟩
  · have qn : (n == 0) = false := by simpa using hn0
    have qn2 : (n != 0) = true := by simpa using hn0
    have HQ : Hid (Q = false) := by rw [Hid, HQe.out]; simp [hn0]
    go_wp2
    go_ret
    exact ⟨by rw [HQ.out]; rfl, HF1.out⟩
end Go.Proofs.YtelhgjepjieocaaDoor

/- Layer 18 (json): the document's Sound of one kind. -/
namespace Go.Proofs.YtelhgjepjieocaaDoor
open Go.RowKit Go.MapKept Go.Sort
set_option linter.unusedVariables false
set_option linter.unusedSimpArgs false

set_option maxRecDepth 100000 in
set_option maxHeartbeats 16000000 in
theorem refSoundK5_calls (n : Int) (t : List UInt8) (ns : List (List UInt8)) (its : List Js) (IH : ∀ x ∈ its, SpecR x) (d nl nc il ic : Nat) (na ia : Option Addr) (w : World) (S : Nat → Prop) (hd : d ≤ 16) (hnl : ns.length = nl) (hil : its.length = il) (hnm : nl ≤ 140737488355328) (him : il ≤ 140737488355328) (hr : Rngs its) (hv : VAt w na (ns.map strV)) (hi : ItAt w S ia 0 its) (hs : ∀ a, ia = some a → its ≠ [] → S a.block) :
    Calls Tryd.prog 28 #[.agg (jC 5 n (nmB t) (.slice na nl nc) (.slice ia il ic)), .int .i64 ((d : Int) + 1)] w fun e w' => e = .returned (.bool (soundJ (.mk 5 n t ns its) d)) ∧ Below w.heap.size w w' := by
  obtain ⟨Q, HQ0⟩ : ∃ Q, Hid (Q = soundJ (.mk 5 n t ns its) d) := ⟨_, rfl⟩
  rw [← HQ0.out]
  have hne : ns.isEmpty = decide (nl = 0) := by rw [← hnl]; cases ns <;> simp
  have hie : its.isEmpty = decide (il = 0) := by rw [← hil]; cases its <;> simp
  have HQe : Hid (Q = (n == 0 && t.isEmpty && decide (nl = 0) && (decide (d < 16) && allS its (d + 1)))) := by
    rw [Hid, HQ0.out]
    conv => lhs; unfold soundJ
    simp [hne, hie, hnl, hil]
  have hte := empty_txt t
  obtain ⟨tb, Htb⟩ : ∃ tb, Hid (tb = nmB t) := ⟨_, rfl⟩
  obtain ⟨te, Hte⟩ : ∃ te, Hid (te = t.isEmpty) := ⟨_, rfl⟩
  rw [← Htb.out, ← Hte.out] at hte
  try rw [← Hte.out] at HQe
  rw [← Htb.out]
  obtain ⟨w1, Hw1⟩ : ∃ w1, Hid (w1 = w.alloc (.cells #[.int .i64 5, .int .i64 n, .string tb, .slice na nl nc, .slice ia il ic] 26)) := ⟨_, rfl⟩
  obtain ⟨g, Hg⟩ : ∃ g, Hid (g = w.heap.size) := ⟨_, rfl⟩
  have HB1 : Hid (Blk w1 g #[.int .i64 5, .int .i64 n, .string tb, .slice na nl nc, .slice ia il ic] 26) := by rw [Hid, Hw1.out, Hg.out]; exact Blk.new _ _ _
  have HF1 : Hid (Below w.heap.size w w1) := by rw [Hid, Hw1.out]; exact below_new _ _
  have HIH : Hid ((∀ x ∈ its, SpecR x) ∧ Rngs its ∧ its.length = il ∧ ns.length = nl) := ⟨IH, hr, hil, hnl⟩
  have HII : Hid (ItAt w S ia 0 its ∧ (∀ a, ia = some a → its ≠ [] → S a.block) ∧ VAt w na (ns.map strV)) := ⟨hi, hs, hv⟩
  obtain ⟨x0, x1, x2, x3, x4, -⟩ := Blk.five HB1.out
  clear IH hr hv hi hs HQ0 Htb Hte hnl hil hne hie
  unfold jC
  go_enter Tryd.func28, Tryd.ntmps28
  go_upto_region 1 with fail
  rw [← Hw1.out, ← Hg.out]
  clear Hw1 Hg
  cases te with
  | false =>
    have HQ : Hid (Q = false) := by rw [Hid, HQe.out]; simp []
    go_wp2
    go_ret
    exact ⟨by rw [HQ.out]; rfl, HF1.out⟩
  | true =>
    by_cases hn0 : n = 0
    · subst hn0
      by_cases hl0 : nl = 0
      · subst hl0
        by_cases hd16 : d < 16
        · have i16 : ¬ ((16 : Int) < (d : Int) + 1) := by omega
          have HLQ : Hid (Below w.heap.size w w1 ∧ Q = allS (its.drop 0) (d + 1)) := ⟨HF1.out, by rw [HQe.out, List.drop_zero]; simp [hd16]⟩
          have HB0 := HB1
          go_wp2
          go_loopw [5, 99] (fun x i wr => i = .int .i64 0 ∧ wr = w1) (fun _ _ _ => 0)
          case atStart => exact ⟨rfl, rfl⟩
          case round =>
            obtain ⟨rfl, rfl⟩ := hrel
            go_wp2
            go_loopw [8, 122] (fun x i wr => ∃ k : Nat, k ≤ il ∧ i = .int .i64 (k : Int) ∧ Hid (Below w.heap.size w wr ∧ Q = allS (its.drop k) (d + 1))) (fun _ i _ => il - (intOf i).toNat)
            case atStart => exact ⟨0, Nat.zero_le _, rfl, HLQ.out⟩
            case round =>
              clear HLQ
              obtain ⟨k, hk, rfl, HI⟩ := hrel
              by_cases hlt : k < il
              · have hkl : k < its.length := by rw [HIH.out.2.2.1]; exact hlt
                obtain ⟨b, off, cs, rfl, h5, hcell, hj⟩ := ItAt.get its 0 k hkl (HII.out.1.below HII.out.2.1 HI.out.1)
                obtain ⟨xk, xn, xt, xa, xl, xc, ya, yl, yc, hcs⟩ := JAt.cs hj
                subst hcs
                simp only [Nat.zero_add] at hcell
                have q0 := hcell 0 _ rfl
                have q1 := hcell 1 _ rfl
                have q2 := hcell 2 _ rfl
                have q3 := hcell 3 _ rfl
                have q4 := hcell 4 _ rfl
                simp only [Nat.add_zero] at q0
                obtain ⟨w5, Hw5⟩ : ∃ w5, Hid (w5 = wr.alloc (.cells #[.int .i64 xk, .int .i64 xn, .string xt, .slice xa xl xc, .slice ya yl yc] 26)) := ⟨_, rfl⟩
                obtain ⟨g5, Hg5⟩ : ∃ g5, Hid (g5 = wr.heap.size) := ⟨_, rfl⟩
                have hb5 : Below wr.heap.size wr w5 := by rw [Hw5.out]; exact below_new _ _
                have HBk : Hid (Blk w5 g5 #[.int .i64 xk, .int .i64 xn, .string xt, .slice xa xl xc, .slice ya yl yc] 26) := by rw [Hid, Hw5.out, Hg5.out]; exact Blk.new _ _ _
                obtain ⟨x0, x1, x2, x3, x4, -⟩ := Blk.five HBk.out
                have HC := HIH.out.1 _ (List.getElem_mem hkl) (d + 1) w5 S _ (by omega) (Rngs.mem HIH.out.2.1 _ (List.getElem_mem hkl)) (hj.below hb5)
                rw [show ((d + 1 : Nat) : Int) = (d : Int) + 1 by omega] at HC
                have HB5 : Hid (Below w.heap.size w w5) := HI.out.1.trans (hb5.mono HI.out.1.size)
                have HE := HI.out.2
                rw [allS_drop hkl] at HE
                obtain ⟨sv, Hsv⟩ : ∃ sv, Hid (sv = soundJ (its[k]'hkl) (d + 1)) := ⟨soundJ (its[k]'hkl) (d + 1), rfl⟩
                rw [← Hsv.out] at HC HE
                have HE2 : Hid (Q = (sv && allS (its.drop (k + 1)) (d + 1))) := HE
                clear HI hcell hj hb5 HE Hsv
                go_upto_region 22 with fail
                rw [← Hw5.out, ← Hg5.out]
                clear Hw5 Hg5 q0 q1 q2 q3 q4
                go_wp2_with fail
                refine HC.mono ?_
                clear HC
                rintro e w6 ⟨rfl, hb6⟩
                have HB6 : Hid (Below w.heap.size w w6) := HB5.out.trans (hb6.mono HB5.out.size)
                clear hb6 x0 x1 x2 x3 x4
                cases sv with
                | true =>
                  have HN : Hid (Below w.heap.size w w6 ∧ Q = allS (its.drop (k + 1)) (d + 1)) := ⟨HB6.out, by rw [HE2.out, Bool.true_and]⟩
                  go_wp2
                  go_roundw
                  case rel => exact ⟨k + 1, by omega, by go_num, HN⟩
                  case measure => simp [intOf]; omega
                | false =>
                  have HN : Hid (Q = false) := by rw [Hid, HE2.out, Bool.false_and]
                  go_wp2
                  go_ret
                  exact ⟨by rw [HN.out]; rfl, HB6.out⟩
              · have HN : Hid (Q = true) := by
                  rw [Hid, HI.out.2, List.drop_of_length_le (by rw [HIH.out.2.2.1]; omega)]
                  unfold allS; rfl
                go_wp2
                go_ret
                exact ⟨by rw [HN.out]; rfl, HI.out.1⟩
        · have i16 : (16 : Int) < (d : Int) + 1 := by omega
          have HQ : Hid (Q = false) := by rw [Hid, HQe.out]; simp [hd16]
          go_wp2
          go_ret
          exact ⟨by rw [HQ.out]; rfl, HF1.out⟩
      · have ql : (0 : Int) < (nl : Int) := by omega
        have HQ : Hid (Q = false) := by rw [Hid, HQe.out]; simp [hl0]
        go_wp2
        go_ret
        exact ⟨by rw [HQ.out]; rfl, HF1.out⟩
    · have qn : (n == 0) = false := by simpa using hn0
      have qn2 : (n != 0) = true := by simpa using hn0
      have HQ : Hid (Q = false) := by rw [Hid, HQe.out]; simp [hn0]
      go_wp2
      go_ret
      exact ⟨by rw [HQ.out]; rfl, HF1.out⟩
end Go.Proofs.YtelhgjepjieocaaDoor
