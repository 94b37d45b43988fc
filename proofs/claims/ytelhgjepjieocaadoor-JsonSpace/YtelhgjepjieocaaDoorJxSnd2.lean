import Derived.Test.YtelhgjepjieocaaDoorJxSame
/- Layer 18 (json): sound of one kind. -/
namespace Go.Proofs.YtelhgjepjieocaaDoor
open Go.RowKit Go.MapKept Go.Sort
set_option linter.unusedVariables false

set_option maxRecDepth 100000 in
set_option maxHeartbeats 16000000 in
theorem soundK1_calls (n : Int) (t : List UInt8) (ns : List (List UInt8)) (its : List Js) (IH : ∀ x ∈ its, SpecS x) (d nl nc il ic : Nat) (na ia : Option Addr) (w : World) (S : Nat → Prop) (hd : d ≤ 17) (hnl : ns.length = nl) (hil : its.length = il) (hnm : nl ≤ 140737488355328) (him : il ≤ 140737488355328) (hr : Rngs its) (hv : VAt w na (ns.map strV)) (hi : ItAt w S ia 0 its) (hs : ∀ a, ia = some a → its ≠ [] → S a.block) :
    Calls Tryd.prog 30 #[.agg (jC 1 n (nmB t) (.slice na nl nc) (.slice ia il ic)), .int .i64 (d : Int)] w fun e w' => e = .returned (.bool (soundJ (.mk 1 n t ns its) d)) ∧ Below w.heap.size w w' := by
  obtain ⟨Q, HQ0⟩ : ∃ Q, Hid (Q = soundJ (.mk 1 n t ns its) d) := ⟨_, rfl⟩
  rw [← HQ0.out]
  have HQe : Hid (Q = (n == 0 && t.isEmpty && (ns.isEmpty && its.isEmpty))) := by
    rw [Hid, HQ0.out]
    conv => lhs; unfold soundJ
    simp
  have hte := empty_txt t
  obtain ⟨tb, Htb⟩ : ∃ tb, Hid (tb = nmB t) := ⟨_, rfl⟩
  obtain ⟨te, Hte⟩ : ∃ te, Hid (te = t.isEmpty) := ⟨_, rfl⟩
  rw [← Htb.out, ← Hte.out] at hte
  rw [← Hte.out] at HQe
  rw [← Htb.out]
  obtain ⟨w1, Hw1⟩ : ∃ w1, Hid (w1 = w.alloc (.cells #[.int .i64 1, .int .i64 n, .string tb, .slice na nl nc, .slice ia il ic] 26)) := ⟨_, rfl⟩
  obtain ⟨g, Hg⟩ : ∃ g, Hid (g = w.heap.size) := ⟨_, rfl⟩
  have HB1 : Hid (Blk w1 g #[.int .i64 1, .int .i64 n, .string tb, .slice na nl nc, .slice ia il ic] 26) := by rw [Hid, Hw1.out, Hg.out]; exact Blk.new _ _ _
  have HF1 : Hid (Below w.heap.size w w1) := by rw [Hid, Hw1.out]; exact below_new _ _
  obtain ⟨x0, x1, x2, x3, x4, -⟩ := Blk.five HB1.out
  have HPC := hasParts_calls 1 n tb na ia nl nc il ic w1
  rw [parts_or hnl hil] at HPC
  obtain ⟨pe, Hpe⟩ : ∃ pe, Hid (pe = (ns.isEmpty && its.isEmpty)) := ⟨_, rfl⟩
  rw [← Hpe.out] at HPC HQe
  unfold jC at HPC

  clear IH hr hv hi hs HQ0 Htb Hte
  unfold jC
  go_enter Tryd.func30, Tryd.ntmps30
  go_upto_region 1 with fail
  rw [← Hw1.out, ← Hg.out]
  clear Hw1 Hg
  by_cases hn0 : n = 0
  · subst hn0
    cases te with
    | true =>
      go_wp2_with fail
      refine HPC.mono ?_
      clear HPC
      rintro e w2 ⟨rfl, hb2⟩
      have HB2 : Hid (Below w.heap.size w w2) := HF1.out.trans (hb2.mono HF1.out.size)
      cases pe with
      | true =>
        have HQ : Hid (Q = true) := by rw [Hid, HQe.out]; simp []
        go_wp2
        go_ret
        exact ⟨by rw [HQ.out]; rfl, HB2.out⟩
      | false =>
        have HQ : Hid (Q = false) := by rw [Hid, HQe.out]; simp []
        go_wp2
        go_ret
        exact ⟨by rw [HQ.out]; rfl, HB2.out⟩
    | false =>
      have HQ : Hid (Q = false) := by rw [Hid, HQe.out]; simp []
      go_wp2
      go_ret
      exact ⟨by rw [HQ.out]; rfl, HF1.out⟩
  · have qn : (n == 0) = false := by simpa using hn0
    have HQ : Hid (Q = false) := by rw [Hid, HQe.out]; simp [qn]
    go_wp2
    go_ret
    exact ⟨by rw [HQ.out]; rfl, HF1.out⟩
end Go.Proofs.YtelhgjepjieocaaDoor

/- Layer 18 (json): sound of one kind. -/
namespace Go.Proofs.YtelhgjepjieocaaDoor
open Go.RowKit Go.MapKept Go.Sort
set_option linter.unusedVariables false

set_option maxRecDepth 100000 in
set_option maxHeartbeats 16000000 in
theorem soundK3_calls (n : Int) (t : List UInt8) (ns : List (List UInt8)) (its : List Js) (IH : ∀ x ∈ its, SpecS x) (d nl nc il ic : Nat) (na ia : Option Addr) (w : World) (S : Nat → Prop) (hd : d ≤ 17) (hnl : ns.length = nl) (hil : its.length = il) (hnm : nl ≤ 140737488355328) (him : il ≤ 140737488355328) (hr : Rngs its) (hv : VAt w na (ns.map strV)) (hi : ItAt w S ia 0 its) (hs : ∀ a, ia = some a → its ≠ [] → S a.block) :
    Calls Tryd.prog 30 #[.agg (jC 3 n (nmB t) (.slice na nl nc) (.slice ia il ic)), .int .i64 (d : Int)] w fun e w' => e = .returned (.bool (soundJ (.mk 3 n t ns its) d)) ∧ Below w.heap.size w w' := by
  obtain ⟨Q, HQ0⟩ : ∃ Q, Hid (Q = soundJ (.mk 3 n t ns its) d) := ⟨_, rfl⟩
  rw [← HQ0.out]
  have HQe : Hid (Q = (t.isEmpty && (ns.isEmpty && its.isEmpty))) := by
    rw [Hid, HQ0.out]
    conv => lhs; unfold soundJ
    simp
  have hte := empty_txt t
  obtain ⟨tb, Htb⟩ : ∃ tb, Hid (tb = nmB t) := ⟨_, rfl⟩
  obtain ⟨te, Hte⟩ : ∃ te, Hid (te = t.isEmpty) := ⟨_, rfl⟩
  rw [← Htb.out, ← Hte.out] at hte
  rw [← Hte.out] at HQe
  rw [← Htb.out]
  obtain ⟨w1, Hw1⟩ : ∃ w1, Hid (w1 = w.alloc (.cells #[.int .i64 3, .int .i64 n, .string tb, .slice na nl nc, .slice ia il ic] 26)) := ⟨_, rfl⟩
  obtain ⟨g, Hg⟩ : ∃ g, Hid (g = w.heap.size) := ⟨_, rfl⟩
  have HB1 : Hid (Blk w1 g #[.int .i64 3, .int .i64 n, .string tb, .slice na nl nc, .slice ia il ic] 26) := by rw [Hid, Hw1.out, Hg.out]; exact Blk.new _ _ _
  have HF1 : Hid (Below w.heap.size w w1) := by rw [Hid, Hw1.out]; exact below_new _ _
  obtain ⟨x0, x1, x2, x3, x4, -⟩ := Blk.five HB1.out
  have HPC := hasParts_calls 3 n tb na ia nl nc il ic w1
  rw [parts_or hnl hil] at HPC
  obtain ⟨pe, Hpe⟩ : ∃ pe, Hid (pe = (ns.isEmpty && its.isEmpty)) := ⟨_, rfl⟩
  rw [← Hpe.out] at HPC HQe
  unfold jC at HPC

  clear IH hr hv hi hs HQ0 Htb Hte
  unfold jC
  go_enter Tryd.func30, Tryd.ntmps30
  go_upto_region 1 with fail
  rw [← Hw1.out, ← Hg.out]
  clear Hw1 Hg
  cases te with
  | true =>
    go_wp2_with fail
    refine HPC.mono ?_
    clear HPC
    rintro e w2 ⟨rfl, hb2⟩
    have HB2 : Hid (Below w.heap.size w w2) := HF1.out.trans (hb2.mono HF1.out.size)
    cases pe with
    | true =>
      have HQ : Hid (Q = true) := by rw [Hid, HQe.out]; simp []
      go_wp2
      go_ret
      exact ⟨by rw [HQ.out]; rfl, HB2.out⟩
    | false =>
      have HQ : Hid (Q = false) := by rw [Hid, HQe.out]; simp []
      go_wp2
      go_ret
      exact ⟨by rw [HQ.out]; rfl, HB2.out⟩
  | false =>
    have HQ : Hid (Q = false) := by rw [Hid, HQe.out]; simp []
    go_wp2
    go_ret
    exact ⟨by rw [HQ.out]; rfl, HF1.out⟩
end Go.Proofs.YtelhgjepjieocaaDoor

/- Layer 18 (json): sound of one kind. -/
namespace Go.Proofs.YtelhgjepjieocaaDoor
open Go.RowKit Go.MapKept Go.Sort
set_option linter.unusedVariables false

set_option maxRecDepth 100000 in
set_option maxHeartbeats 16000000 in
theorem soundK2_calls (n : Int) (t : List UInt8) (ns : List (List UInt8)) (its : List Js) (IH : ∀ x ∈ its, SpecS x) (d nl nc il ic : Nat) (na ia : Option Addr) (w : World) (S : Nat → Prop) (hd : d ≤ 17) (hnl : ns.length = nl) (hil : its.length = il) (hnm : nl ≤ 140737488355328) (him : il ≤ 140737488355328) (hr : Rngs its) (hv : VAt w na (ns.map strV)) (hi : ItAt w S ia 0 its) (hs : ∀ a, ia = some a → its ≠ [] → S a.block) :
    Calls Tryd.prog 30 #[.agg (jC 2 n (nmB t) (.slice na nl nc) (.slice ia il ic)), .int .i64 (d : Int)] w fun e w' => e = .returned (.bool (soundJ (.mk 2 n t ns its) d)) ∧ Below w.heap.size w w' := by
  obtain ⟨Q, HQ0⟩ : ∃ Q, Hid (Q = soundJ (.mk 2 n t ns its) d) := ⟨_, rfl⟩
  rw [← HQ0.out]
  have HQe : Hid (Q = ((n == 0 || n == 1) && t.isEmpty && (ns.isEmpty && its.isEmpty))) := by
    rw [Hid, HQ0.out]
    conv => lhs; unfold soundJ
    simp
  have hte := empty_txt t
  obtain ⟨tb, Htb⟩ : ∃ tb, Hid (tb = nmB t) := ⟨_, rfl⟩
  obtain ⟨te, Hte⟩ : ∃ te, Hid (te = t.isEmpty) := ⟨_, rfl⟩
  rw [← Htb.out, ← Hte.out] at hte
  rw [← Hte.out] at HQe
  rw [← Htb.out]
  obtain ⟨w1, Hw1⟩ : ∃ w1, Hid (w1 = w.alloc (.cells #[.int .i64 2, .int .i64 n, .string tb, .slice na nl nc, .slice ia il ic] 26)) := ⟨_, rfl⟩
  obtain ⟨g, Hg⟩ : ∃ g, Hid (g = w.heap.size) := ⟨_, rfl⟩
  have HB1 : Hid (Blk w1 g #[.int .i64 2, .int .i64 n, .string tb, .slice na nl nc, .slice ia il ic] 26) := by rw [Hid, Hw1.out, Hg.out]; exact Blk.new _ _ _
  have HF1 : Hid (Below w.heap.size w w1) := by rw [Hid, Hw1.out]; exact below_new _ _
  obtain ⟨x0, x1, x2, x3, x4, -⟩ := Blk.five HB1.out
  have HPC := hasParts_calls 2 n tb na ia nl nc il ic w1
  rw [parts_or hnl hil] at HPC
  obtain ⟨pe, Hpe⟩ : ∃ pe, Hid (pe = (ns.isEmpty && its.isEmpty)) := ⟨_, rfl⟩
  rw [← Hpe.out] at HPC HQe
  unfold jC at HPC

  clear IH hr hv hi hs HQ0 Htb Hte
  unfold jC
  go_enter Tryd.func30, Tryd.ntmps30
  go_upto_region 1 with fail
  rw [← Hw1.out, ← Hg.out]
  clear Hw1 Hg
  by_cases hn0 : n = 0
  · subst hn0
    cases te with
    | true =>
      go_wp2_with fail
      refine HPC.mono ?_
      clear HPC
      rintro e w2 ⟨rfl, hb2⟩
      have HB2 : Hid (Below w.heap.size w w2) := HF1.out.trans (hb2.mono HF1.out.size)
      cases pe with
      | true =>
        have HQ : Hid (Q = true) := by rw [Hid, HQe.out]; simp []
        go_wp2
        go_ret
        exact ⟨by rw [HQ.out]; rfl, HB2.out⟩
      | false =>
        have HQ : Hid (Q = false) := by rw [Hid, HQe.out]; simp []
        go_wp2
        go_ret
        exact ⟨by rw [HQ.out]; rfl, HB2.out⟩
    | false =>
      have HQ : Hid (Q = false) := by rw [Hid, HQe.out]; simp []
      go_wp2
      go_ret
      exact ⟨by rw [HQ.out]; rfl, HF1.out⟩
  · have qn : (n == 0) = false := by simpa using hn0
    by_cases hn1 : n = 1
    · subst hn1
      cases te with
      | true =>
        go_wp2_with fail
        refine HPC.mono ?_
        clear HPC
        rintro e w2 ⟨rfl, hb2⟩
        have HB2 : Hid (Below w.heap.size w w2) := HF1.out.trans (hb2.mono HF1.out.size)
        cases pe with
        | true =>
          have HQ : Hid (Q = true) := by rw [Hid, HQe.out]; simp []
          go_wp2
          go_ret
          exact ⟨by rw [HQ.out]; rfl, HB2.out⟩
        | false =>
          have HQ : Hid (Q = false) := by rw [Hid, HQe.out]; simp []
          go_wp2
          go_ret
          exact ⟨by rw [HQ.out]; rfl, HB2.out⟩
      | false =>
        have HQ : Hid (Q = false) := by rw [Hid, HQe.out]; simp []
        go_wp2
        go_ret
        exact ⟨by rw [HQ.out]; rfl, HF1.out⟩
    · have qn1 : (n == 1) = false := by simpa using hn1
      have HQ : Hid (Q = false) := by rw [Hid, HQe.out]; simp [qn, qn1]
      go_wp2
      go_ret
      exact ⟨by rw [HQ.out]; rfl, HF1.out⟩
end Go.Proofs.YtelhgjepjieocaaDoor
