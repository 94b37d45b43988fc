import Derived.Test.YtelhgjepjieocaaDoorJxSame
/- Layer 18 (json): what the document's Sound asks. -/
namespace Go.Proofs.YtelhgjepjieocaaDoor
open Go.RowKit Go.MapKept Go.Sort
set_option linter.unusedVariables false

def SpecR (v : Js) : Prop := ∀ (d : Nat) (w : World) (S : Nat → Prop) (cs : Array Value), d ≤ 16 → Rng v → JAt w S v cs → Calls Tryd.prog 28 #[.agg cs, .int .i64 ((d : Int) + 1)] w fun e w' => e = .returned (.bool (soundJ v d)) ∧ Below w.heap.size w w'
/-- No two of the first k names are alike. -/
def NoD (ns : List (List UInt8)) (k : Nat) : Prop := ∀ (a b : Nat) (ha : a < ns.length) (hb : b < ns.length), b < a → a < k → ns[a] ≠ ns[b]
end Go.Proofs.YtelhgjepjieocaaDoor

/- Layer 18 (json): the document's Sound of one kind. -/
namespace Go.Proofs.YtelhgjepjieocaaDoor
open Go.RowKit Go.MapKept Go.Sort
set_option linter.unusedVariables false
set_option linter.unusedSimpArgs false

set_option maxRecDepth 100000 in
set_option maxHeartbeats 16000000 in
theorem refSoundK1_calls (n : Int) (t : List UInt8) (ns : List (List UInt8)) (its : List Js) (IH : ∀ x ∈ its, SpecR x) (d nl nc il ic : Nat) (na ia : Option Addr) (w : World) (S : Nat → Prop) (hd : d ≤ 16) (hnl : ns.length = nl) (hil : its.length = il) (hnm : nl ≤ 140737488355328) (him : il ≤ 140737488355328) (hr : Rngs its) (hv : VAt w na (ns.map strV)) (hi : ItAt w S ia 0 its) (hs : ∀ a, ia = some a → its ≠ [] → S a.block) :
    Calls Tryd.prog 28 #[.agg (jC 1 n (nmB t) (.slice na nl nc) (.slice ia il ic)), .int .i64 ((d : Int) + 1)] w fun e w' => e = .returned (.bool (soundJ (.mk 1 n t ns its) d)) ∧ Below w.heap.size w w' := by
  obtain ⟨Q, HQ0⟩ : ∃ Q, Hid (Q = soundJ (.mk 1 n t ns its) d) := ⟨_, rfl⟩
  rw [← HQ0.out]
  have hne : ns.isEmpty = decide (nl = 0) := by rw [← hnl]; cases ns <;> simp
  have hie : its.isEmpty = decide (il = 0) := by rw [← hil]; cases its <;> simp
  have HQe : Hid (Q = (n == 0 && t.isEmpty && (decide (nl = 0) && decide (il = 0)))) := by
    rw [Hid, HQ0.out]
    conv => lhs; unfold soundJ
    simp [hne, hie, hnl, hil]
  have hte := empty_txt t
  obtain ⟨tb, Htb⟩ : ∃ tb, Hid (tb = nmB t) := ⟨_, rfl⟩
  obtain ⟨te, Hte⟩ : ∃ te, Hid (te = t.isEmpty) := ⟨_, rfl⟩
  rw [← Htb.out, ← Hte.out] at hte
  try rw [← Hte.out] at HQe
  rw [← Htb.out]
  obtain ⟨w1, Hw1⟩ : ∃ w1, Hid (w1 = w.alloc (.cells #[.int .i64 1, .int .i64 n, .string tb, .slice na nl nc, .slice ia il ic] 26)) := ⟨_, rfl⟩
  obtain ⟨g, Hg⟩ : ∃ g, Hid (g = w.heap.size) := ⟨_, rfl⟩
  have HB1 : Hid (Blk w1 g #[.int .i64 1, .int .i64 n, .string tb, .slice na nl nc, .slice ia il ic] 26) := by rw [Hid, Hw1.out, Hg.out]; exact Blk.new _ _ _
  have HF1 : Hid (Below w.heap.size w w1) := by rw [Hid, Hw1.out]; exact below_new _ _
  have HIH : Hid ((∀ x ∈ its, SpecR x) ∧ Rngs its ∧ its.length = il ∧ ns.length = nl) := ⟨IH, hr, hil, hnl⟩
  have HII : Hid (ItAt w S ia 0 its ∧ (∀ a, ia = some a → its ≠ [] → S a.block) ∧ VAt w na (ns.map strV)) := ⟨hi, hs, hv⟩
  obtain ⟨x0, x1, x2, x3, x4, -⟩ := Blk.five HB1.out
  clear IH hr hv hi hs HQ0 Htb Hte hnl hil hne hie
  unfold jC
  go_enter Tryd.func28, Tryd.ntmps28
  go_upto_region 1 with fail
  rw [← Hw1.out, ← Hg.out]
  clear Hw1 Hg
  cases te with
  | false =>
    have HQ : Hid (Q = false) := by rw [Hid, HQe.out]; simp []
    go_wp2
    go_ret
    exact ⟨by rw [HQ.out]; rfl, HF1.out⟩
  | true =>
    by_cases hn0 : n = 0
    · subst hn0
      by_cases hl0 : nl = 0
      · subst hl0
        by_cases hi0 : il = 0
        · subst hi0
          have HQ : Hid (Q = true) := by rw [Hid, HQe.out]; simp
          go_wp2
          go_ret
          exact ⟨by rw [HQ.out]; rfl, HF1.out⟩
        · have qi : (0 : Int) < (il : Int) := by omega
          have HQ : Hid (Q = false) := by rw [Hid, HQe.out]; simp [hi0]
          go_wp2
          go_ret
          exact ⟨by rw [HQ.out]; rfl, HF1.out⟩
      · have ql : (0 : Int) < (nl : Int) := by omega
        have HQ : Hid (Q = false) := by rw [Hid, HQe.out]; simp [hl0]
        go_wp2
        go_ret
        exact ⟨by rw [HQ.out]; rfl, HF1.out⟩
    · have qn : (n == 0) = false := by simpa using hn0
      have qn2 : (n != 0) = true := by simpa using hn0
      have HQ : Hid (Q = false) := by rw [Hid, HQe.out]; simp [hn0]
      go_wp2
      go_ret
      exact ⟨by rw [HQ.out]; rfl, HF1.out⟩
end Go.Proofs.YtelhgjepjieocaaDoor

/- Layer 18 (json): the document's Sound of one kind. -/
namespace Go.Proofs.YtelhgjepjieocaaDoor
open Go.RowKit Go.MapKept Go.Sort
set_option linter.unusedVariables false
set_option linter.unusedSimpArgs false

set_option maxRecDepth 100000 in
set_option maxHeartbeats 16000000 in
theorem refSoundK2_calls (n : Int) (t : List UInt8) (ns : List (List UInt8)) (its : List Js) (IH : ∀ x ∈ its, SpecR x) (d nl nc il ic : Nat) (na ia : Option Addr) (w : World) (S : Nat → Prop) (hd : d ≤ 16) (hnl : ns.length = nl) (hil : its.length = il) (hnm : nl ≤ 140737488355328) (him : il ≤ 140737488355328) (hr : Rngs its) (hv : VAt w na (ns.map strV)) (hi : ItAt w S ia 0 its) (hs : ∀ a, ia = some a → its ≠ [] → S a.block) :
    Calls Tryd.prog 28 #[.agg (jC 2 n (nmB t) (.slice na nl nc) (.slice ia il ic)), .int .i64 ((d : Int) + 1)] w fun e w' => e = .returned (.bool (soundJ (.mk 2 n t ns its) d)) ∧ Below w.heap.size w w' := by
  obtain ⟨Q, HQ0⟩ : ∃ Q, Hid (Q = soundJ (.mk 2 n t ns its) d) := ⟨_, rfl⟩
  rw [← HQ0.out]
  have hne : ns.isEmpty = decide (nl = 0) := by rw [← hnl]; cases ns <;> simp
  have hie : its.isEmpty = decide (il = 0) := by rw [← hil]; cases its <;> simp
  have HQe : Hid (Q = ((n == 0 || n == 1) && t.isEmpty && (decide (nl = 0) && decide (il = 0)))) := by
    rw [Hid, HQ0.out]
    conv => lhs; unfold soundJ
    simp [hne, hie, hnl, hil]
  have hte := empty_txt t
  obtain ⟨tb, Htb⟩ : ∃ tb, Hid (tb = nmB t) := ⟨_, rfl⟩
  obtain ⟨te, Hte⟩ : ∃ te, Hid (te = t.isEmpty) := ⟨_, rfl⟩
  rw [← Htb.out, ← Hte.out] at hte
  try rw [← Hte.out] at HQe
  rw [← Htb.out]
  obtain ⟨w1, Hw1⟩ : ∃ w1, Hid (w1 = w.alloc (.cells #[.int .i64 2, .int .i64 n, .string tb, .slice na nl nc, .slice ia il ic] 26)) := ⟨_, rfl⟩
  obtain ⟨g, Hg⟩ : ∃ g, Hid (g = w.heap.size) := ⟨_, rfl⟩
  have HB1 : Hid (Blk w1 g #[.int .i64 2, .int .i64 n, .string tb, .slice na nl nc, .slice ia il ic] 26) := by rw [Hid, Hw1.out, Hg.out]; exact Blk.new _ _ _
  have HF1 : Hid (Below w.heap.size w w1) := by rw [Hid, Hw1.out]; exact below_new _ _
  have HIH : Hid ((∀ x ∈ its, SpecR x) ∧ Rngs its ∧ its.length = il ∧ ns.length = nl) := ⟨IH, hr, hil, hnl⟩
  have HII : Hid (ItAt w S ia 0 its ∧ (∀ a, ia = some a → its ≠ [] → S a.block) ∧ VAt w na (ns.map strV)) := ⟨hi, hs, hv⟩
  obtain ⟨x0, x1, x2, x3, x4, -⟩ := Blk.five HB1.out
  clear IH hr hv hi hs HQ0 Htb Hte hnl hil hne hie
  unfold jC
  go_enter Tryd.func28, Tryd.ntmps28
  go_upto_region 1 with fail
  rw [← Hw1.out, ← Hg.out]
  clear Hw1 Hg
  cases te with
  | false =>
    have HQ : Hid (Q = false) := by rw [Hid, HQe.out]; simp []
    go_wp2
    go_ret
    exact ⟨by rw [HQ.out]; rfl, HF1.out⟩
  | true =>
    by_cases hn0 : n = 0
    · subst hn0
      by_cases hl0 : nl = 0
      · subst hl0
        by_cases hi0 : il = 0
        · subst hi0
          have HQ : Hid (Q = true) := by rw [Hid, HQe.out]; simp
          go_wp2
          go_ret
          exact ⟨by rw [HQ.out]; rfl, HF1.out⟩
        · have qi : (0 : Int) < (il : Int) := by omega
          have HQ : Hid (Q = false) := by rw [Hid, HQe.out]; simp [hi0]
          go_wp2
          go_ret
          exact ⟨by rw [HQ.out]; rfl, HF1.out⟩
      · have ql : (0 : Int) < (nl : Int) := by omega
        have HQ : Hid (Q = false) := by rw [Hid, HQe.out]; simp [hl0]
        go_wp2
        go_ret
        exact ⟨by rw [HQ.out]; rfl, HF1.out⟩
    · by_cases hn1 : n = 1
      · subst hn1
        by_cases hl0 : nl = 0
        · subst hl0
          by_cases hi0 : il = 0
          · subst hi0
            have HQ : Hid (Q = true) := by rw [Hid, HQe.out]; simp
            go_wp2
            go_ret
            exact ⟨by rw [HQ.out]; rfl, HF1.out⟩
          · have qi : (0 : Int) < (il : Int) := by omega
            have HQ : Hid (Q = false) := by rw [Hid, HQe.out]; simp [hi0]
            go_wp2
            go_ret
            exact ⟨by rw [HQ.out]; rfl, HF1.out⟩
        · have ql : (0 : Int) < (nl : Int) := by omega
          have HQ : Hid (Q = false) := by rw [Hid, HQe.out]; simp [hl0]
          go_wp2
          go_ret
          exact ⟨by rw [HQ.out]; rfl, HF1.out⟩
      · have qn : (n == 0) = false := by simpa using hn0
        have qn2 : (n != 0) = true := by simpa using hn0
        have qn3 : (n == 1) = false := by simpa using hn1
        have qn4 : (n != 1) = true := by simpa using hn1
        have HQ : Hid (Q = false) := by rw [Hid, HQe.out]; simp [hn0, hn1]
        go_wp2
        go_ret
        exact ⟨by rw [HQ.out]; rfl, HF1.out⟩
end Go.Proofs.YtelhgjepjieocaaDoor
