/- The places of a node's kids among the paths. -/
import Derived.Test.YtcdfbbjakkmmoaaXNds
import Derived.Test.YtcdfbbjakkmmoaaXFind
namespace Go.Proofs.Ytcdfbbjakkmmoaa
open Go.RowKit
set_option linter.unusedVariables false

theorem startsB_iff (s p : List UInt8) : startsB s p = true ↔ p <+: s := by
  unfold startsB
  rw [Bool.and_eq_true, decide_eq_true_iff, beq_iff_eq]
  constructor
  · rintro ⟨-, h⟩; rw [← h]; exact List.take_prefix _ _
  · intro h; exact ⟨h.length_le, (List.prefix_iff_eq_take.1 h).symm⟩
theorem startsB_not (s p : List UInt8) : startsB s p = false ↔ ¬ p <+: s := by rw [← startsB_iff, Bool.not_eq_true]

def atP (P : List ByteArray) (i : Nat) : List UInt8 := kyb (P.getD i ⟨#[]⟩)
/-- One round of the document's Kids. -/
def kstep (P : List ByteArray) (out : List Nat) (j : Nat) : List Nat := if out = [] ∨ startsB (atP P j) (atP P (out.getLastD 0)) = false then out ++ [j] else out
/-- .. and m of them, from the place behind i on. -/
def kout (P : List ByteArray) (i : Nat) : Nat → List Nat
  | 0 => []
  | m + 1 => kstep P (kout P i m) (i + 1 + m)
theorem kstep_mem {P : List ByteArray} {out : List Nat} {j x : Nat} (h : x ∈ kstep P out j) : x = j ∨ x ∈ out := by
  unfold kstep at h
  split at h
  · rcases List.mem_append.1 h with h | h
    · exact .inr h
    · exact .inl (by simpa using h)
  · exact .inr h
theorem kout_lt (P : List ByteArray) (i : Nat) : ∀ (m x : Nat), x ∈ kout P i m → x < i + 1 + m
  | 0, x, h => by cases h
  | m + 1, x, h => by
    rcases kstep_mem h with h | h
    · omega
    · have := kout_lt P i m x h; omega
theorem kout_len (P : List ByteArray) (i : Nat) : ∀ m, (kout P i m).length ≤ m
  | 0 => Nat.le_refl _
  | m + 1 => by
    have := kout_len P i m
    show (kstep P (kout P i m) (i + 1 + m)).length ≤ m + 1
    unfold kstep; split
    · simp; omega
    · omega
/-- Across one kid with all beneath it. -/
theorem kout_block {P : List ByteArray} {i m : Nat} (h0 : kout P i m = [] ∨ startsB (atP P (i + 1 + m)) (atP P ((kout P i m).getLastD 0)) = false) : ∀ o, (∀ q, q ≤ o → startsB (atP P (i + 1 + m + q)) (atP P (i + 1 + m)) = true) → kout P i (m + 1 + o) = kout P i m ++ [i + 1 + m]
  | 0, _ => by
    show kstep P (kout P i m) (i + 1 + m) = _
    unfold kstep; rw [if_pos h0]
  | o + 1, h => by
    have ih := kout_block h0 o (fun q hq => h q (by omega))
    show kstep P (kout P i (m + 1 + o)) (i + 1 + (m + 1 + o)) = _
    rw [ih]
    unfold kstep
    rw [if_neg]
    rintro (h1 | h1)
    · simp at h1
    · have h2 := h (o + 1) (Nat.le_refl _)
      rw [show i + 1 + m + (o + 1) = i + 1 + (m + 1 + o) by omega] at h2
      rw [List.getLastD_concat] at h1
      rw [h2] at h1; cases h1

def sumL (n : Nat) (ks : List Tr) : Nat := (ks.flatMap (pths n)).length
theorem pths_len {n : Nat} {t : Tr} (h : Dep n t) : 1 ≤ (pths n t).length := by
  cases n with
  | zero => cases h
  | succ n => simp [pths]
theorem pths_head {n : Nat} {t : Tr} (h : Dep n t) : ∃ r, pths n t = t.p :: r := by
  cases n with
  | zero => cases h
  | succ n => exact ⟨_, rfl⟩
theorem sumL_take {n : Nat} {ks : List Tr} {j : Nat} (h : j < ks.length) : sumL n (ks.take (j + 1)) = sumL n (ks.take j) + (pths n ks[j]).length := by
  unfold sumL
  rw [List.take_succ_eq_append_getElem h, List.flatMap_append, List.length_append]
  simp
/-- Where the kids stand. -/
def kidPl (n : Nat) (ks : List Tr) (i : Nat) (j : Nat) : Nat := i + 1 + sumL n (ks.take j)
def kidPls (n : Nat) (ks : List Tr) (i m : Nat) : List Nat := (List.range m).map (kidPl n ks i)
theorem kidPls_succ (n : Nat) (ks : List Tr) (i m : Nat) : kidPls n ks i (m + 1) = kidPls n ks i m ++ [kidPl n ks i m] := by
  unfold kidPls; rw [List.range_succ, List.map_append]; rfl

/-- A node's paths among all: ahead of them, behind them. -/
structure Seg (P pre post : List ByteArray) (n : Nat) (t : Tr) : Prop where
  eq : P = pre ++ pths n t ++ post
  behind : ∀ q ∈ post, ¬ t.path <+: kyb q
theorem Seg.kid {P pre post : List ByteArray} {n : Nat} {t : Tr} (h : Seg P pre post (n + 1) t) (hw : WF t) {j : Nat} (hj : j < t.ks.length) : Seg P (pre ++ t.p :: (t.ks.take j).flatMap (pths n)) ((t.ks.drop (j + 1)).flatMap (pths n) ++ post) n t.ks[j] := by
  have hm : t.ks[j] ∈ t.ks := List.getElem_mem hj
  refine ⟨?_, ?_⟩
  · rw [h.eq]
    show pre ++ (t.p :: t.ks.flatMap (pths n)) ++ post = _
    have hsp : t.ks.flatMap (pths n) = (t.ks.take j).flatMap (pths n) ++ (pths n t.ks[j] ++ (t.ks.drop (j + 1)).flatMap (pths n)) := by
      have h1 : t.ks = t.ks.take j ++ (t.ks[j] :: t.ks.drop (j + 1)) := by rw [← List.drop_eq_getElem_cons hj, List.take_append_drop]
      have h2 := congrArg (List.flatMap (pths n)) h1
      rw [List.flatMap_append, List.flatMap_cons] at h2
      exact h2
    rw [hsp]
    simp [List.append_assoc]
  · intro q hq hc
    rcases List.mem_append.1 hq with h1 | h1
    · obtain ⟨c, hc1, hq1⟩ := List.mem_flatMap.1 h1
      have hcm : c ∈ t.ks := List.mem_of_mem_drop hc1
      obtain ⟨i, hi, rfl⟩ := List.getElem_of_mem hc1
      rw [List.getElem_drop] at hq1 hcm
      have hb := lt_of_sorted hw.ord' (i := j) (j := j + 1 + i) (by omega) (by simp at hi; omega)
      have p1 := pths_pre (hw.kids' _ hcm) hq1
      have e1 := (hw.ext' _ hm).2
      have e2 := (hw.ext' _ hcm).2
      have g1 := prefix_getD hc t.p.size (by rw [path_length]; exact e1)
      have g2 := prefix_getD p1 t.p.size (by rw [path_length]; exact e2)
      have : t.ks[j].byte t.p.size = (t.ks[j + 1 + i]'(by simp at hi; omega)).byte t.p.size := by
        show t.ks[j].path.getD _ _ = _
        rw [← g1, g2]; rfl
      rw [this] at hb
      exact UInt8.lt_irrefl _ hb
    · exact h.behind q h1 ((hw.ext' _ hm).1.trans hc)
theorem Seg.kidLen {P pre post : List ByteArray} {n : Nat} {t : Tr} (j : Nat) : (pre ++ t.p :: (t.ks.take j).flatMap (pths n)).length = kidPl n t.ks pre.length j := by
  unfold kidPl sumL; simp; omega
theorem Seg.at {P pre post : List ByteArray} {n : Nat} {t : Tr} (h : Seg P pre post n t) {q : Nat} (hq : q < (pths n t).length) : atP P (pre.length + q) = kyb (pths n t)[q] := by
  unfold atP
  congr 1
  rw [h.eq, List.append_assoc]
  rw [List.getD_eq_getElem?_getD, List.getElem?_append_right (Nat.le_add_right _ _), Nat.add_sub_cancel_left, List.getElem?_append_left hq, List.getElem?_eq_getElem hq]; rfl
theorem Seg.lt {P pre post : List ByteArray} {n : Nat} {t : Tr} (h : Seg P pre post n t) (hd : Dep n t) : pre.length < P.length := by
  have := pths_len hd
  rw [h.eq]; simp; omega
theorem Seg.top {P pre post : List ByteArray} {n : Nat} {t : Tr} (h : Seg P pre post n t) (hd : Dep n t) : P[pre.length]'(h.lt hd) = t.p := by
  obtain ⟨r, hr⟩ := pths_head hd
  simp [h.eq, hr]
theorem Seg.pre {P pre post : List ByteArray} {n : Nat} {t : Tr} (h : Seg P pre post n t) (hw : WF t) {q : Nat} (hq : q < (pths n t).length) : t.path <+: atP P (pre.length + q) := by
  rw [h.at hq]
  exact pths_pre hw (List.getElem_mem hq)

/-- The document's Kids, over the paths of a tree. -/
theorem kids_places {P pre post : List ByteArray} {n : Nat} {t : Tr} (h : Seg P pre post (n + 1) t) (hw : WF t) (hd : Dep (n + 1) t) : ∀ m, m ≤ t.ks.length → kout P pre.length (sumL n (t.ks.take m)) = kidPls n t.ks pre.length m
  | 0, _ => by simp [sumL, kidPls, kout]
  | m + 1, hm => by
    have ih := kids_places h hw hd m (by omega)
    have hj : m < t.ks.length := by omega
    have hmem : t.ks[m] ∈ t.ks := List.getElem_mem hj
    have hS := h.kid hw hj
    have hl := Seg.kidLen (P := P) (pre := pre) (post := post) (n := n) (t := t) m
    have hlen := pths_len (hd _ hmem)
    obtain ⟨r, hr⟩ := pths_head (hd _ hmem)
    have hat0 : atP P (pre.length + 1 + sumL n (t.ks.take m)) = t.ks[m].path := by
      have := hS.at (q := 0) (by omega)
      rw [hl] at this
      rw [show pre.length + 1 + sumL n (t.ks.take m) = kidPl n t.ks pre.length m + 0 by unfold kidPl; omega, this]
      simp only [hr, List.getElem_cons_zero]; rfl
    rw [sumL_take hj, show sumL n (t.ks.take m) + (pths n t.ks[m]).length = sumL n (t.ks.take m) + 1 + ((pths n t.ks[m]).length - 1) by omega, kout_block, ih, kidPls_succ]
    · rfl
    · rw [ih]
      cases m with
      | zero => left; rfl
      | succ m =>
        right
        rw [kidPls_succ, List.getLastD_concat, startsB_not, hat0]
        have hj2 : m < t.ks.length := by omega
        have hmem2 : t.ks[m] ∈ t.ks := List.getElem_mem hj2
        have hS2 := h.kid hw hj2
        have hl2 := Seg.kidLen (P := P) (pre := pre) (post := post) (n := n) (t := t) m
        have hlen2 := pths_len (hd _ hmem2)
        obtain ⟨r2, hr2⟩ := pths_head (hd _ hmem2)
        have hat1 : atP P (kidPl n t.ks pre.length m) = t.ks[m].path := by
          have := hS2.at (q := 0) (by omega)
          rw [hl2, Nat.add_zero] at this
          rw [this]
          simp only [hr2, List.getElem_cons_zero]; rfl
        rw [hat1]
        intro hc
        have hb := lt_of_sorted hw.ord' (i := m) (j := m + 1) (by omega) (by omega)
        have g1 := prefix_getD hc t.p.size (by rw [path_length]; exact (hw.ext' _ hmem2).2)
        have : (t.ks[m]).byte t.p.size = (t.ks[m + 1]).byte t.p.size := by
          show t.ks[m].path.getD _ _ = _
          rw [← g1]; rfl
        rw [this] at hb
        exact UInt8.lt_irrefl _ hb
    · intro q hq
      rw [startsB_iff, hat0]
      have := hS.pre (hw.kids' _ hmem) (q := q) (by omega)
      rw [hl] at this
      exact this
theorem kids_inside {P pre post : List ByteArray} {n : Nat} {t : Tr} (h : Seg P pre post (n + 1) t) (hw : WF t) (m : Nat) (hm : m < sumL n t.ks) : startsB (atP P (pre.length + 1 + m)) (atP P pre.length) = true := by
  have hl : (pths (n + 1) t).length = sumL n t.ks + 1 := by simp [pths, sumL]
  have h0 := h.at (q := 0) (by omega)
  rw [Nat.add_zero] at h0
  rw [startsB_iff, h0]
  have := h.pre hw (q := 1 + m) (by omega)
  rw [← Nat.add_assoc] at this
  exact this
theorem kids_end {P pre post : List ByteArray} {n : Nat} {t : Tr} (h : Seg P pre post (n + 1) t) : pre.length + 1 + sumL n t.ks ≤ P.length ∧ (pre.length + 1 + sumL n t.ks < P.length → startsB (atP P (pre.length + 1 + sumL n t.ks)) (atP P pre.length) = false) := by
  have hl : (pths (n + 1) t).length = sumL n t.ks + 1 := by simp [pths, sumL]
  have hP : P.length = pre.length + (sumL n t.ks + 1) + post.length := by rw [h.eq]; simp [hl]; omega
  refine ⟨by omega, fun hlt => ?_⟩
  have h0 := h.at (q := 0) (by omega)
  rw [Nat.add_zero] at h0
  rw [startsB_not, h0]
  have hp : atP P (pre.length + 1 + sumL n t.ks) = kyb (post[0]'(by omega)) := by
    unfold atP
    congr 1
    have hi : pre.length + 1 + sumL n t.ks = (pre ++ pths (n + 1) t).length := by rw [List.length_append, hl]; omega
    have hz : 0 < post.length := by omega
    have hg : P[pre.length + 1 + sumL n t.ks]? = post[0]? := by
      rw [h.eq, hi, List.getElem?_append_right (Nat.le_refl _), Nat.sub_self]
    rw [List.getD_eq_getElem?_getD, hg, List.getElem?_eq_getElem hz]; rfl
  rw [hp]
  exact h.behind _ (List.getElem_mem _)
end Go.Proofs.Ytcdfbbjakkmmoaa
