/- Layer 3 (radix): what Insert makes is well made; how deep it is. -/
import Derived.Test.YtcdfbbjakkmmoaaRIns
namespace Go.Proofs.Ytcdfbbjakkmmoaa
open Go.RowKit
set_option linter.unusedVariables false

theorem byte_pre {a b : Tr} {n : Nat} (h : a.path <+: b.path) (hn : n < a.p.size) : a.byte n = b.byte n := by
  unfold Tr.byte
  exact (prefix_getD h n (by rw [path_length]; exact hn)).symm
theorem key_pre {p : List UInt8} {k : ByteArray} {n : Nat} (h : p <+: k.data.toList) (hn : n < p.length) (hk : n < k.size) : p.getD n 0 = k[n] := by
  rw [← getD_key k n hk]; exact (prefix_getD h n hn).symm
theorem getD_take {l m : List UInt8} {i n : Nat} (h : l.take n = m.take n) (hi : i < n) : l.getD i 0 = m.getD i 0 := by
  have h1 : (l.take n).getD i 0 = l.getD i 0 := by simp [List.getD, hi]
  have h2 : (m.take n).getD i 0 = m.getD i 0 := by simp [List.getD, hi]
  rw [← h1, ← h2, h]

theorem extract_path (k : ByteArray) (m : Nat) (h : m ≤ k.size) : (k.extract 0 m).data.toList = k.data.toList.take m ∧ (k.extract 0 m).size = m := by
  refine ⟨extract_take' k m, ?_⟩
  simp [ByteArray.size_extract]
  omega

theorem leaf_wf (l : Nat) (k : ByteArray) (v : Option Vl) (g : Nat) : WF (.nd l k v [] g) := .mk (fun t h => by simp at h) (fun t h => by simp at h) (by simp)

/-- The node that takes n's place is well made, and begins as n does up to any place at which n and k agree. -/
theorem JoinR.wf {N : Nat} {k : ByteArray} {v : Vl} {n T : Tr} (h : JoinR N k v n T) (hn : WF n) (b : Nat) (p : List UInt8) (hb : p.length = b) (hp : p <+: n.path) (hpk : p <+: k.data.toList) (hbk : b < k.size) (hbn : b < n.p.size) (he : n.byte b = k.data.toList.getD b 0) :
    WF T ∧ p <+: T.path ∧ b < T.p.size ∧ T.byte b = n.byte b := by
  have agree : ∀ m, m < k.size → m < n.p.size → k.data.toList.getD m 0 ≠ n.byte m → b < m := fun m h1 h2 hne => by
    rcases Nat.lt_or_ge b m with hc | hc
    · exact hc
    · refine absurd ?_ hne
      rcases Nat.lt_or_ge m b with hm | hm
      · rw [prefix_getD hpk m (by omega)]
        exact (prefix_getD hp m (by omega)).symm
      · have : m = b := by omega
        subst this
        exact he.symm
  have mid : ∀ m, b < m → p <+: k.data.toList.take m := fun m h1 => List.prefix_take_iff.2 ⟨hpk, by omega⟩
  cases h with
  | above ha hg hpp hl =>
    refine ⟨.mk (fun t ht => by simp at ht; subst ht; exact hn) (fun t ht => by simp at ht; subst ht; exact ⟨hpp, hl⟩) (by simp), hpk, hbk, ?_⟩
    exact byte_pre (a := .nd _ k (some v) [n] _) hpp hbk
  | @less m a g l gl ha hg hl hgl h1 h2 he2 hlt =>
    have hbm := agree m h1 h2 (fun e => by rw [e] at hlt; exact absurd hlt (UInt8.lt_irrefl _))
    obtain ⟨e1, e2⟩ := extract_path k m (by omega)
    refine ⟨.mk (fun t ht => ?_) (fun t ht => ?_) ?_, ?_, ?_, ?_⟩
    · simp at ht; rcases ht with rfl | rfl
      · exact leaf_wf _ _ _ _
      · exact hn
    · rw [e1, e2]
      simp at ht; rcases ht with rfl | rfl
      · exact ⟨List.take_prefix _ _, h1⟩
      · exact ⟨by rw [he2]; exact List.take_prefix _ _, h2⟩
    · rw [e2]
      simp only [List.map_cons, List.map_nil, List.pairwise_cons, List.mem_singleton, forall_eq, List.not_mem_nil, false_implies, implies_true, List.Pairwise.nil, and_true]
      exact hlt
    · show p <+: (k.extract 0 m).data.toList
      rw [e1]; exact mid m hbm
    · show b < (k.extract 0 m).size
      omega
    · show (k.extract 0 m).data.toList.getD b 0 = n.byte b
      rw [e1, he2]
      simp [Tr.byte, List.getD, hbm]
  | @more m a g l gl ha hg hl hgl h1 h2 he2 hlt =>
    have hbm := agree m h1 h2 (fun e => by rw [e] at hlt; exact absurd hlt (UInt8.lt_irrefl _))
    obtain ⟨e1, e2⟩ := extract_path k m (by omega)
    refine ⟨.mk (fun t ht => ?_) (fun t ht => ?_) ?_, ?_, ?_, ?_⟩
    · simp at ht; rcases ht with rfl | rfl
      · exact hn
      · exact leaf_wf _ _ _ _
    · rw [e1, e2]
      simp at ht; rcases ht with rfl | rfl
      · exact ⟨by rw [he2]; exact List.take_prefix _ _, h2⟩
      · exact ⟨List.take_prefix _ _, h1⟩
    · rw [e2]
      simp only [List.map_cons, List.map_nil, List.pairwise_cons, List.mem_singleton, forall_eq, List.not_mem_nil, false_implies, implies_true, List.Pairwise.nil, and_true]
      exact hlt
    · show p <+: (k.extract 0 m).data.toList
      rw [e1]; exact mid m hbm
    · show b < (k.extract 0 m).size
      omega
    · show (k.extract 0 m).data.toList.getD b 0 = n.byte b
      rw [e1, he2]
      simp [Tr.byte, List.getD, hbm]

/-- One kid in the place of another that has the same next byte. -/
theorem wf_set {t : Tr} (h : WF t) {q a g : Nat} {J : Tr} (hq : q < t.ks.length) (hJ : WF J) (hp : t.path <+: J.path) (hs : t.p.size < J.p.size) (hb : J.byte t.p.size = t.ks[q].byte t.p.size) (v : Option Vl) :
    WF (.nd a t.p v (t.ks.take q ++ [J] ++ t.ks.drop (q + 1)) g) := by
  have hset : t.ks.take q ++ [J] ++ t.ks.drop (q + 1) = t.ks.set q J := by
    rw [List.set_eq_take_append_cons_drop, if_pos hq]; simp
  rw [hset]
  refine .mk (fun c hc => ?_) (fun c hc => ?_) ?_
  · rcases List.mem_or_eq_of_mem_set hc with hc | rfl
    · exact h.kids' c hc
    · exact hJ
  · rcases List.mem_or_eq_of_mem_set hc with hc | rfl
    · exact h.ext' c hc
    · exact ⟨hp, hs⟩
  · have : (t.ks.set q J).map (Tr.byte t.p.size) = t.ks.map (Tr.byte t.p.size) := by
      rw [List.map_set, hb]
      have : (t.ks[q].byte t.p.size) = (t.ks.map (Tr.byte t.p.size))[q]'(by simpa using hq) := by simp
      rw [this, List.set_getElem_self]
    rw [this]
    exact h.ord'

/-- A kid whose next byte no other has comes to its place. -/
theorem wf_put {t : Tr} (h : WF t) {a g : Nat} {J : Tr} {b : UInt8} (hJ : WF J) (hp : t.path <+: J.path) (hs : t.p.size < J.p.size) (hb : J.byte t.p.size = b) (hno : thereB t.ks t.p.size b = false) (v : Option Vl) :
    WF (.nd a t.p v (t.ks.take (posn t.ks t.p.size b) ++ [J] ++ t.ks.drop (posn t.ks t.p.size b)) g) := by
  refine .mk (fun c hc => ?_) (fun c hc => ?_) ?_
  · simp only [List.mem_append, List.mem_singleton] at hc
    rcases hc with (hc | rfl) | hc
    · exact h.kids' c (List.mem_of_mem_take hc)
    · exact hJ
    · exact h.kids' c (List.mem_of_mem_drop hc)
  · simp only [List.mem_append, List.mem_singleton] at hc
    rcases hc with (hc | rfl) | hc
    · exact h.ext' c (List.mem_of_mem_take hc)
    · exact ⟨hp, hs⟩
    · exact h.ext' c (List.mem_of_mem_drop hc)
  · have ho := h.ord'
    have hlt : ∀ x ∈ (t.ks.take (posn t.ks t.p.size b)).map (Tr.byte t.p.size), x < b := by
      intro x hx
      obtain ⟨c, hc, rfl⟩ := List.mem_map.1 hx
      obtain ⟨i, hi, rfl⟩ := List.getElem_of_mem hc
      have hi' : i < posn t.ks t.p.size b ∧ i < t.ks.length := by simp at hi; omega
      rw [List.getElem_take]
      exact posn_lt i hi'.2 hi'.1
    have hgt : ∀ x ∈ (t.ks.drop (posn t.ks t.p.size b)).map (Tr.byte t.p.size), b < x := by
      intro x hx
      obtain ⟨c, hc, rfl⟩ := List.mem_map.1 hx
      obtain ⟨i, hi, rfl⟩ := List.getElem_of_mem hc
      have hl : posn t.ks t.p.size b + i < t.ks.length := by simp at hi; omega
      rw [List.getElem_drop]
      have hge := posn_ge (ks := t.ks) (n := t.p.size) (b := b) (by omega)
      have hne : t.ks[posn t.ks t.p.size b].byte t.p.size ≠ b := by
        intro e
        unfold thereB at hno
        rw [List.getElem?_eq_getElem (by omega)] at hno
        simp [e] at hno
      have hlt1 : b < t.ks[posn t.ks t.p.size b].byte t.p.size := by
        rcases UInt8.lt_or_lt_of_ne hne with h1 | h1
        · exact absurd hge (UInt8.not_le.2 h1)
        · exact h1
      rcases Nat.eq_zero_or_pos i with h0 | h0
      · subst h0; exact hlt1
      · exact UInt8.lt_trans hlt1 (lt_of_sorted ho (by omega) hl)
    rw [List.map_append, List.map_append, List.pairwise_append, List.pairwise_append]
    have ho' := ho
    rw [← List.take_append_drop (posn t.ks t.p.size b) t.ks, List.map_append, List.pairwise_append] at ho'
    refine ⟨⟨ho'.1, by simp, ?_⟩, ho'.2.1, ?_⟩
    · intro x hx y hy
      simp at hy
      subst hy
      rw [hb]
      exact hlt x hx
    · intro x hx y hy
      rcases List.mem_append.1 hx with hx | hx
      · exact UInt8.lt_trans (hlt x hx) (hgt y hy)
      · simp at hx
        subst hx
        rw [hb]
        exact hgt y hy

theorem EntR.wf {N : Nat} {k : ByteArray} {v : Vl} {t T : Tr} (h : EntR N k v t T) (ht : WF t) (hp : t.path <+: k.data.toList) : WF T ∧ T.p = t.p := by
  cases h with
  | here ha hg hs => exact ⟨.mk ht.kids' ht.ext' ht.ord', rfl⟩
  | leaf ha hg hl hgl hs hno => exact ⟨wf_put ht (leaf_wf _ _ _ _) hp hs (by show k.data.toList.getD _ _ = _; rw [getD_key k _ hs]) hno _, rfl⟩
  | @join a g c J ha hg hs hq hc hb hn hJ =>
    have hcm : c ∈ t.ks := by rw [← hc]; exact List.getElem_mem hq
    have hx := ht.ext' c hcm
    obtain ⟨j1, j2, j3, j4⟩ := hJ.wf (ht.kids' c hcm) t.p.size t.path (path_length t) hx.1 hp hs hx.2 (by rw [hb, getD_key k _ hs])
    exact ⟨wf_set ht hq j1 j2 j3 (by rw [j4, hc]) _, rfl⟩

theorem InsR.wf {N : Nat} {k : ByteArray} {v : Vl} {t T : Tr} (h : InsR N k v t T) (ht : WF t) (hp : t.path <+: k.data.toList) : WF T ∧ T.p = t.p := by
  induction h with
  | entry hn h => exact h.wf ht hp
  | @down t c c' a g hn hs h ha hg ih =>
    obtain ⟨hc, hcp⟩ := nx_mem hn
    have hx := ht.ext' c hc
    obtain ⟨i1, i2⟩ := ih (ht.kids' c hc) hcp
    obtain ⟨hq, hbq⟩ := there_true hs (nx_there ht hs hn)
    have hcb : c.byte t.p.size = k[t.p.size] := by
      unfold Tr.byte
      exact key_pre hcp (by rw [path_length]; exact hx.2) hs
    refine ⟨wf_set ht hq i1 ?_ ?_ ?_ _, rfl⟩
    · show t.path <+: c'.p.data.toList
      rw [i2]; exact hx.1
    · rw [i2]; exact hx.2
    · rw [hbq, ← hcb]
      show c'.p.data.toList.getD _ _ = _
      rw [i2]; rfl

theorem leaf_dep {l : Nat} {k : ByteArray} {v : Option Vl} {g n : Nat} (h : 1 ≤ n) : Dep n (.nd l k v [] g) := by
  cases n with
  | zero => omega
  | succ n => intro c hc; simp [Tr.ks] at hc
theorem Dep.pos {n : Nat} {t : Tr} (h : Dep n t) : 1 ≤ n := by
  cases n with
  | zero => cases h
  | succ n => omega
theorem EntR.dep {N : Nat} {k : ByteArray} {v : Vl} {t T : Tr} (h : EntR N k v t T) {n : Nat} (hd : Dep n t) : Dep (n + 1) T := by
  cases n with
  | zero => cases hd
  | succ n =>
    cases h with
    | here ha hg hs => exact Dep.mono (Nat.le_succ _) (show Dep (n + 1) _ from hd)
    | leaf ha hg hl hgl hs hno =>
      intro c hc
      simp only [Tr.ks, List.mem_append, List.mem_singleton] at hc
      rcases hc with (hc | rfl) | hc
      · exact (hd c (List.mem_of_mem_take hc)).mono (Nat.le_succ _)
      · exact leaf_dep (by omega)
      · exact (hd c (List.mem_of_mem_drop hc)).mono (Nat.le_succ _)
    | @join a g c J ha hg hs hq hc hb hn hJ =>
      have hcd : Dep n c := hd c (by rw [← hc]; exact List.getElem_mem hq)
      intro x hx
      simp only [Tr.ks, List.mem_append, List.mem_singleton] at hx
      rcases hx with (hx | rfl) | hx
      · exact (hd x (List.mem_of_mem_take hx)).mono (Nat.le_succ _)
      · cases hJ with
        | above => intro y hy; simp [Tr.ks] at hy; subst hy; exact hcd
        | less => intro y hy; simp [Tr.ks] at hy; rcases hy with rfl | rfl; exact leaf_dep hcd.pos; exact hcd
        | more => intro y hy; simp [Tr.ks] at hy; rcases hy with rfl | rfl; exact hcd; exact leaf_dep hcd.pos
      · exact (hd x (List.mem_of_mem_drop hx)).mono (Nat.le_succ _)
theorem InsR.dep {N : Nat} {k : ByteArray} {v : Vl} {t T : Tr} (h : InsR N k v t T) : ∀ {n : Nat}, Dep n t → Dep (n + 1) T := by
  induction h with
  | entry hn h => intro n hd; exact h.dep hd
  | @down t c c' a g hn hs h ha hg ih =>
    intro n hd
    cases n with
    | zero => cases hd
    | succ n =>
      intro x hx
      simp only [Tr.ks, List.mem_append, List.mem_singleton] at hx
      rcases hx with (hx | rfl) | hx
      · exact (hd x (List.mem_of_mem_take hx)).mono (Nat.le_succ _)
      · exact ih (hd c (nx_mem hn).1)
      · exact (hd x (List.mem_of_mem_drop hx)).mono (Nat.le_succ _)
end Go.Proofs.Ytcdfbbjakkmmoaa
