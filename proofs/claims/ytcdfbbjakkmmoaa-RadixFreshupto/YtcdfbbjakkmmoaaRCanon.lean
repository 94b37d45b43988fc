import Derived.Test.YtcdfbbjakkmmoaaRHas
import Derived.Test.YtcdfbbjakkmmoaaXKidsM
import Derived.Test.YtcdfbbjakkmmoaaRDel
import Derived.Test.YtcdfbbjakkmmoaaRHasI
import Derived.Test.YtcdfbbjakkmmoaaXOrd
/- Layer 3 (radix): what trees hold behind Insert, Delete. -/

/- Layer 3 (radix): Delete keeps trees well made. -/
namespace Go.Proofs.Ytcdfbbjakkmmoaa
open Go.RowKit
set_option linter.unusedVariables false

theorem mem_repl {ks : List Tr} {q r : Nat} {L : List Tr} {x : Tr} (h : x ∈ ks.take q ++ L ++ ks.drop r) : x ∈ ks ∨ x ∈ L := by
  simp only [List.mem_append] at h
  rcases h with (h | h) | h
  · exact .inl (List.mem_of_mem_take h)
  · exact .inr h
  · exact .inl (List.mem_of_mem_drop h)

/-- The kid at q goes. -/
theorem wf_drop {t : Tr} (h : WF t) {q a g : Nat} (v : Option Vl) : WF (.nd a t.p v (t.ks.take q ++ [] ++ t.ks.drop (q + 1)) g) := by
  refine .mk (fun c hc => ?_) (fun c hc => ?_) ?_
  · rcases mem_repl hc with hc | hc
    · exact h.kids' c hc
    · simp at hc
  · rcases mem_repl hc with hc | hc
    · exact h.ext' c hc
    · simp at hc
  · refine List.Pairwise.sublist ?_ h.ord'
    refine List.Sublist.map _ ?_
    rw [List.append_nil]
    refine List.Sublist.trans (List.Sublist.append (List.Sublist.refl _) ((List.drop_sublist_drop_left t.ks (Nat.le_succ q)))) ?_
    rw [List.take_append_drop]
    exact List.Sublist.refl _

theorem needed_mem {t d : Tr} (h : d ∈ neededOf t) : d = t ∨ d ∈ t.ks := by
  unfold neededOf at h
  split at h
  · left; simpa using h
  · exact .inr h

theorem DelR.wf {N : Nat} {k : ByteArray} {t T : Tr} (h : DelR N k t T) (ht : WF t) (hp : t.path <+: k.data.toList) : WF T ∧ T.p = t.p := by
  induction h with
  | @here t a g hs ha hg => exact ⟨.mk ht.kids' ht.ext' ht.ord', rfl⟩
  | @down t c c' a g hn hs h ha hg ih =>
    obtain ⟨hc, hcp⟩ := nx_mem hn
    have hx := ht.ext' c hc
    obtain ⟨i1, i2⟩ := ih (ht.kids' c hc) hcp
    obtain ⟨hq, hbq⟩ := there_true hs (nx_there ht hs hn)
    have hcb : c.byte t.p.size = k[t.p.size] := by
      unfold Tr.byte
      exact key_pre hcp (by rw [path_length]; exact hx.2) hs
    have hpc : c'.path = c.path := by unfold Tr.path; rw [i2]
    refine ⟨?_, rfl⟩
    have hfew := neededOf_few c'
    cases hL : neededOf c' with
    | nil => exact wf_drop ht _
    | cons J r =>
      have hr : r = [] := by rw [hL] at hfew; simp at hfew; exact hfew
      subst hr
      have hJ : J = c' ∨ J ∈ c'.ks := needed_mem (by rw [hL]; simp)
      have hJ1 : WF J ∧ c'.path <+: J.path ∧ c'.p.size ≤ J.p.size := by
        rcases hJ with rfl | hJ
        · exact ⟨i1, List.prefix_refl _, Nat.le_refl _⟩
        · exact ⟨i1.kids' _ hJ, (i1.ext' _ hJ).1, Nat.le_of_lt (i1.ext' _ hJ).2⟩
      refine wf_set ht hq hJ1.1 ?_ ?_ ?_ _
      · exact (hpc ▸ hx.1 : t.path <+: c'.path).trans hJ1.2.1
      · have := hJ1.2.2; rw [i2] at this; omega
      · rw [hbq, ← hcb, ← byte_pre hJ1.2.1 (by rw [i2]; exact hx.2)]
        unfold Tr.byte; rw [hpc]

theorem DelR.dep {N : Nat} {k : ByteArray} {t T : Tr} (h : DelR N k t T) : ∀ {n : Nat}, Dep n t → Dep n T := by
  induction h with
  | @here t a g hs ha hg =>
    intro n hd
    cases n with
    | zero => cases hd
    | succ n => exact hd
  | @down t c c' a g hn hs h ha hg ih =>
    intro n hd
    cases n with
    | zero => cases hd
    | succ n =>
      intro x hx
      rcases mem_repl hx with hx | hx
      · exact hd x hx
      · have hc := ih (hd c (nx_mem hn).1)
        rcases needed_mem hx with rfl | hx
        · exact hc
        · cases n with
          | zero => cases hc
          | succ n => exact (hc x hx).mono (Nat.le_succ _)
end Go.Proofs.Ytcdfbbjakkmmoaa

/- Layer 3 (radix): Delete keeps trees well made; Insert and Delete keep the canonical form; how many entries; what Get finds. -/
namespace Go.Proofs.Ytcdfbbjakkmmoaa
open Go.RowKit
set_option linter.unusedVariables false

theorem leaf_canon {l g : Nat} {k : ByteArray} {v : Option Vl} : Canon (.nd l k v [] g) := .mk (fun c hc => by simp [Tr.ks] at hc) (fun c hc => by simp [Tr.ks] at hc)
theorem canon_of {a g : Nat} {p : ByteArray} {v : Option Vl} {ks : List Tr} (h : ∀ c ∈ ks, Canon c ∧ Need c) : Canon (.nd a p v ks g) := .mk (fun c hc => (h c hc).1) (fun c hc => (h c hc).2)
theorem Canon.both {t : Tr} (h : Canon t) : ∀ c ∈ t.ks, Canon c ∧ Need c := fun c hc => ⟨h.kids c hc, h.need c hc⟩
theorem canon_repl {t : Tr} (h : Canon t) {a g q r : Nat} {p : ByteArray} {v : Option Vl} {L : List Tr} (hL : ∀ c ∈ L, Canon c ∧ Need c) : Canon (.nd a p v (t.ks.take q ++ L ++ t.ks.drop r) g) :=
  canon_of fun c hc => (mem_repl hc).elim (h.both c) (hL c)

theorem JoinR.canon {N : Nat} {k : ByteArray} {v : Vl} {n T : Tr} (h : JoinR N k v n T) (hn : Canon n ∧ Need n) : Canon T ∧ Need T := by
  cases h with
  | above ha hg hp hl => exact ⟨canon_of fun c hc => by simp at hc; subst hc; exact hn, .inl rfl⟩
  | less => exact ⟨canon_of fun c hc => by simp at hc; rcases hc with rfl | rfl; exact ⟨leaf_canon, .inl rfl⟩; exact hn, .inr (by simp [Tr.ks])⟩
  | more => exact ⟨canon_of fun c hc => by simp at hc; rcases hc with rfl | rfl; exact hn; exact ⟨leaf_canon, .inl rfl⟩, .inr (by simp [Tr.ks])⟩
theorem EntR.canon {N : Nat} {k : ByteArray} {v : Vl} {t T : Tr} (h : EntR N k v t T) (ht : Canon t) : Canon T ∧ (Need t → Need T) := by
  cases h with
  | here ha hg hs => exact ⟨canon_of ht.both, fun _ => .inl rfl⟩
  | leaf ha hg hl hgl hs hno =>
    refine ⟨canon_repl ht fun c hc => by simp at hc; subst hc; exact ⟨leaf_canon, .inl rfl⟩, ?_⟩
    rintro (h | h)
    · exact .inl h
    · refine .inr ?_
      have := posn_le t.ks t.p.size k[t.p.size]
      simp [Tr.ks] at this ⊢
      simp [Tr.ks] at h
      omega
  | @join a g c J ha hg hs hq hc hb hn hJ =>
    refine ⟨canon_repl ht fun d hd => by simp at hd; subst hd; exact hJ.canon (ht.both c (by rw [← hc]; exact List.getElem_mem hq)), ?_⟩
    rintro (h | h)
    · exact .inl h
    · refine .inr ?_
      show 2 ≤ (t.ks.take _ ++ [J] ++ t.ks.drop _).length
      simp only [List.length_append, List.length_take, List.length_drop, List.length_singleton]
      omega
theorem InsR.canon {N : Nat} {k : ByteArray} {v : Vl} {t T : Tr} (h : InsR N k v t T) (hw : WF t) : Canon t → Canon T ∧ (Need t → Need T) := by
  induction h with
  | entry hn h => exact h.canon
  | @down t c c' a g hn hs h ha hg ih =>
    intro ht
    have hc := (nx_mem hn).1
    obtain ⟨hq, hbq⟩ := there_true hs (nx_there hw hs hn)
    obtain ⟨i1, i2⟩ := ih (hw.kids' c hc) (ht.kids c hc)
    refine ⟨canon_repl ht fun d hd => by simp at hd; subst hd; exact ⟨i1, i2 (ht.need c hc)⟩, ?_⟩
    rintro (h | h)
    · exact .inl h
    · refine .inr ?_
      show 2 ≤ (t.ks.take _ ++ [c'] ++ t.ks.drop _).length
      simp only [List.length_append, List.length_take, List.length_drop, List.length_singleton]
      omega
theorem DelR.canon {N : Nat} {k : ByteArray} {t T : Tr} (h : DelR N k t T) : Canon t → Canon T := by
  induction h with
  | here hs ha hg => exact fun ht => canon_of ht.both
  | @down t c c' a g hn hs h ha hg ih =>
    intro ht
    have hc := ih (ht.kids c (nx_mem hn).1)
    refine canon_repl ht fun d hd => ?_
    unfold neededOf at hd
    split at hd
    · rename_i h
      simp at hd
      subst hd
      refine ⟨hc, ?_⟩
      rcases Bool.or_eq_true _ _ ▸ h with h | h
      · exact .inl h
      · exact .inr (by simp at h; omega)
    · exact hc.both d hd

/-! ### how many -/

theorem nodup_le {l m : List (List UInt8)} (hl : l.Nodup) : (∀ a ∈ l, a ∈ m) → l.length ≤ m.length := by
  induction l generalizing m with
  | nil => simp
  | cons a l ih =>
    intro h
    rw [List.nodup_cons] at hl
    have ha := h a (by simp)
    have := ih hl.2 (m := m.erase a) fun b hb => by
      have hne : b ≠ a := fun e => hl.1 (e ▸ hb)
      exact (List.mem_erase_of_ne hne).2 (h b (by simp [hb]))
    rw [List.length_erase_of_mem ha] at this
    have := List.length_pos_of_mem ha
    simp
    omega

/-- The tree holds n keys. -/
def Cnt (t : Tr) (n : Int) : Prop := ∃ l : List (List UInt8), l.Nodup ∧ (∀ k, k ∈ l ↔ ∃ x, Has t k x) ∧ n = l.length
theorem Cnt.uniq {t s : Tr} {n m : Int} (h : Cnt t n) (h' : Cnt s m) (he : ∀ k, (∃ x, Has t k x) ↔ ∃ x, Has s k x) : n = m := by
  obtain ⟨l, h1, h2, rfl⟩ := h
  obtain ⟨r, h3, h4, rfl⟩ := h'
  have a := nodup_le h1 (m := r) fun a ha => (h4 a).2 ((he a).1 ((h2 a).1 ha))
  have b := nodup_le h3 (m := l) fun a ha => (h2 a).2 ((he a).2 ((h4 a).1 ha))
  omega
theorem Cnt.zero (a g : Nat) (p : ByteArray) : Cnt (.nd a p none [] g) 0 :=
  ⟨[], by simp, fun k => by simp [has_nd], rfl⟩
theorem Cnt.more {t T : Tr} {n : Int} {k : List UInt8} {y : Value} (h : Cnt t n) (hT : ∀ k' x, Has T k' x ↔ (k' = k ∧ x = y) ∨ (k' ≠ k ∧ Has t k' x)) (hk : ∀ x, ¬ Has t k x) : Cnt T (n + 1) := by
  obtain ⟨l, h1, h2, rfl⟩ := h
  refine ⟨k :: l, List.nodup_cons.2 ⟨fun e => ?_, h1⟩, fun k' => ?_, by simp⟩
  · obtain ⟨x, hx⟩ := (h2 k).1 e
    exact hk x hx
  · by_cases e : k' = k
    · subst e; simp [hT]
    · simp [hT, e, h2]
theorem Cnt.again {t T : Tr} {n : Int} {k : List UInt8} {y z : Value} (h : Cnt t n) (hT : ∀ k' x, Has T k' x ↔ (k' = k ∧ x = y) ∨ (k' ≠ k ∧ Has t k' x)) (hk : Has t k z) : Cnt T n := by
  obtain ⟨l, h1, h2, rfl⟩ := h
  refine ⟨l, h1, fun k' => ?_, rfl⟩
  rw [h2]
  by_cases e : k' = k
  · subst e
    exact ⟨fun _ => ⟨y, (hT _ _).2 (.inl ⟨rfl, rfl⟩)⟩, fun _ => ⟨z, hk⟩⟩
  · simp [hT, e]
theorem Cnt.less {t T : Tr} {n : Int} {k : List UInt8} {z : Value} (h : Cnt t n) (hT : ∀ k' x, Has T k' x ↔ (k' ≠ k ∧ Has t k' x)) (hk : Has t k z) : Cnt T (n - 1) := by
  obtain ⟨l, h1, h2, rfl⟩ := h
  have hm : k ∈ l := (h2 k).2 ⟨z, hk⟩
  refine ⟨l.erase k, h1.erase k, fun k' => ?_, ?_⟩
  · rw [h1.mem_erase_iff, h2]
    simp [hT]
  · rw [List.length_erase_of_mem hm]
    have := List.length_pos_of_mem hm
    omega
end Go.Proofs.Ytcdfbbjakkmmoaa
