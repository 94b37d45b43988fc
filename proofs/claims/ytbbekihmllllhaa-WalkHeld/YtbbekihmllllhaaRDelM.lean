/- Layer 3 (radix): Delete keeps trees well made. -/
import Derived.Test.YtbbekihmllllhaaRDel
import Derived.Test.YtbbekihmllllhaaRHasI
namespace Go.Proofs.Ytbbekihmllllhaa
open Go.RowKit
set_option linter.unusedVariables false

theorem mem_repl {ks : List Tr} {q r : Nat} {L : List Tr} {x : Tr} (h : x ∈ ks.take q ++ L ++ ks.drop r) : x ∈ ks ∨ x ∈ L := by
  simp only [List.mem_append] at h
  rcases h with (h | h) | h
  · exact .inl (List.mem_of_mem_take h)
  · exact .inr h
  · exact .inl (List.mem_of_mem_drop h)

/-- The kid at q goes. -/
theorem wf_drop {t : Tr} (h : WF t) {q a g : Nat} (v : Option Vl) : WF (.nd a t.p v (t.ks.take q ++ [] ++ t.ks.drop (q + 1)) g) := by
  refine .mk (fun c hc => ?_) (fun c hc => ?_) ?_
  · rcases mem_repl hc with hc | hc
    · exact h.kids' c hc
    · simp at hc
  · rcases mem_repl hc with hc | hc
    · exact h.ext' c hc
    · simp at hc
  · refine List.Pairwise.sublist ?_ h.ord'
    refine List.Sublist.map _ ?_
    rw [List.append_nil]
    refine List.Sublist.trans (List.Sublist.append (List.Sublist.refl _) ((List.drop_sublist_drop_left t.ks (Nat.le_succ q)))) ?_
    rw [List.take_append_drop]
    exact List.Sublist.refl _

theorem needed_mem {t d : Tr} (h : d ∈ neededOf t) : d = t ∨ d ∈ t.ks := by
  unfold neededOf at h
  split at h
  · left; simpa using h
  · exact .inr h

theorem DelR.wf {N : Nat} {k : ByteArray} {t T : Tr} (h : DelR N k t T) (ht : WF t) (hp : t.path <+: k.data.toList) : WF T ∧ T.p = t.p := by
  induction h with
  | @here t a g hs ha hg => exact ⟨.mk ht.kids' ht.ext' ht.ord', rfl⟩
  | @down t c c' a g hn hs h ha hg ih =>
    obtain ⟨hc, hcp⟩ := nx_mem hn
    have hx := ht.ext' c hc
    obtain ⟨i1, i2⟩ := ih (ht.kids' c hc) hcp
    obtain ⟨hq, hbq⟩ := there_true hs (nx_there ht hs hn)
    have hcb : c.byte t.p.size = k[t.p.size] := by
      unfold Tr.byte
      exact key_pre hcp (by rw [path_length]; exact hx.2) hs
    have hpc : c'.path = c.path := by unfold Tr.path; rw [i2]
    refine ⟨?_, rfl⟩
    have hfew := neededOf_few c'
    cases hL : neededOf c' with
    | nil => exact wf_drop ht _
    | cons J r =>
      have hr : r = [] := by rw [hL] at hfew; simp at hfew; exact hfew
      subst hr
      have hJ : J = c' ∨ J ∈ c'.ks := needed_mem (by rw [hL]; simp)
      have hJ1 : WF J ∧ c'.path <+: J.path ∧ c'.p.size ≤ J.p.size := by
        rcases hJ with rfl | hJ
        · exact ⟨i1, List.prefix_refl _, Nat.le_refl _⟩
        · exact ⟨i1.kids' _ hJ, (i1.ext' _ hJ).1, Nat.le_of_lt (i1.ext' _ hJ).2⟩
      refine wf_set ht hq hJ1.1 ?_ ?_ ?_ _
      · exact (hpc ▸ hx.1 : t.path <+: c'.path).trans hJ1.2.1
      · have := hJ1.2.2; rw [i2] at this; omega
      · rw [hbq, ← hcb, ← byte_pre hJ1.2.1 (by rw [i2]; exact hx.2)]
        unfold Tr.byte; rw [hpc]

theorem DelR.dep {N : Nat} {k : ByteArray} {t T : Tr} (h : DelR N k t T) : ∀ {n : Nat}, Dep n t → Dep n T := by
  induction h with
  | @here t a g hs ha hg =>
    intro n hd
    cases n with
    | zero => cases hd
    | succ n => exact hd
  | @down t c c' a g hn hs h ha hg ih =>
    intro n hd
    cases n with
    | zero => cases hd
    | succ n =>
      intro x hx
      rcases mem_repl hx with hx | hx
      · exact hd x hx
      · have hc := ih (hd c (nx_mem hn).1)
        rcases needed_mem hx with rfl | hx
        · exact hc
        · cases n with
          | zero => cases hc
          | succ n => exact (hc x hx).mono (Nat.le_succ _)
end Go.Proofs.Ytbbekihmllllhaa
