/- Layer 14 (timers): which timers fire is told by what is pending alone. -/
import Derived.Test.YtedhjdkhfndinaaTiAdv
namespace Go.Proofs.Ytedhjdkhfndinaa
set_option linter.unusedVariables false

/-- Of two timers one goes first. -/
def Apart (L : List Tm) : Prop := ∀ x ∈ L, ∀ y ∈ L, leT x y → leT y x → x = y
theorem Apart.perm {L M : List Tm} (h : Apart L) (hp : M.Perm L) : Apart M := fun x hx y hy => h x (hp.mem_iff.1 hx) y (hp.mem_iff.1 hy)
theorem sorted_eq : ∀ {l m : List Tm}, l.Perm m → l.Pairwise leT → m.Pairwise leT → Apart l → l = m
  | [], m, hp, _, _, _ => hp.nil_eq
  | a :: l, [], hp, _, _, _ => absurd hp.length_eq (by simp)
  | a :: l, b :: m, hp, hl, hm, hd => by
    have ha : a ∈ b :: m := hp.mem_iff.1 (by simp)
    have hb : b ∈ a :: l := hp.mem_iff.2 (by simp)
    have hab : a = b := by
      rcases List.mem_cons.1 ha with h1 | h1
      · exact h1
      · rcases List.mem_cons.1 hb with h2 | h2
        · exact h2.symm
        · exact hd a (by simp) b hb ((List.pairwise_cons.1 hl).1 b h2) ((List.pairwise_cons.1 hm).1 a h1)
    subst hab
    rw [sorted_eq hp.cons_inv (List.pairwise_cons.1 hl).2 (List.pairwise_cons.1 hm).2 (fun x hx y hy => hd x (List.mem_cons_of_mem _ hx) y (List.mem_cons_of_mem _ hy))]
theorem filter_all {p : Tm → Bool} {l : List Tm} (h : ∀ x ∈ l, p x = true) : l.filter p = l := List.filter_eq_self.2 h
theorem filter_none {p : Tm → Bool} {l : List Tm} (h : ∀ x ∈ l, p x = false) : l.filter p = [] := List.filter_eq_nil_iff.2 (fun x hx => by rw [h x hx]; decide)
theorem Fires.fs {now : Int} {L fs R : List Tm} (h : Fires now L fs R) : fs.Perm (L.filter fun x => decide (x.tm ≤ now)) := by
  have := h.perm.filter (fun x => decide (x.tm ≤ now))
  rw [List.filter_append, filter_all (fun x hx => by simpa using h.due x hx), filter_none (fun x hx => by have := h.stay x hx; simpa using this), List.append_nil] at this
  exact this
theorem Fires.rs {now : Int} {L fs R : List Tm} (h : Fires now L fs R) : R.Perm (L.filter fun x => decide (now < x.tm)) := by
  have := h.perm.filter (fun x => decide (now < x.tm))
  rw [List.filter_append, filter_none (fun x hx => by have := h.due x hx; simpa using this), filter_all (fun x hx => by simpa using h.stay x hx), List.nil_append] at this
  exact this
theorem Fires.uniq {now : Int} {L L' fs R fs' R' : List Tm} (h : Fires now L fs R) (h' : Fires now L' fs' R') (hp : L.Perm L') (hd : Apart L) : fs = fs' ∧ R.Perm R' := by
  refine ⟨sorted_eq (h.fs.trans ((hp.filter _).trans h'.fs.symm)) h.sort h'.sort (fun x hx y hy => hd x (h.perm.mem_iff.1 (List.mem_append_left _ hx)) y (h.perm.mem_iff.1 (List.mem_append_left _ hy))), h.rs.trans ((hp.filter _).trans h'.rs.symm)⟩
end Go.Proofs.Ytedhjdkhfndinaa
