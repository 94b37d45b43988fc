/- Layer 7 (rows): an index of a table of layer 6 goes over one list field at most. -/
import Derived.Test.YtgjcchafmcccjaaGreatDoorRwFit
namespace Go.Proofs.YtgjcchafmcccjaaGreatDoor
open Go.RowKit
set_option linter.unusedVariables false

def OneL (ts : List Tb) : Prop := ∀ t ∈ ts, ∀ x ∈ t.xs, listsOf t.fs x.ov ≤ 1
theorem mem_drop {ts : List Tb} {t : Tb} (h : t ∈ ts.dropLast) : t ∈ ts := (List.dropLast_sublist ts).subset h
theorem mem_last {ts : List Tb} {t : Tb} (h : ts.getLast? = some t) : t ∈ ts := List.mem_of_getLast? h
theorem mayB_one {t : Tb} {x : Ix} (h : mayB t x = true) : listsOf t.fs x.ov ≤ 1 := by
  unfold mayB at h
  split at h
  · simp only [Bool.and_eq_true, decide_eq_true_eq] at h
    omega
  · simp only [decide_eq_true_eq] at h
    omega
theorem rTable_one {ln : Int} {ws : List ByteArray} {st st' : St} (h : rTable ln ws st = .ok st') (hp : OneL st.1) : OneL st'.1 := by
  unfold rTable at h
  repeat' split at h
  all_goals first
    | cases h; done
    | (simp only [Except.ok.injEq] at h
       subst h
       intro t ht x hx
       rcases List.mem_append.1 ht with ht | ht
       · exact hp t ht x hx
       · simp only [List.mem_singleton] at ht
         subst ht
         simp at hx)
theorem rField_one {ln : Int} {ws : List ByteArray} {st st' : St} (h : rField ln ws st = .ok st') (hp : OneL st.1) : OneL st'.1 := by
  unfold rField at h
  split at h
  · cases h
  · split at h
    · cases h
    · split at h
      · cases h
      · split at h
        · cases h
        · next t0 ht0 =>
          split at h
          · cases h
          · next hx0 =>
            split at h
            · cases h
            · split at h
              · cases h
              · simp only [Except.ok.injEq] at h
                subst h
                intro t ht x hx
                rcases List.mem_append.1 ht with ht | ht
                · exact hp t (mem_drop ht) x hx
                · simp only [List.mem_singleton] at ht
                  subst ht
                  have h0 : t0.xs = [] := List.length_eq_zero_iff.1 (by omega)
                  simp only [h0] at hx
                  simp at hx
theorem rIndex_one {ln : Int} {ws : List ByteArray} {st st' : St} (h : rIndex ln ws st = .ok st') (hp : OneL st.1) : OneL st'.1 := by
  unfold rIndex at h
  split at h
  · cases h
  · split at h
    · cases h
    · split at h
      · cases h
      · split at h
        · cases h
        · next t0 ht0 =>
          split at h
          · cases h
          · split at h
            · cases h
            · split at h
              · cases h
              · split at h
                · cases h
                · next hm =>
                  simp only [Except.ok.injEq] at h
                  subst h
                  intro t ht x hx
                  rcases List.mem_append.1 ht with ht | ht
                  · exact hp t (mem_drop ht) x hx
                  · simp only [List.mem_singleton] at ht
                    subst ht
                    rcases List.mem_append.1 hx with hx | hx
                    · exact hp t0 (mem_last ht0) x hx
                    · simp only [List.mem_singleton] at hx
                      subst hx
                      have h1 := mayB_one (t := t0) (by cases hb : mayB t0 _ with | true => rfl | false => exact absurd hb hm)
                      exact h1
theorem rLine_one {ln : Int} {ws : List ByteArray} {st st' : St} (h : rLine ln ws st = .ok st') (hp : OneL st.1) : OneL st'.1 := by
  unfold rLine at h
  split at h
  · exact rTable_one h hp
  · split at h
    · exact rField_one h hp
    · split at h
      · exact rIndex_one h hp
      · cases h
theorem rLines_one : ∀ (ls : List ByteArray) (ln : Int) (st st' : St), rLines ln ls st = .ok st' → OneL st.1 → OneL st'.1
  | [], ln, st, st', h, hp => by
    unfold rLines at h
    simp only [Except.ok.injEq] at h
    subst h
    exact hp
  | l :: ls, ln, st, st', h, hp => by
    unfold rLines at h
    split at h
    · exact rLines_one ls _ _ _ h hp
    · split at h
      · cases h
      · next st2 h2 => exact rLines_one ls _ _ _ h (rLine_one h2 hp)
/-- Over one list field at most. -/
theorem parse_one {text : ByteArray} {us : List Tb} (h : parseP text = .ok us) : OneL us := by
  unfold parseP at h
  split at h
  · cases h
  · split at h
    · cases h
    · next st hst =>
      split at h
      · cases h
      · simp only [Except.ok.injEq] at h
        subst h
        exact rLines_one _ _ _ _ hst (fun t ht => by simp at ht)
/-- A table's first index is unique, not loose, and goes over no list field. -/
def FirstX (fs : List Fd) (x : Ix) : Prop := x.u = true ∧ x.s = false ∧ listsOf fs x.ov = 0
def FirstL (ts : List Tb) : Prop := ∀ t ∈ ts, ∀ x, t.xs[0]? = some x → FirstX t.fs x
theorem mayB_first {t : Tb} {x : Ix} (h : mayB t x = true) (h0 : t.xs = []) : FirstX t.fs x := by
  unfold mayB at h
  rw [if_pos (by rw [h0]; rfl)] at h
  simp only [Bool.and_eq_true, decide_eq_true_eq, Bool.not_eq_true'] at h
  exact ⟨h.2.1, h.2.2.1, h.2.2.2⟩
theorem rTable_first {ln : Int} {ws : List ByteArray} {st st' : St} (h : rTable ln ws st = .ok st') (hp : FirstL st.1) : FirstL st'.1 := by
  unfold rTable at h
  repeat' split at h
  all_goals first
    | cases h; done
    | (simp only [Except.ok.injEq] at h
       subst h
       intro t ht x hx
       rcases List.mem_append.1 ht with ht | ht
       · exact hp t ht x hx
       · simp only [List.mem_singleton] at ht
         subst ht
         simp at hx)
theorem rField_first {ln : Int} {ws : List ByteArray} {st st' : St} (h : rField ln ws st = .ok st') (hp : FirstL st.1) : FirstL st'.1 := by
  unfold rField at h
  split at h
  · cases h
  · split at h
    · cases h
    · split at h
      · cases h
      · split at h
        · cases h
        · next t0 ht0 =>
          split at h
          · cases h
          · next hx0 =>
            split at h
            · cases h
            · split at h
              · cases h
              · simp only [Except.ok.injEq] at h
                subst h
                intro t ht x hx
                rcases List.mem_append.1 ht with ht | ht
                · exact hp t (mem_drop ht) x hx
                · simp only [List.mem_singleton] at ht
                  subst ht
                  have h0 : t0.xs = [] := List.length_eq_zero_iff.1 (by omega)
                  simp only [h0] at hx
                  simp at hx
theorem rIndex_first {ln : Int} {ws : List ByteArray} {st st' : St} (h : rIndex ln ws st = .ok st') (hp : FirstL st.1) : FirstL st'.1 := by
  unfold rIndex at h
  split at h
  · cases h
  · split at h
    · cases h
    · split at h
      · cases h
      · split at h
        · cases h
        · next t0 ht0 =>
          split at h
          · cases h
          · split at h
            · cases h
            · split at h
              · cases h
              · split at h
                · cases h
                · next hm =>
                  simp only [Except.ok.injEq] at h
                  subst h
                  intro t ht x hx
                  rcases List.mem_append.1 ht with ht | ht
                  · exact hp t (mem_drop ht) x hx
                  · simp only [List.mem_singleton] at ht
                    subst ht
                    dsimp only at hx ⊢
                    cases h0 : t0.xs with
                    | nil =>
                      rw [h0] at hx
                      simp only [List.nil_append, List.getElem?_cons_zero, Option.some.injEq] at hx
                      subst hx
                      exact mayB_first (t := t0) (by cases hb : mayB t0 _ with | true => rfl | false => exact absurd hb hm) h0
                    | cons y ys =>
                      rw [h0] at hx
                      simp only [List.cons_append, List.getElem?_cons_zero, Option.some.injEq] at hx
                      subst hx
                      exact hp t0 (mem_last ht0) _ (by rw [h0]; rfl)
theorem rLine_first {ln : Int} {ws : List ByteArray} {st st' : St} (h : rLine ln ws st = .ok st') (hp : FirstL st.1) : FirstL st'.1 := by
  unfold rLine at h
  split at h
  · exact rTable_first h hp
  · split at h
    · exact rField_first h hp
    · split at h
      · exact rIndex_first h hp
      · cases h
theorem rLines_first : ∀ (ls : List ByteArray) (ln : Int) (st st' : St), rLines ln ls st = .ok st' → FirstL st.1 → FirstL st'.1
  | [], ln, st, st', h, hp => by
    unfold rLines at h
    simp only [Except.ok.injEq] at h
    subst h
    exact hp
  | l :: ls, ln, st, st', h, hp => by
    unfold rLines at h
    split at h
    · exact rLines_first ls _ _ _ h hp
    · split at h
      · cases h
      · next st2 h2 => exact rLines_first ls _ _ _ h (rLine_first h2 hp)
theorem parse_first {text : ByteArray} {us : List Tb} (h : parseP text = .ok us) : FirstL us := by
  unfold parseP at h
  split at h
  · cases h
  · split at h
    · cases h
    · next st hst =>
      split at h
      · cases h
      · simp only [Except.ok.injEq] at h
        subst h
        exact rLines_first _ _ _ _ hst (fun t ht => by simp at ht)
/-- What rows asks of a table. -/
structure ROk (t : Tb) : Prop where
  one : ∀ x ∈ t.xs, listsOf t.fs x.ov ≤ 1
  first : ∀ x, t.xs[0]? = some x → FirstX t.fs x
theorem parse_rok {text : ByteArray} {us : List Tb} (h : parseP text = .ok us) : ∀ t ∈ us, ROk t := fun t ht => ⟨parse_one h t ht, parse_first h t ht⟩
end Go.Proofs.YtgjcchafmcccjaaGreatDoor
