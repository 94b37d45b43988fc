/- Which keys begin with a Begin, in plain lists. -/
import Derived.Test.YtehbclliiphglabKAns
import Derived.Test.YtehbclliiphglabKAfter
import Derived.Test.YtehbclliiphglabKSame
namespace Go.Proofs.Ytehbclliiphglab
open Go.RowKit
set_option linter.unusedVariables false

theorem starts_iff (s p : List UInt8) : startsB s p = true ↔ ∃ z, s = p ++ z := by
  simp only [startsB, Bool.and_eq_true, decide_eq_true_eq, beq_iff_eq]
  constructor
  · rintro ⟨_, h⟩
    have h2 := (List.take_append_drop p.length s).symm
    rw [h] at h2
    exact ⟨s.drop p.length, h2⟩
  · rintro ⟨z, rfl⟩
    simp

theorem esc_prefix (t : List UInt8) : ∀ (u z y : List UInt8), esc u ++ 0 :: 1 :: z = esc t ++ y → ∃ v, u = t ++ v := by
  induction t with
  | nil => intro u z y _; exact ⟨u, rfl⟩
  | cons c t ih =>
    intro u z y h
    rw [esc_cons] at h
    cases u with
    | nil =>
      exfalso
      by_cases hc : c = 0
      · rw [if_pos hc] at h; simp [esc] at h
      · rw [if_neg hc] at h; simp [esc] at h; exact hc h.1.symm
    | cons d u =>
      rw [esc_cons] at h
      by_cases hc : c = 0
      · subst hc
        by_cases hd : d = 0
        · subst hd
          simp only [if_pos, List.cons_append, List.nil_append, List.cons.injEq, true_and] at h
          obtain ⟨v, rfl⟩ := ih u z y h
          exact ⟨v, rfl⟩
        · rw [if_neg hd, if_pos rfl] at h
          simp at h
          exact absurd h.1 hd
      · by_cases hd : d = 0
        · subst hd
          rw [if_pos rfl, if_neg hc] at h
          simp at h
          exact absurd h.1.symm hc
        · rw [if_neg hd, if_neg hc] at h
          simp only [List.cons_append, List.nil_append, List.cons.injEq] at h
          obtain ⟨rfl, h⟩ := h
          obtain ⟨v, rfl⟩ := ih u z y h
          exact ⟨v, rfl⟩

theorem enc_true_snoc (init : List Pt) (p : Pt) (hk : p.k = 1) : enc true (init ++ [p]) = enc false init ++ (1 :: esc p.t.data.toList) := by
  induction init with
  | nil => simp [enc, piece, hk]
  | cons q init ih =>
    have he : (init ++ [p]).isEmpty = false := by cases init <;> rfl
    rw [List.cons_append, enc_cons, enc_false_cons, ih, he]
    simp
theorem enc_false_append (ps qs : List Pt) : enc false (ps ++ qs) = enc false ps ++ enc false qs := by
  induction ps with
  | nil => simp [enc]
  | cons p ps ih => rw [List.cons_append, enc_false_cons, enc_false_cons, ih, List.append_assoc]

/-- A key that goes on with more text begins so. -/
theorem under_more (init rest : List Pt) (p q : Pt) (u : List UInt8) (hp : p.k = 1) (hq : q.k = 1) (ht : q.t.data.toList = p.t.data.toList ++ u) :
    startsB (enc false (init ++ q :: rest)) (enc true (init ++ [p])) = true := by
  rw [starts_iff, enc_true_snoc init p hp, enc_false_append, enc_false_cons]
  refine ⟨esc u ++ ([0, 1] ++ enc false rest), ?_⟩
  simp [piece, hq, ht, esc_append]

/-- .. and only such keys do. -/
theorem under_only (init : List Pt) : ∀ (rest : List Pt) (p : Pt) (z : List UInt8), p.k = 1 → init.all vldB = true → rest.all vldB = true → (∀ x ∈ init, x.wf) → (∀ x ∈ rest, x.wf) → enc false rest = enc false init ++ (1 :: esc p.t.data.toList) ++ z →
    ∃ q r u, rest = init ++ q :: r ∧ q.k = 1 ∧ q.t.data.toList = p.t.data.toList ++ u := by
  induction init with
  | nil =>
    intro rest p z hk _ hr _ hwr h
    cases rest with
    | nil => simp [enc] at h
    | cons q r =>
      rw [enc_false_cons] at h
      simp only [List.all_cons, Bool.and_eq_true] at hr
      rcases vld_cases hr.1 with ⟨h1, h2⟩ | ⟨h1, h2⟩ | ⟨h1, h2, h3⟩
      · have e : piece q false = 1 :: (esc q.t.data.toList ++ [0, 1]) := by simp [piece, h1]
        rw [e] at h
        simp only [enc, List.nil_append, List.cons_append, List.append_assoc, List.cons.injEq, true_and] at h
        obtain ⟨u, hu⟩ := esc_prefix _ _ _ _ h
        exact ⟨q, r, u, rfl, h1, hu⟩
      · simp [piece, h1, enc] at h
      · simp [piece, h1, enc] at h
  | cons p0 init ih =>
    intro rest p z hk hi hr hwi hwr h
    simp only [List.all_cons, Bool.and_eq_true] at hi
    cases rest with
    | nil =>
      exfalso
      have h1 := rdPiece_piece p0 (enc false init ++ (1 :: esc p.t.data.toList) ++ z) hi.1 (hwi p0 (List.mem_cons_self ..)).2.1.1 (hwi p0 (List.mem_cons_self ..)).2.1.2
      rw [enc_false_cons] at h
      rw [← List.append_assoc, ← List.append_assoc, ← h] at h1
      simp [enc, rdPiece] at h1
    | cons q r =>
      simp only [List.all_cons, Bool.and_eq_true] at hr
      rw [enc_false_cons, enc_false_cons] at h
      have h1 := rdPiece_piece p0 (enc false init ++ (1 :: esc p.t.data.toList) ++ z) hi.1 (hwi p0 (List.mem_cons_self ..)).2.1.1 (hwi p0 (List.mem_cons_self ..)).2.1.2
      have h2 := rdPiece_piece q (enc false r) hr.1 (hwr q (List.mem_cons_self ..)).2.1.1 (hwr q (List.mem_cons_self ..)).2.1.2
      rw [← List.append_assoc, ← List.append_assoc, ← h, h2] at h1
      simp at h1
      obtain ⟨rfl, _⟩ := h1
      rw [List.append_assoc, List.append_assoc, List.append_cancel_left_eq, ← List.append_assoc] at h
      obtain ⟨q', r', u, e1, e2, e3⟩ := ih r p z hk hi.2 hr.2 (fun x hx => hwi x (List.mem_cons_of_mem _ hx)) (fun x hx => hwr x (List.mem_cons_of_mem _ hx)) h
      exact ⟨q', r', u, by rw [e1]; rfl, e2, e3⟩

/-- What KeysUnder asks of a key. -/
def beginsB (ps rest : List Pt) (n : Nat) : Bool := decide (n < rest.length) && (sameB (rest.take n) (ps.take n) && ((rest.getD n ⟨0, ⟨#[]⟩, 0⟩).k == 1 && startsB (rest.getD n ⟨0, ⟨#[]⟩, 0⟩).t.data.toList (ps.getD n ⟨0, ⟨#[]⟩, 0⟩).t.data.toList))

theorem under_begins (ps rest : List Pt) (n : Nat) (hn : ps.length = n + 1) (hk : (ps.getD n ⟨0, ⟨#[]⟩, 0⟩).k = 1) (hv : ps.all vldB = true) (hr : rest.all vldB = true) (hwp : ∀ x ∈ ps, x.wf) (hwr : ∀ x ∈ rest, x.wf) :
    startsB (enc false rest) (enc true ps) = beginsB ps rest n := by
  have hps : ps = ps.take n ++ [ps.getD n ⟨0, ⟨#[]⟩, 0⟩] := by
    have := List.take_append_drop n ps
    rw [List.drop_eq_getElem_cons (by omega), List.drop_eq_nil_of_le (by omega)] at this
    rw [List.getD_eq_getElem?_getD, List.getElem?_eq_getElem (by omega)]
    exact this.symm
  obtain ⟨init, hinit⟩ : ∃ init, init = ps.take n := ⟨_, rfl⟩
  obtain ⟨p, hp⟩ : ∃ p, p = ps.getD n ⟨0, ⟨#[]⟩, 0⟩ := ⟨_, rfl⟩
  have hil : init.length = n := by rw [hinit]; simp; omega
  rw [← hinit, ← hp] at hps
  have hE : enc true ps = enc false init ++ (1 :: esc p.t.data.toList) := by rw [hps]; exact enc_true_snoc init p (by rw [hp]; exact hk)
  rw [Bool.eq_iff_iff, starts_iff, hE]
  unfold beginsB
  rw [← hinit, ← hp]
  simp only [Bool.and_eq_true, decide_eq_true_eq, beq_iff_eq, sameB_iff, starts_iff]
  constructor
  · rintro ⟨z, h⟩
    obtain ⟨q, r, u, e1, e2, e3⟩ := under_only init rest p z (by rw [hp]; exact hk) (by rw [hps] at hv; simp at hv; simpa using hv.1) hr (fun x hx => hwp x (by rw [hps]; exact List.mem_append_left _ hx)) hwr h
    subst e1
    have hq : (init ++ q :: r).getD n ⟨0, ⟨#[]⟩, 0⟩ = q := by
      rw [← hil]; simp
    refine ⟨by simp; omega, ?_, by rw [hq]; exact e2, u, by rw [hq]; exact e3⟩
    rw [← hil]; simp
  · rintro ⟨h1, h2, h3, u, h4⟩
    have hrs : rest = init ++ rest.getD n ⟨0, ⟨#[]⟩, 0⟩ :: rest.drop (n + 1) := by
      have := List.take_append_drop n rest
      rw [h2, List.drop_eq_getElem_cons h1] at this
      rw [List.getD_eq_getElem?_getD, List.getElem?_eq_getElem h1]
      exact this.symm
    have := under_more init (rest.drop (n + 1)) p (rest.getD n ⟨0, ⟨#[]⟩, 0⟩) u (by rw [hp]; exact hk) h3 h4
    rw [← hrs, starts_iff, ← hps, hE] at this
    exact this
end Go.Proofs.Ytehbclliiphglab
