/- How the document's Decode cuts a key, in plain lists. -/
import Derived.Test.YtehbclliiphglabKAns
namespace Go.Proofs.Ytehbclliiphglab
open Go.RowKit
set_option linter.unusedVariables false

/-- The text's cut: what was gathered, and where it ends. -/
def cutT : List UInt8 → List UInt8 → Nat → List UInt8 × Nat
  | [], acc, i => (acc, i)
  | [c], acc, i => (acc ++ [c], if c = 0 then i + 2 else i + 1)
  | c :: d :: r, acc, i => if c = 0 then if d = 1 then (acc, i) else cutT r (acc ++ [0]) (i + 2) else cutT (d :: r) (acc ++ [c]) (i + 1)

/-- One part's cut, and how many bytes it takes. -/
def cutP : List UInt8 → Pt × Nat
  | [] => (⟨0, ⟨#[]⟩, 0⟩, 1)
  | c :: r =>
    if c = 2 then (⟨2, ⟨#[]⟩, numOf (r.take 8)⟩, 9)
    else if c = 3 then (⟨3, ⟨#[]⟩, ((r.headD 0).toNat : Int)⟩, 2)
    else (⟨c.toNat, ⟨(cutT r [] 1).1.toArray⟩, 0⟩, (cutT r [] 1).2 + 2)

def cutF : Nat → List UInt8 → List Pt
  | 0, _ => []
  | f + 1, l => if l.isEmpty then [] else (cutP l).1 :: cutF f (l.drop (cutP l).2)
def cut (l : List UInt8) : List Pt := cutF l.length l

theorem cutF_empty (f : Nat) : cutF f [] = [] := by cases f <;> rfl
theorem cutF_step (f : Nat) (l : List UInt8) (hl : l ≠ []) (hf : l.length ≤ f) : ∃ g, f = g + 1 ∧ cutF f l = (cutP l).1 :: cutF g (l.drop (cutP l).2) := by
  cases f with
  | zero => exact absurd (List.eq_nil_of_length_eq_zero (by omega)) hl
  | succ f => exact ⟨f, rfl, by simp [cutF, hl]⟩

theorem cutT_bounds (l : List UInt8) : ∀ (acc : List UInt8) (i : Nat), (cutT l acc i).1.length ≤ acc.length + l.length ∧ i ≤ (cutT l acc i).2 ∧ (cutT l acc i).2 ≤ i + l.length + 1 := by
  suffices h : ∀ n (l : List UInt8), l.length ≤ n → ∀ (acc : List UInt8) (i : Nat), (cutT l acc i).1.length ≤ acc.length + l.length ∧ i ≤ (cutT l acc i).2 ∧ (cutT l acc i).2 ≤ i + l.length + 1 from h l.length l (Nat.le_refl _)
  intro n
  induction n with
  | zero => intro l hl acc i; match l, hl with | [], _ => simp [cutT]
  | succ n ih =>
    intro l hl acc i
    match l, hl with
    | [], _ => simp [cutT]
    | [c], _ => simp [cutT]; split <;> omega
    | c :: d :: r, hl =>
      simp only [List.length_cons] at hl
      rw [cutT]
      split
      · split
        · simp; omega
        · have := ih r (by omega) (acc ++ [0]) (i + 2); simp at this ⊢; omega
      · have := ih (d :: r) (by simp; omega) (acc ++ [c]) (i + 1); simp at this ⊢; omega

theorem cutT_esc (t : List UInt8) : ∀ (acc rest : List UInt8) (i : Nat), cutT (esc t ++ 0 :: 1 :: rest) acc i = (acc ++ t, i + (esc t).length) := by
  induction t with
  | nil => intro acc rest i; simp [esc, cutT]
  | cons c t ih =>
    intro acc rest i
    rw [esc_cons]
    by_cases hc : c = 0
    · subst hc
      simp only [if_pos, List.cons_append, List.nil_append]
      rw [cutT, if_pos rfl, if_neg (by decide), ih]
      simp; omega
    · rw [if_neg hc]
      have := ih (acc ++ [c]) rest (i + 1)
      match hm : esc t ++ 0 :: 1 :: rest with
      | [] => simp at hm
      | d :: u =>
        rw [hm] at this
        have e : [c] ++ esc t ++ 0 :: 1 :: rest = c :: d :: u := by
          rw [List.append_assoc, hm]; rfl
        rw [e, cutT, if_neg hc, this]
        simp; omega

theorem cutP_piece (p : Pt) (rest : List UInt8) (hv : vldB p = true) (h0 : 0 ≤ p.n) (h1 : p.n ≤ 18446744073709551615) : cutP (piece p false ++ rest) = (p, (piece p false).length) := by
  obtain ⟨k, t, n⟩ := p
  rcases vld_cases hv with ⟨hk, hn⟩ | ⟨hk, ht⟩ | ⟨hk, ht, hn⟩
  · simp only at hk hn
    subst hk hn
    have e : piece ⟨1, t, 0⟩ false ++ rest = 1 :: (esc t.data.toList ++ 0 :: 1 :: rest) := by simp [piece]
    rw [e]
    simp only [cutP]
    rw [if_neg (by decide), if_neg (by decide), cutT_esc]
    simp [piece]; omega
  · simp only at hk ht h0 h1
    subst hk
    have ht := nil_text ht
    subst ht
    have hl : (num8 n).length = 8 := by simp [num8]
    have e : piece ⟨2, ⟨#[]⟩, n⟩ false ++ rest = 2 :: (num8 n ++ rest) := by simp [piece]
    rw [e]
    simp only [cutP]
    rw [if_pos trivial, List.take_append_of_le_length (by omega), List.take_of_length_le (by omega), numOf_num8 n h0 h1]
    simp [piece, hl]
  · simp only at hk ht hn
    subst hk
    have ht := nil_text ht
    subst ht
    have e : piece ⟨3, ⟨#[]⟩, n⟩ false ++ rest = 3 :: UInt8.ofNat n.toNat :: rest := by simp [piece]
    rw [e]
    rcases hn with rfl | rfl <;> simp [cutP, piece]

theorem cutF_enc (ps : List Pt) : ∀ f, (enc false ps).length ≤ f → ps.all vldB = true → (∀ p ∈ ps, 0 ≤ p.n ∧ p.n ≤ 18446744073709551615) → cutF f (enc false ps) = ps := by
  induction ps with
  | nil => intro f _ _ _; simp [enc, cutF_empty]
  | cons p ps ih =>
    intro f hf hv hn
    simp only [List.all_cons, Bool.and_eq_true] at hv
    rw [enc_false_cons] at hf ⊢
    have hp := hn p (List.mem_cons_self ..)
    have hr := rdPiece_piece p (enc false ps) hv.1 hp.1 hp.2
    have hne : piece p false ++ enc false ps ≠ [] := by
      intro h; rw [h] at hr; simp [rdPiece] at hr
    have hpos : 0 < (piece p false).length := (by have := (rdPiece_bounds hr).1; omega)
    obtain ⟨g, rfl, hg⟩ := cutF_step f _ hne hf
    rw [hg, cutP_piece p _ hv.1 hp.1 hp.2, List.drop_left, ih g (by rw [List.length_append] at hf; omega) hv.2 (fun q hq => hn q (List.mem_cons_of_mem _ hq))]

/-- The document's Decode, by cutting and encoding again, is Decode. -/
theorem cut_dec (l : List UInt8) (hl : l.length ≤ 1024) (hn : ∀ p ∈ cut l, 0 ≤ p.n ∧ p.n ≤ 18446744073709551615) :
    decAns l = if (encAns false (cut l)).2 = 0 ∧ (encAns false (cut l)).1 = l then (cut l, 0) else ([], 12) := by
  unfold decAns
  rw [if_neg (by omega)]
  cases hd : dec l with
  | some ps =>
    obtain ⟨h1, h2⟩ := dec_inv hd
    have hb : ∀ p ∈ ps, 0 ≤ p.n ∧ p.n ≤ 18446744073709551615 := dec_bounds hd
    have hc : cut l = ps := by
      unfold cut
      rw [← h1]
      exact cutF_enc ps _ (Nat.le_refl _) h2 hb
    rw [hc, encAns_mk h2 (by rw [h1]; exact hl)]
    simp [h1]
  | none =>
    rw [if_neg]
    rintro ⟨h1, h2⟩
    obtain ⟨h3, h4, h5⟩ := encAns_ok h1
    rw [h5] at h2
    have := dec_enc (cut l) h3 hn
    rw [h2, hd] at this
    exact absurd this (by simp)
end Go.Proofs.Ytehbclliiphglab
