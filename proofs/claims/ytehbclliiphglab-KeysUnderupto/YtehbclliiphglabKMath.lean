/- Keys there and back, in plain lists. -/
import Derived.Test.YtehbclliiphglabKDecode
namespace Go.Proofs.Ytehbclliiphglab
open Go.RowKit
set_option linter.unusedVariables false

theorem esc_cons (c : UInt8) (r : List UInt8) : esc (c :: r) = (if c = 0 then [0, 255] else [c]) ++ esc r := by simp [esc]

theorem rt_esc (r : List UInt8) : ∀ (plain rest : List UInt8) (i : Nat), rt (esc r ++ 0 :: 1 :: rest) plain i = some (plain ++ r, i + (esc r).length + 2) := by
  induction r with
  | nil => intro plain rest i; simp [esc, rt]
  | cons c r ih =>
    intro plain rest i
    rw [esc_cons]
    by_cases hc : c = 0
    · subst hc
      simp only [if_pos, List.cons_append, List.nil_append]
      rw [rt, if_pos rfl, if_neg (by decide), if_pos rfl, ih]
      simp; omega
    · rw [if_neg hc]
      have := ih (plain ++ [c]) rest (i + 1)
      match hm : esc r ++ 0 :: 1 :: rest with
      | [] => simp at hm
      | d :: t =>
        rw [hm] at this
        have e : [c] ++ esc r ++ 0 :: 1 :: rest = c :: d :: t := by
          rw [List.append_assoc, hm]; rfl
        rw [e, rt, if_neg hc, this]
        simp; omega

theorem rt_inv (l : List UInt8) : ∀ (plain : List UInt8) (i : Nat) (x : List UInt8 × Nat), rt l plain i = some x → ∃ r rest, x.1 = plain ++ r ∧ l = esc r ++ 0 :: 1 :: rest ∧ x.2 = i + (esc r).length + 2 := by
  suffices h : ∀ n (l : List UInt8), l.length ≤ n → ∀ (plain : List UInt8) (i : Nat) (x : List UInt8 × Nat), rt l plain i = some x → ∃ r rest, x.1 = plain ++ r ∧ l = esc r ++ 0 :: 1 :: rest ∧ x.2 = i + (esc r).length + 2 from h l.length l (Nat.le_refl _)
  intro n
  induction n with
  | zero => intro l hl plain i x h; match l, hl with | [], _ => simp [rt] at h
  | succ n ih =>
    intro l hl plain i x h
    match l, hl with
    | [], _ => simp [rt] at h
    | [_], _ => simp [rt] at h
    | c :: d :: t, hl =>
      simp only [List.length_cons] at hl
      rw [rt] at h
      by_cases hc : c = 0
      · rw [if_pos hc] at h
        subst hc
        by_cases h1 : d = 1
        · rw [if_pos h1] at h
          simp at h
          subst h h1
          exact ⟨[], t, by simp, by simp [esc], by simp [esc]⟩
        · rw [if_neg h1] at h
          by_cases h2 : d = 255
          · rw [if_pos h2] at h
            subst h2
            obtain ⟨r, rest, e1, e2, e3⟩ := ih t (by omega) _ _ _ h
            refine ⟨0 :: r, rest, by simp [e1], by rw [esc_cons, e2]; simp, ?_⟩
            rw [e3, esc_cons]; simp; omega
          · rw [if_neg h2] at h; simp at h
      · rw [if_neg hc] at h
        obtain ⟨r, rest, e1, e2, e3⟩ := ih (d :: t) (by simp; omega) _ _ _ h
        refine ⟨c :: r, rest, by simp [e1], by rw [esc_cons, if_neg hc, e2]; simp, ?_⟩
        rw [e3, esc_cons, if_neg hc]; simp; omega

theorem numOf_num8 (n : Int) (h0 : 0 ≤ n) (h1 : n ≤ 18446744073709551615) : (numOf (num8 n) : Int) = n := by
  have hb := fun i => numByte_val n i
  have e : num8 n = [numByte n 0, numByte n 1, numByte n 2, numByte n 3, numByte n 4, numByte n 5, numByte n 6, numByte n 7] := by simp [num8, List.range_succ]
  have b0 := hb 0; have b1 := hb 1; have b2 := hb 2; have b3 := hb 3
  have b4 := hb 4; have b5 := hb 5; have b6 := hb 6; have b7 := hb 7
  simp at b0 b1 b2 b3 b4 b5 b6 b7
  rw [e]
  simp only [numOf, List.foldl_cons, List.foldl_nil]
  omega

theorem num8_numOf (l : List UInt8) (h : l.length = 8) : num8 (numOf l : Int) = l := by
  match l, h with
  | [a, b, c, d, e, f, g, k], _ =>
    have ha := a.toNat_lt; have hb := b.toNat_lt; have hc := c.toNat_lt; have hd := d.toNat_lt
    have he := e.toNat_lt; have hf := f.toNat_lt; have hg := g.toNat_lt; have hk := k.toNat_lt
    have en : num8 (numOf [a, b, c, d, e, f, g, k] : Int) = (List.range 8).map (numByte (numOf [a, b, c, d, e, f, g, k] : Int)) := rfl
    rw [en]
    simp only [List.range_succ, List.range_zero, List.map_cons, List.map_nil, List.nil_append, List.cons_append, numByte, numOf, List.foldl_cons, List.foldl_nil]
    have key : ∀ (x : UInt8) (m : Int), m = (x.toNat : Int) → UInt8.ofNat m.toNat = x := by
      intro x m hm; subst hm; simp
    simp only [List.cons.injEq, and_true]
    refine ⟨key _ _ ?_, key _ _ ?_, key _ _ ?_, key _ _ ?_, key _ _ ?_, key _ _ ?_, key _ _ ?_, key _ _ ?_⟩ <;> simp at ha hb hc hd he hf hg hk ⊢ <;> omega

theorem bytes_ext {a b : ByteArray} (h : a.data.toList = b.data.toList) : a = b := by
  cases a; cases b
  simpa using Array.toList_inj.1 h
theorem nil_text {t : ByteArray} (h : t.toList = []) : t = ⟨#[]⟩ := by
  apply bytes_ext
  rw [← ByteArray.toList_eq, h]

/-- A valid part is read back from its piece, whatever stands behind. -/
theorem rdPiece_piece (p : Pt) (rest : List UInt8) (hv : vldB p = true) (h0 : 0 ≤ p.n) (h1 : p.n ≤ 18446744073709551615) : rdPiece (piece p false ++ rest) = some (p, (piece p false).length) := by
  obtain ⟨k, t, n⟩ := p
  rcases vld_cases hv with ⟨hk, hn⟩ | ⟨hk, ht⟩ | ⟨hk, ht, hn⟩
  · simp only at hk hn
    subst hk hn
    have e : piece ⟨1, t, 0⟩ false ++ rest = 1 :: (esc t.data.toList ++ 0 :: 1 :: rest) := by simp [piece]
    rw [e]
    simp only [rdPiece, if_pos, rt_esc, Option.map_some, List.nil_append]
    congr 2
    simp [piece]; omega
  · simp only at hk ht h0 h1
    subst hk
    have ht := nil_text ht
    subst ht
    have hl : (num8 n).length = 8 := by simp [num8]
    have e : piece ⟨2, ⟨#[]⟩, n⟩ false ++ rest = 2 :: (num8 n ++ rest) := by simp [piece]
    rw [e]
    simp only [rdPiece]
    rw [if_neg (by decide), if_pos trivial, if_pos (by simp; omega), List.take_append_of_le_length (by omega), List.take_of_length_le (by omega), numOf_num8 n h0 h1]
    simp [piece, hl]
  · simp only at hk ht hn
    subst hk
    have ht := nil_text ht
    subst ht
    have e : piece ⟨3, ⟨#[]⟩, n⟩ false ++ rest = 3 :: UInt8.ofNat n.toNat :: rest := by simp [piece]
    rw [e]
    rcases hn with rfl | rfl <;> simp [rdPiece, piece]

/-- What is read is valid, and its piece is what was read. -/
theorem rdPiece_inv {l : List UInt8} {p : Pt} {n : Nat} (h : rdPiece l = some (p, n)) : vldB p = true ∧ ∃ rest, l = piece p false ++ rest ∧ n = (piece p false).length := by
  match l with
  | [] => simp [rdPiece] at h
  | c :: r =>
    simp only [rdPiece] at h
    by_cases hc : c = 1
    · rw [if_pos hc] at h
      subst hc
      obtain ⟨x, hx, he⟩ := Option.map_eq_some_iff.1 h
      simp only [Prod.mk.injEq] at he
      obtain ⟨rfl, rfl⟩ := he
      obtain ⟨q, rest, e1, e2, e3⟩ := rt_inv r [] 1 x hx
      simp at e1
      refine ⟨by simp [vldB], rest, by simp [piece, e1, e2], ?_⟩
      rw [e3]; simp [piece, e1]; omega
    · rw [if_neg hc] at h
      by_cases hc2 : c = 2
      · rw [if_pos hc2] at h
        subst hc2
        by_cases h8 : 8 ≤ r.length
        · rw [if_pos h8] at h
          simp at h
          obtain ⟨rfl, rfl⟩ := h
          have hl : (r.take 8).length = 8 := by simp; omega
          have e8 := num8_numOf (r.take 8) hl
          refine ⟨by simp [vldB, ByteArray.toList_eq], r.drop 8, ?_, ?_⟩
          · simp [piece, e8]
          · simp [piece, num8]
        · rw [if_neg h8] at h; simp at h
      · rw [if_neg hc2] at h
        by_cases hc3 : c = 3
        · rw [if_pos hc3] at h
          subst hc3
          match r with
          | [] => simp at h
          | d :: r =>
            simp only at h
            by_cases hd : d.toNat ≤ 1
            · rw [if_pos hd] at h
              simp at h
              obtain ⟨rfl, rfl⟩ := h
              have : d.toNat = 0 ∨ d.toNat = 1 := by omega
              refine ⟨?_, r, by simp [piece], by simp [piece]⟩
              rcases this with e | e <;> simp [vldB, ByteArray.toList_eq, e]
            · rw [if_neg hd] at h; simp at h
        · rw [if_neg hc3] at h; simp at h

theorem enc_false_cons (p : Pt) (r : List Pt) : enc false (p :: r) = piece p false ++ enc false r := by rw [enc_cons]; rfl

theorem decF_inv (f : Nat) : ∀ (l : List UInt8) (ps : List Pt), decF f l = some ps → enc false ps = l ∧ ps.all vldB = true := by
  induction f with
  | zero =>
    intro l ps h
    cases l with
    | nil => simp [decF] at h; subst h; simp [enc]
    | cons c r => simp [decF] at h
  | succ f ih =>
    intro l ps h
    cases l with
    | nil => simp [decF] at h; subst h; simp [enc]
    | cons c r =>
      simp only [decF, List.isEmpty_cons, Bool.false_eq_true, if_false] at h
      cases hr : rdPiece (c :: r) with
      | none => rw [hr] at h; simp at h
      | some x =>
        obtain ⟨p, n⟩ := x
        rw [hr] at h
        simp only at h
        obtain ⟨qs, hq, rfl⟩ := Option.map_eq_some_iff.1 h
        obtain ⟨hv, rest, e1, e2⟩ := rdPiece_inv hr
        obtain ⟨e3, e4⟩ := ih _ _ hq
        refine ⟨?_, by simp only [List.all_cons, hv, e4, Bool.and_self]⟩
        rw [enc_false_cons, e3, e1, e2]
        simp

theorem decF_enc (ps : List Pt) : ∀ f, (enc false ps).length ≤ f → ps.all vldB = true → (∀ p ∈ ps, 0 ≤ p.n ∧ p.n ≤ 18446744073709551615) → decF f (enc false ps) = some ps := by
  induction ps with
  | nil => intro f _ _ _; simp [enc, decF_empty]
  | cons p ps ih =>
    intro f hf hv hn
    simp only [List.all_cons, Bool.and_eq_true] at hv
    rw [enc_false_cons] at hf ⊢
    have hp := hn p (List.mem_cons_self ..)
    have hr := rdPiece_piece p (enc false ps) hv.1 hp.1 hp.2
    have hne : piece p false ++ enc false ps ≠ [] := by
      intro h; rw [h] at hr; simp [rdPiece] at hr
    have hpos : 0 < (piece p false).length := (by have := (rdPiece_bounds hr).1; omega)
    obtain ⟨g, rfl, hg⟩ := decF_some f _ p _ hne hr hf
    rw [hg, List.drop_left, ih g (by rw [List.length_append] at hf; omega) hv.2 (fun q hq => hn q (List.mem_cons_of_mem _ hq))]
    rfl

theorem decF_bounds (f : Nat) : ∀ (l : List UInt8) (ps : List Pt), decF f l = some ps → ∀ p ∈ ps, 0 ≤ p.n ∧ p.n ≤ 18446744073709551615 := by
  induction f with
  | zero =>
    intro l ps h
    cases l with
    | nil => simp [decF] at h; subst h; simp
    | cons c r => simp [decF] at h
  | succ f ih =>
    intro l ps h
    cases l with
    | nil => simp [decF] at h; subst h; simp
    | cons c r =>
      simp only [decF, List.isEmpty_cons, Bool.false_eq_true, if_false] at h
      cases hr : rdPiece (c :: r) with
      | none => rw [hr] at h; simp at h
      | some x =>
        obtain ⟨p, n⟩ := x
        rw [hr] at h
        simp only at h
        obtain ⟨qs, hq, rfl⟩ := Option.map_eq_some_iff.1 h
        intro q hqm
        rcases List.mem_cons.1 hqm with rfl | hqm
        · exact (rdPiece_bounds hr).2.2.2.2
        · exact ih _ _ hq q hqm
theorem dec_bounds {l : List UInt8} {ps : List Pt} (h : dec l = some ps) : ∀ p ∈ ps, 0 ≤ p.n ∧ p.n ≤ 18446744073709551615 := decF_bounds _ _ _ h
theorem dec_inv {l : List UInt8} {ps : List Pt} (h : dec l = some ps) : enc false ps = l ∧ ps.all vldB = true := decF_inv _ _ _ h
theorem dec_enc (ps : List Pt) (hv : ps.all vldB = true) (hn : ∀ p ∈ ps, 0 ≤ p.n ∧ p.n ≤ 18446744073709551615) : dec (enc false ps) = some ps := decF_enc ps _ (Nat.le_refl _) hv hn
end Go.Proofs.Ytehbclliiphglab
