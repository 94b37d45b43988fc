/- The order of the keys is the order of the lists, in plain lists. -/
import Derived.Test.YtehbclliiphglabKCmpMath
import Derived.Test.YtehbclliiphglabKAns
namespace Go.Proofs.Ytehbclliiphglab
open Go.RowKit
set_option linter.unusedVariables false

theorem less_common (l a b : List UInt8) : Op.bytesLess (l ++ a) (l ++ b) = Op.bytesLess a b := by
  induction l with
  | nil => rfl
  | cons c l ih => simp [Op.bytesLess, ih]
theorem less_first {c d : UInt8} (h : c ≠ d) (a b : List UInt8) : Op.bytesLess (c :: a) (d :: b) = decide (c < d) := by
  simp [Op.bytesLess, h]

theorem u8_pos {c : UInt8} (h : ¬ c = 0) : (0 : UInt8) < c := by
  rw [UInt8.lt_iff_toNat_lt]
  have : c.toNat ≠ 0 := fun e => h (UInt8.toNat_inj.1 (by simpa using e))
  have h0 : (0 : UInt8).toNat = 0 := rfl
  omega
theorem u8_not_neg (c : UInt8) : ¬ c < 0 := by
  rw [UInt8.lt_iff_toNat_lt]
  have h0 : (0 : UInt8).toNat = 0 := rfl
  omega

theorem less_esc (t : List UInt8) : ∀ (u a b : List UInt8), t ≠ u → Op.bytesLess (esc t ++ 0 :: 1 :: a) (esc u ++ 0 :: 1 :: b) = Op.bytesLess t u := by
  induction t with
  | nil =>
    intro u a b h
    cases u with
    | nil => exact absurd rfl h
    | cons d u =>
      rw [esc_cons]
      by_cases hd : d = 0
      · subst hd
        simp [esc, Op.bytesLess]
      · rw [if_neg hd]
        show Op.bytesLess (0 :: _) (d :: _) = true
        rw [less_first (fun e => hd e.symm)]
        simpa using u8_pos hd
  | cons c t ih =>
    intro u a b h
    cases u with
    | nil =>
      rw [esc_cons]
      by_cases hc : c = 0
      · subst hc
        simp [esc, Op.bytesLess]
      · rw [if_neg hc]
        show Op.bytesLess (c :: _) (0 :: _) = false
        rw [less_first hc]
        simp
    | cons d u =>
      by_cases hcd : c = d
      · subst hcd
        have h' : t ≠ u := fun e => h (by rw [e])
        rw [esc_cons, esc_cons, List.append_assoc, List.append_assoc, less_common, ih u a b h']
        simp [Op.bytesLess]
      · rw [less_first hcd, esc_cons, esc_cons]
        by_cases hc : c = 0
        · subst hc
          rw [if_pos rfl, if_neg (fun e => hcd e.symm)]
          exact less_first hcd _ _
        · rw [if_neg hc]
          by_cases hd : d = 0
          · subst hd
            rw [if_pos rfl]
            exact less_first hcd _ _
          · rw [if_neg hd]
            exact less_first hcd _ _

theorem numOf_fold (l : List UInt8) : ∀ n : Nat, l.foldl (fun n c => n * 256 + c.toNat) n = n * 256 ^ l.length + numOf l := by
  induction l with
  | nil => intro n; simp [numOf]
  | cons c l ih =>
    intro n
    have h1 := ih (n * 256 + c.toNat)
    have h2 := ih c.toNat
    have h3 : numOf (c :: l) = l.foldl (fun n c => n * 256 + c.toNat) c.toNat := by simp [numOf]
    rw [List.foldl_cons, h1, h3, h2, List.length_cons, Nat.pow_succ, Nat.add_mul, Nat.mul_assoc n 256, Nat.mul_comm 256 (256 ^ l.length), Nat.add_assoc]
theorem numOf_cons (c : UInt8) (l : List UInt8) : numOf (c :: l) = c.toNat * 256 ^ l.length + numOf l := by
  have := numOf_fold l c.toNat
  simpa [numOf] using this

theorem less_num (x : List UInt8) : ∀ (y a b : List UInt8), x.length = y.length → x ≠ y → Op.bytesLess (x ++ a) (y ++ b) = decide (numOf x < numOf y) := by
  induction x with
  | nil => intro y a b hl h; cases y with | nil => exact absurd rfl h | cons d y => simp at hl
  | cons c x ih =>
    intro y a b hl h
    cases y with
    | nil => simp at hl
    | cons d y =>
      have hl' : x.length = y.length := by simpa using hl
      rw [numOf_cons, numOf_cons, hl']
      have b1 := numOf_lt x
      have b2 := numOf_lt y
      rw [hl'] at b1
      by_cases hcd : c = d
      · subst hcd
        have h' : x ≠ y := fun e => h (by rw [e])
        have := ih y a b hl' h'
        simp only [List.cons_append, Op.bytesLess]
        rw [this]
        simp
      · rw [show (c :: x ++ a) = c :: (x ++ a) from rfl, show (d :: y ++ b) = d :: (y ++ b) from rfl, less_first hcd]
        have hne : c.toNat ≠ d.toNat := fun e => hcd (UInt8.toNat_inj.1 e)
        rw [decide_eq_decide, UInt8.lt_iff_toNat_lt]
        generalize hK : 256 ^ y.length = K at *
        constructor
        · intro hlt
          have : (c.toNat + 1) * K ≤ d.toNat * K := Nat.mul_le_mul_right _ hlt
          rw [Nat.add_mul] at this
          omega
        · intro hlt
          rcases Nat.lt_or_ge c.toNat d.toNat with g | g
          · exact g
          · exfalso
            have : (d.toNat + 1) * K ≤ c.toNat * K := Nat.mul_le_mul_right _ (by omega)
            rw [Nat.add_mul] at this
            omega

theorem piece_order {p q : Pt} (hp : vldB p = true) (hq : vldB q = true) (hpn : 0 ≤ p.n ∧ p.n ≤ 18446744073709551615) (hqn : 0 ≤ q.n ∧ q.n ≤ 18446744073709551615) (hne : p ≠ q) (a b : List UInt8) :
    Op.bytesLess (piece p false ++ a) (piece q false ++ b) = decide (cmpP p q < 0) := by
  obtain ⟨k, t, n⟩ := p
  obtain ⟨k', t', n'⟩ := q
  rcases vld_cases hp with ⟨h1, h2⟩ | ⟨h1, h2⟩ | ⟨h1, h2, h3⟩ <;> rcases vld_cases hq with ⟨g1, g2⟩ | ⟨g1, g2⟩ | ⟨g1, g2, g3⟩ <;> simp only at h1 h2 g1 g2 hpn hqn <;> subst h1 g1
  · subst h2 g2
    have ht : t.data.toList ≠ t'.data.toList := fun e => hne (by rw [bytes_ext e])
    have e1 : piece ⟨1, t, 0⟩ false ++ a = [1] ++ (esc t.data.toList ++ 0 :: 1 :: a) := by simp [piece]
    have e2 : piece ⟨1, t', 0⟩ false ++ b = [1] ++ (esc t'.data.toList ++ 0 :: 1 :: b) := by simp [piece]
    rw [e1, e2, less_common, less_esc _ _ _ _ ht]
    have hc : cmpP ⟨1, t, 0⟩ ⟨1, t', 0⟩ = cmpS t.data.toList t'.data.toList := by simp [cmpP, ByteArray.toList_eq]
    rw [hc]
    have hb : (t.data.toList == t'.data.toList) = false := by rw [beq_eq_false_iff_ne]; exact ht
    unfold cmpS
    cases hb2 : Op.bytesLess t.data.toList t'.data.toList with
    | true => rfl
    | false => rw [hb]; rfl
  · have hc : cmpP ⟨1, t, n⟩ ⟨2, t', n'⟩ = -1 := by simp [cmpP, cmpI]
    rw [hc]; simp [piece, Op.bytesLess]
  · have hc : cmpP ⟨1, t, n⟩ ⟨3, t', n'⟩ = -1 := by simp [cmpP, cmpI]
    rw [hc]; simp [piece, Op.bytesLess]
  · have hc : cmpP ⟨2, t, n⟩ ⟨1, t', n'⟩ = 1 := by simp [cmpP, cmpI]
    rw [hc]; simp [piece, Op.bytesLess]
  · have h2 := nil_text h2
    have g2 := nil_text g2
    subst h2 g2
    have hnn : n ≠ n' := fun e => hne (by rw [e])
    have e1 : piece ⟨2, ⟨#[]⟩, n⟩ false ++ a = [2] ++ (num8 n ++ a) := by simp [piece]
    have e2 : piece ⟨2, ⟨#[]⟩, n'⟩ false ++ b = [2] ++ (num8 n' ++ b) := by simp [piece]
    have i1 := numOf_num8 n hpn.1 hpn.2
    have i2 := numOf_num8 n' hqn.1 hqn.2
    rw [e1, e2, less_common, less_num _ _ _ _ (by simp [num8]) (fun e => hnn (by rw [← i1, ← i2, e]))]
    have hc : cmpP ⟨2, ⟨#[]⟩, n⟩ ⟨2, ⟨#[]⟩, n'⟩ = cmpI n n' := by simp [cmpP]
    rw [hc, decide_eq_decide]
    unfold cmpI
    repeat' split
    all_goals omega
  · have hc : cmpP ⟨2, t, n⟩ ⟨3, t', n'⟩ = -1 := by simp [cmpP, cmpI]
    rw [hc]; simp [piece, Op.bytesLess]
  · have hc : cmpP ⟨3, t, n⟩ ⟨1, t', n'⟩ = 1 := by simp [cmpP, cmpI]
    rw [hc]; simp [piece, Op.bytesLess]
  · have hc : cmpP ⟨3, t, n⟩ ⟨2, t', n'⟩ = 1 := by simp [cmpP, cmpI]
    rw [hc]; simp [piece, Op.bytesLess]
  · have h2 := nil_text h2
    have g2 := nil_text g2
    subst h2 g2
    simp only at h3 g3
    rcases h3 with rfl | rfl <;> rcases g3 with rfl | rfl
    · exact absurd rfl hne
    · simp [piece, Op.bytesLess, cmpP, cmpI]
    · simp [piece, Op.bytesLess, cmpP, cmpI]
    · exact absurd rfl hne

theorem key_order (ps : List Pt) : ∀ qs : List Pt, ps.all vldB = true → qs.all vldB = true → (∀ p ∈ ps, p.wf) → (∀ p ∈ qs, p.wf) → Op.bytesLess (enc false ps) (enc false qs) = decide (cmpL ps qs < 0) := by
  induction ps with
  | nil =>
    intro qs _ _ _ _
    cases qs with
    | nil => simp [enc, Op.bytesLess, cmpL]
    | cons q qs =>
      rw [enc_false_cons]
      have : 0 < (piece q false).length := by
        unfold piece
        split
        · simp
        · split <;> simp
      match hm : piece q false, this with
      | c :: r, _ => simp [enc, Op.bytesLess, cmpL]
  | cons p ps ih =>
    intro qs hp hq hwp hwq
    simp only [List.all_cons, Bool.and_eq_true] at hp
    cases qs with
    | nil =>
      rw [enc_false_cons]
      have : Op.bytesLess (piece p false ++ enc false ps) (enc false []) = false := by
        cases piece p false ++ enc false ps <;> rfl
      rw [this]; simp [cmpL]
    | cons q qs =>
      simp only [List.all_cons, Bool.and_eq_true] at hq
      rw [enc_false_cons, enc_false_cons, cmpL]
      by_cases h : p = q
      · subst h
        rw [less_common, (ptEq_iff p p).2 rfl, ih qs hp.2 hq.2 (fun x hx => hwp x (List.mem_cons_of_mem _ hx)) (fun x hx => hwq x (List.mem_cons_of_mem _ hx))]
        rfl
      · rw [piece_order hp.1 hq.1 (hwp p (List.mem_cons_self ..)).2.1 (hwq q (List.mem_cons_self ..)).2.1 h, ptEq_false h]
        rfl

theorem cmpL_self (ps : List Pt) : cmpL ps ps = 0 := by
  have := cmpL_neg ps ps
  omega
theorem key_same {ps qs : List Pt} (hp : ps.all vldB = true) (hq : qs.all vldB = true) (hwp : ∀ p ∈ ps, p.wf) (hwq : ∀ p ∈ qs, p.wf) : (enc false ps = enc false qs ↔ ps = qs) ∧ (cmpL ps qs = 0 ↔ ps = qs) := by
  have inj : enc false ps = enc false qs → ps = qs := by
    intro e
    have h1 := dec_enc ps hp (fun p h => (hwp p h).2.1)
    have h2 := dec_enc qs hq (fun p h => (hwq p h).2.1)
    rw [e, h2] at h1
    exact (Option.some.inj h1).symm
  refine ⟨⟨inj, fun e => by rw [e]⟩, ⟨fun h => ?_, fun e => by rw [e, cmpL_self]⟩⟩
  have o1 := key_order ps qs hp hq hwp hwq
  have o2 := key_order qs ps hq hp hwq hwp
  have hn := cmpL_neg ps qs
  rw [h] at o1 hn
  rw [hn] at o2
  simp at o1 o2
  rcases bytesLess_total (enc false ps) (enc false qs) with ⟨g1, _, _⟩ | ⟨g1, _⟩ | ⟨_, g1, _⟩
  · rw [o1] at g1; exact absurd g1 (by decide)
  · exact inj g1
  · rw [o2] at g1; exact absurd g1 (by decide)
end Go.Proofs.Ytehbclliiphglab
