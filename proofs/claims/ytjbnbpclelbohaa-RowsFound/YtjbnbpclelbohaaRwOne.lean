import Derived.Test.YtjbnbpclelbohaaKWrite
import Derived.Test.YtjbnbpclelbohaaSRParse
/- Layer 7 (rows): which keys begin with which; the document's Starts. -/
namespace Go.Proofs.Ytjbnbpclelbohaa
open Go.RowKit
set_option linter.unusedVariables false

def startsB (s p : List UInt8) : Bool := decide (p.length ≤ s.length) && (s.take p.length == p)
theorem extract_take (s : ByteArray) (k : Nat) : (s.extract 0 k).data.toList = s.data.toList.take k := by
  rw [ByteArray.data_extract]
  simp
set_option maxHeartbeats 400000 in
theorem starts_calls (s p : ByteArray) (w : World) (hs : s.size ≤ 281474976702464) (hp : p.size ≤ 281474976702464) :
    Calls Try.prog 18 #[.string s, .string p] w fun e w' => e = .returned (.bool (startsB s.data.toList p.data.toList)) ∧ w' = w := by
  by_cases h : p.size ≤ s.size
  · have hi : (p.size : Int) ≤ (s.size : Int) := by omega
    have hd : decide ((p.size : Int) ≤ (s.size : Int)) = true := by simpa using h
    go_enter Try.func18, Try.ntmps18
    go_wp2
    go_light
    go_ret
    refine ⟨ret_bool ?_, rfl⟩
    rw [ByteArray.toList_eq, ByteArray.toList_eq, extract_take]
    simp [startsB, h]
  · have hd : decide ((p.size : Int) ≤ (s.size : Int)) = false := by simp; omega
    go_enter Try.func18, Try.ntmps18
    go_wp2
    go_ret
    refine ⟨ret_bool ?_, rfl⟩
    simp [startsB, h]
theorem starts_iff (s p : List UInt8) : startsB s p = true ↔ ∃ z, s = p ++ z := by
  unfold startsB
  rw [Bool.and_eq_true, decide_eq_true_eq, beq_iff_eq]
  constructor
  · rintro ⟨_, h2⟩
    exact ⟨s.drop p.length, by conv => lhs; rw [← List.take_append_drop p.length s, h2]⟩
  · rintro ⟨z, rfl⟩
    exact ⟨by simp, by simp⟩
theorem esc_cons (c : UInt8) (r : List UInt8) : esc (c :: r) = (if c = 0 then [0, 255] else [c]) ++ esc r := by simp [esc]
theorem esc_apart : ∀ (u t a b : List UInt8), esc u ++ 0 :: 1 :: a = esc t ++ 0 :: 1 :: b → u = t ∧ a = b
  | [], [], a, b, h => by simp [esc] at h; exact ⟨rfl, h⟩
  | [], d :: t, a, b, h => by
    rw [esc_cons] at h
    by_cases hd : d = 0
    · simp [esc, hd] at h
    · simp [esc, hd] at h
      exact absurd h.1.symm hd
  | c :: u, [], a, b, h => by
    rw [esc_cons] at h
    by_cases hc : c = 0
    · simp [esc, hc] at h
    · simp [esc, hc] at h
  | c :: u, d :: t, a, b, h => by
    rw [esc_cons, esc_cons] at h
    by_cases hc : c = 0
    · by_cases hd : d = 0
      · rw [if_pos hc, if_pos hd] at h
        simp only [List.cons_append, List.nil_append, List.cons.injEq, true_and] at h
        have ih := esc_apart u t a b h
        exact ⟨by rw [hc, hd, ih.1], ih.2⟩
      · rw [if_pos hc, if_neg hd] at h
        simp only [List.cons_append, List.nil_append, List.cons.injEq] at h
        exact absurd h.1.symm hd
    · by_cases hd : d = 0
      · rw [if_neg hc, if_pos hd] at h
        simp only [List.cons_append, List.nil_append, List.cons.injEq] at h
        exact absurd h.1 hc
      · rw [if_neg hc, if_neg hd] at h
        simp only [List.cons_append, List.nil_append, List.cons.injEq] at h
        have ih := esc_apart u t a b h.2
        exact ⟨by rw [h.1, ih.1], ih.2⟩
def numOfB (l : List UInt8) : Nat := l.foldl (fun n c => n * 256 + c.toNat) 0
theorem numOfB_num8 (n : Int) (h0 : 0 ≤ n) (h1 : n ≤ 18446744073709551615) : (numOfB (num8 n) : Int) = n := by
  have hb := fun i => numByte_val n i
  have e : num8 n = [numByte n 0, numByte n 1, numByte n 2, numByte n 3, numByte n 4, numByte n 5, numByte n 6, numByte n 7] := by simp [num8, List.range_succ]
  have b0 := hb 0; have b1 := hb 1; have b2 := hb 2; have b3 := hb 3
  have b4 := hb 4; have b5 := hb 5; have b6 := hb 6; have b7 := hb 7
  simp at b0 b1 b2 b3 b4 b5 b6 b7
  rw [e]
  simp only [numOfB, List.foldl_cons, List.foldl_nil]
  omega
theorem num8_apart {m n : Int} {a b : List UInt8} (hm : 0 ≤ m ∧ m ≤ 18446744073709551615) (hn : 0 ≤ n ∧ n ≤ 18446744073709551615) (h : num8 m ++ a = num8 n ++ b) : m = n ∧ a = b := by
  have hl : ∀ x, (num8 x).length = 8 := fun x => by simp [num8]
  obtain ⟨h1, h2⟩ := List.append_inj h (by rw [hl, hl])
  have := numOfB_num8 m hm.1 hm.2
  rw [h1, numOfB_num8 n hn.1 hn.2] at this
  exact ⟨this.symm, h2⟩
theorem bytes_ext {a b : ByteArray} (h : a.data.toList = b.data.toList) : a = b := by
  apply ByteArray.ext
  exact Array.toList_inj.1 h
/-- Texts and numbers: what a row's parts are. -/
def Plain (p : Pt) : Prop := (p.k = 1 ∧ p.n = 0) ∨ (p.k = 2 ∧ p.t = ⟨#[]⟩)
theorem piece_apart {p q : Pt} {a b : List UInt8} (hp : Plain p) (hq : Plain q) (hwp : p.wf) (hwq : q.wf) (h : piece p false ++ a = piece q false ++ b) : p = q ∧ a = b := by
  obtain ⟨pk, pt, pn⟩ := p
  obtain ⟨qk, qt, qn⟩ := q
  unfold Plain at hp hq
  dsimp only at hp hq
  rcases hp with ⟨rfl, rfl⟩ | ⟨rfl, rfl⟩
  · rcases hq with ⟨rfl, rfl⟩ | ⟨rfl, rfl⟩
    · simp only [piece, beq_self_eq_true, if_true, Bool.false_eq_true, if_false, List.cons_append, List.append_assoc, List.nil_append, List.cons.injEq, true_and] at h
      obtain ⟨h1, h2⟩ := esc_apart _ _ _ _ h
      exact ⟨by rw [bytes_ext h1], h2⟩
    · simp [piece] at h
  · rcases hq with ⟨rfl, rfl⟩ | ⟨rfl, rfl⟩
    · simp [piece] at h
    · simp only [piece, show ((2 : Int) == 1) = false from rfl, beq_self_eq_true, if_true, Bool.false_eq_true, if_false, List.cons_append, List.cons.injEq, true_and] at h
      obtain ⟨h1, h2⟩ := num8_apart hwp.2.1 hwq.2.1 h
      dsimp only at h1
      exact ⟨by rw [h1], h2⟩
theorem piece_ne (p : Pt) : piece p false ≠ [] := by unfold piece; split <;> (try split) <;> simp
theorem enc_fcons (p : Pt) (r : List Pt) : enc false (p :: r) = piece p false ++ enc false r := by rw [enc_cons]; rfl
theorem enc_fappend (ps qs : List Pt) : enc false (ps ++ qs) = enc false ps ++ enc false qs := by
  induction ps with
  | nil => rfl
  | cons p ps ih => rw [List.cons_append, enc_fcons, enc_fcons, ih, List.append_assoc]
/-- A key begins with another's just where its list does. -/
theorem enc_prefix : ∀ (qs ps : List Pt) (z : List UInt8), (∀ p ∈ ps, Plain p ∧ p.wf) → (∀ q ∈ qs, Plain q ∧ q.wf) → enc false ps = enc false qs ++ z → ∃ rest, ps = qs ++ rest
  | [], ps, z, _, _, _ => ⟨ps, rfl⟩
  | q :: qs, [], z, _, _, h => by
    rw [enc_fcons] at h
    have : piece q false = [] := by
      have := congrArg List.length h
      simp only [enc, List.length_nil, List.length_append] at this
      exact List.length_eq_zero_iff.1 (by omega)
    exact absurd this (piece_ne q)
  | q :: qs, p :: ps, z, hp, hq, h => by
    rw [enc_fcons, enc_fcons, List.append_assoc] at h
    have h1 := hp p (List.mem_cons_self ..)
    have h2 := hq q (List.mem_cons_self ..)
    obtain ⟨rfl, h3⟩ := piece_apart h1.1 h2.1 h1.2 h2.2 h
    obtain ⟨rest, rfl⟩ := enc_prefix qs ps z (fun x hx => hp x (List.mem_cons_of_mem _ hx)) (fun x hx => hq x (List.mem_cons_of_mem _ hx)) h3
    exact ⟨rest, rfl⟩
theorem starts_enc {ps qs bh : List Pt} (hps : ∀ p ∈ ps, Plain p ∧ p.wf) (hbh : ∀ p ∈ bh, Plain p ∧ p.wf) (hqs : ∀ q ∈ qs, Plain q ∧ q.wf) (hl : ps.length = qs.length) : startsB (enc false (ps ++ bh)) (enc false qs) = true ↔ ps = qs := by
  rw [starts_iff]
  constructor
  · rintro ⟨z, hz⟩
    obtain ⟨rest, hr⟩ := enc_prefix qs (ps ++ bh) z (fun p hp => by rcases List.mem_append.1 hp with h | h; exact hps p h; exact hbh p h) hqs hz
    exact (List.append_inj hr hl).1
  · rintro rfl
    exact ⟨enc false bh, enc_fappend _ _⟩
theorem enc_inj {ps qs : List Pt} (hps : ∀ p ∈ ps, Plain p ∧ p.wf) (hqs : ∀ q ∈ qs, Plain q ∧ q.wf) (h : enc false ps = enc false qs) : ps = qs := by
  obtain ⟨r, h1⟩ := enc_prefix qs ps [] hps hqs (by rw [List.append_nil]; exact h)
  obtain ⟨r', h2⟩ := enc_prefix ps qs [] hqs hps (by rw [List.append_nil]; exact h.symm)
  have e1 := congrArg List.length h1
  have e2 := congrArg List.length h2
  rw [List.length_append] at e1 e2
  have : r = [] := List.length_eq_zero_iff.1 (by omega)
  rw [h1, this, List.append_nil]
end Go.Proofs.Ytjbnbpclelbohaa

/- Layer 7 (rows): an index of a table of layer 6 goes over one list field at most. -/
namespace Go.Proofs.Ytjbnbpclelbohaa
open Go.RowKit
set_option linter.unusedVariables false

def OneL (ts : List Tb) : Prop := ∀ t ∈ ts, ∀ x ∈ t.xs, listsOf t.fs x.ov ≤ 1
theorem mem_drop {ts : List Tb} {t : Tb} (h : t ∈ ts.dropLast) : t ∈ ts := (List.dropLast_sublist ts).subset h
theorem mem_last {ts : List Tb} {t : Tb} (h : ts.getLast? = some t) : t ∈ ts := List.mem_of_getLast? h
theorem mayB_one {t : Tb} {x : Ix} (h : mayB t x = true) : listsOf t.fs x.ov ≤ 1 := by
  unfold mayB at h
  split at h
  · simp only [Bool.and_eq_true, decide_eq_true_eq] at h
    omega
  · simp only [decide_eq_true_eq] at h
    omega
theorem rTable_one {ln : Int} {ws : List ByteArray} {st st' : St} (h : rTable ln ws st = .ok st') (hp : OneL st.1) : OneL st'.1 := by
  unfold rTable at h
  repeat' split at h
  all_goals first
    | cases h; done
    | (simp only [Except.ok.injEq] at h
       subst h
       intro t ht x hx
       rcases List.mem_append.1 ht with ht | ht
       · exact hp t ht x hx
       · simp only [List.mem_singleton] at ht
         subst ht
         simp at hx)
theorem rField_one {ln : Int} {ws : List ByteArray} {st st' : St} (h : rField ln ws st = .ok st') (hp : OneL st.1) : OneL st'.1 := by
  unfold rField at h
  split at h
  · cases h
  · split at h
    · cases h
    · split at h
      · cases h
      · split at h
        · cases h
        · next t0 ht0 =>
          split at h
          · cases h
          · next hx0 =>
            split at h
            · cases h
            · split at h
              · cases h
              · simp only [Except.ok.injEq] at h
                subst h
                intro t ht x hx
                rcases List.mem_append.1 ht with ht | ht
                · exact hp t (mem_drop ht) x hx
                · simp only [List.mem_singleton] at ht
                  subst ht
                  have h0 : t0.xs = [] := List.length_eq_zero_iff.1 (by omega)
                  simp only [h0] at hx
                  simp at hx
theorem rIndex_one {ln : Int} {ws : List ByteArray} {st st' : St} (h : rIndex ln ws st = .ok st') (hp : OneL st.1) : OneL st'.1 := by
  unfold rIndex at h
  split at h
  · cases h
  · split at h
    · cases h
    · split at h
      · cases h
      · split at h
        · cases h
        · next t0 ht0 =>
          split at h
          · cases h
          · split at h
            · cases h
            · split at h
              · cases h
              · split at h
                · cases h
                · next hm =>
                  simp only [Except.ok.injEq] at h
                  subst h
                  intro t ht x hx
                  rcases List.mem_append.1 ht with ht | ht
                  · exact hp t (mem_drop ht) x hx
                  · simp only [List.mem_singleton] at ht
                    subst ht
                    rcases List.mem_append.1 hx with hx | hx
                    · exact hp t0 (mem_last ht0) x hx
                    · simp only [List.mem_singleton] at hx
                      subst hx
                      have h1 := mayB_one (t := t0) (by cases hb : mayB t0 _ with | true => rfl | false => exact absurd hb hm)
                      exact h1
theorem rLine_one {ln : Int} {ws : List ByteArray} {st st' : St} (h : rLine ln ws st = .ok st') (hp : OneL st.1) : OneL st'.1 := by
  unfold rLine at h
  split at h
  · exact rTable_one h hp
  · split at h
    · exact rField_one h hp
    · split at h
      · exact rIndex_one h hp
      · cases h
theorem rLines_one : ∀ (ls : List ByteArray) (ln : Int) (st st' : St), rLines ln ls st = .ok st' → OneL st.1 → OneL st'.1
  | [], ln, st, st', h, hp => by
    unfold rLines at h
    simp only [Except.ok.injEq] at h
    subst h
    exact hp
  | l :: ls, ln, st, st', h, hp => by
    unfold rLines at h
    split at h
    · exact rLines_one ls _ _ _ h hp
    · split at h
      · cases h
      · next st2 h2 => exact rLines_one ls _ _ _ h (rLine_one h2 hp)
/-- Over one list field at most. -/
theorem parse_one {text : ByteArray} {us : List Tb} (h : parseP text = .ok us) : OneL us := by
  unfold parseP at h
  split at h
  · cases h
  · split at h
    · cases h
    · next st hst =>
      split at h
      · cases h
      · simp only [Except.ok.injEq] at h
        subst h
        exact rLines_one _ _ _ _ hst (fun t ht => by simp at ht)
/-- A table's first index is unique, not loose, and goes over no list field. -/
def FirstX (fs : List Fd) (x : Ix) : Prop := x.u = true ∧ x.s = false ∧ listsOf fs x.ov = 0
def FirstL (ts : List Tb) : Prop := ∀ t ∈ ts, ∀ x, t.xs[0]? = some x → FirstX t.fs x
theorem mayB_first {t : Tb} {x : Ix} (h : mayB t x = true) (h0 : t.xs = []) : FirstX t.fs x := by
  unfold mayB at h
  rw [if_pos (by rw [h0]; rfl)] at h
  simp only [Bool.and_eq_true, decide_eq_true_eq, Bool.not_eq_true'] at h
  exact ⟨h.2.1, h.2.2.1, h.2.2.2⟩
theorem rTable_first {ln : Int} {ws : List ByteArray} {st st' : St} (h : rTable ln ws st = .ok st') (hp : FirstL st.1) : FirstL st'.1 := by
  unfold rTable at h
  repeat' split at h
  all_goals first
    | cases h; done
    | (simp only [Except.ok.injEq] at h
       subst h
       intro t ht x hx
       rcases List.mem_append.1 ht with ht | ht
       · exact hp t ht x hx
       · simp only [List.mem_singleton] at ht
         subst ht
         simp at hx)
theorem rField_first {ln : Int} {ws : List ByteArray} {st st' : St} (h : rField ln ws st = .ok st') (hp : FirstL st.1) : FirstL st'.1 := by
  unfold rField at h
  split at h
  · cases h
  · split at h
    · cases h
    · split at h
      · cases h
      · split at h
        · cases h
        · next t0 ht0 =>
          split at h
          · cases h
          · next hx0 =>
            split at h
            · cases h
            · split at h
              · cases h
              · simp only [Except.ok.injEq] at h
                subst h
                intro t ht x hx
                rcases List.mem_append.1 ht with ht | ht
                · exact hp t (mem_drop ht) x hx
                · simp only [List.mem_singleton] at ht
                  subst ht
                  have h0 : t0.xs = [] := List.length_eq_zero_iff.1 (by omega)
                  simp only [h0] at hx
                  simp at hx
theorem rIndex_first {ln : Int} {ws : List ByteArray} {st st' : St} (h : rIndex ln ws st = .ok st') (hp : FirstL st.1) : FirstL st'.1 := by
  unfold rIndex at h
  split at h
  · cases h
  · split at h
    · cases h
    · split at h
      · cases h
      · split at h
        · cases h
        · next t0 ht0 =>
          split at h
          · cases h
          · split at h
            · cases h
            · split at h
              · cases h
              · split at h
                · cases h
                · next hm =>
                  simp only [Except.ok.injEq] at h
                  subst h
                  intro t ht x hx
                  rcases List.mem_append.1 ht with ht | ht
                  · exact hp t (mem_drop ht) x hx
                  · simp only [List.mem_singleton] at ht
                    subst ht
                    dsimp only at hx ⊢
                    cases h0 : t0.xs with
                    | nil =>
                      rw [h0] at hx
                      simp only [List.nil_append, List.getElem?_cons_zero, Option.some.injEq] at hx
                      subst hx
                      exact mayB_first (t := t0) (by cases hb : mayB t0 _ with | true => rfl | false => exact absurd hb hm) h0
                    | cons y ys =>
                      rw [h0] at hx
                      simp only [List.cons_append, List.getElem?_cons_zero, Option.some.injEq] at hx
                      subst hx
                      exact hp t0 (mem_last ht0) _ (by rw [h0]; rfl)
theorem rLine_first {ln : Int} {ws : List ByteArray} {st st' : St} (h : rLine ln ws st = .ok st') (hp : FirstL st.1) : FirstL st'.1 := by
  unfold rLine at h
  split at h
  · exact rTable_first h hp
  · split at h
    · exact rField_first h hp
    · split at h
      · exact rIndex_first h hp
      · cases h
theorem rLines_first : ∀ (ls : List ByteArray) (ln : Int) (st st' : St), rLines ln ls st = .ok st' → FirstL st.1 → FirstL st'.1
  | [], ln, st, st', h, hp => by
    unfold rLines at h
    simp only [Except.ok.injEq] at h
    subst h
    exact hp
  | l :: ls, ln, st, st', h, hp => by
    unfold rLines at h
    split at h
    · exact rLines_first ls _ _ _ h hp
    · split at h
      · cases h
      · next st2 h2 => exact rLines_first ls _ _ _ h (rLine_first h2 hp)
theorem parse_first {text : ByteArray} {us : List Tb} (h : parseP text = .ok us) : FirstL us := by
  unfold parseP at h
  split at h
  · cases h
  · split at h
    · cases h
    · next st hst =>
      split at h
      · cases h
      · simp only [Except.ok.injEq] at h
        subst h
        exact rLines_first _ _ _ _ hst (fun t ht => by simp at ht)
/-- What rows asks of a table. -/
structure ROk (t : Tb) : Prop where
  one : ∀ x ∈ t.xs, listsOf t.fs x.ov ≤ 1
  first : ∀ x, t.xs[0]? = some x → FirstX t.fs x
theorem parse_rok {text : ByteArray} {us : List Tb} (h : parseP text = .ok us) : ∀ t ∈ us, ROk t := fun t ht => ⟨parse_one h t ht, parse_first h t ht⟩
end Go.Proofs.Ytjbnbpclelbohaa
