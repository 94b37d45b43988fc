/- Layer 18 (json): what is printed is read again. -/
import Derived.Test.YtelhgjepjieocaaDoorJxBkP
namespace Go.Proofs.YtelhgjepjieocaaDoor
open Go.RowKit Go.Sort
set_option linter.unusedVariables false

theorem hdN_ne {c : UInt8} {l : List UInt8} {n : Nat} (h : c.toNat ≠ n) : ¬ hdN (c :: l) = some n := fun e => h (Option.some.inj e)
theorem sp_no {c : UInt8} {l : List UInt8} (h : isSpN c.toNat = false) : spL (c :: l) = c :: l := by
  show (if isSpN c.toNat then spL l else c :: l) = _
  rw [h]; rfl
/-- What a print begins with. -/
def Bgn (c : UInt8) : Prop := isSpN c.toNat = false ∧ c.toNat ≠ 93 ∧ c.toNat ≠ 125 ∧ c.toNat ≠ 44
theorem itoa_hd (n : Int) : ∃ c l, Lib.itoa n = c :: l ∧ (c.toNat = 45 ∨ (48 ≤ c.toNat ∧ c.toNat ≤ 57)) := by
  rcases Int.lt_or_le n 0 with h0 | h0
  · obtain ⟨u, rfl⟩ : ∃ u : Nat, n = -(u : Int) := ⟨n.natAbs, by omega⟩
    exact ⟨45, _, itoa_neg' (by omega), .inl rfl⟩
  · obtain ⟨u, rfl⟩ : ∃ u : Nat, n = (u : Int) := ⟨n.natAbs, by omega⟩
    rw [show Lib.itoa (u : Int) = Lib.decDigits u from Lib.itoa_nonneg u]
    have hd := (dec_dig u).1
    cases hq : Lib.decDigits u with
    | nil => exact absurd hq (dec_can u).1.1
    | cons c l => exact ⟨c, l, rfl, .inr (hd c (by rw [hq]; simp))⟩
theorem isSp_no {c : Nat} (h : c = 45 ∨ (48 ≤ c ∧ c ≤ 57)) : isSpN c = false := by
  unfold isSpN
  simp; omega
theorem pv_hd (v : Js) : ∃ c l, pv v = c :: l ∧ Bgn c := by
  obtain ⟨k, n, t, ns, its⟩ := v
  unfold pv
  split
  · split
    · exact ⟨_, _, rfl, by unfold Bgn; decide⟩
    · exact ⟨_, _, rfl, by unfold Bgn; decide⟩
  · split
    · obtain ⟨c, l, e, h⟩ := itoa_hd n
      exact ⟨c, l, e, isSp_no h, by omega, by omega, by omega⟩
    · split
      · exact ⟨_, _, rfl, by unfold Bgn; decide⟩
      · split
        · exact ⟨_, _, rfl, by unfold Bgn; decide⟩
        · split
          · exact ⟨_, _, rfl, by unfold Bgn; decide⟩
          · exact ⟨_, _, rfl, by unfold Bgn; decide⟩
theorem pis_nil (obj first : Bool) (ns : List (List UInt8)) : pis obj first ns [] = [] := by unfold pis; rfl
theorem pis_cons (obj first : Bool) (ns : List (List UInt8)) (x : Js) (xs : List Js) : pis obj first ns (x :: xs) = (if first then [] else [44]) ++ ((if obj then ptx (ns.headD []) ++ [58] else []) ++ (pv x ++ pis obj false ns.tail xs)) := by
  conv => lhs; unfold pis
theorem pv_pos (v : Js) : 1 ≤ (pv v).length := by
  obtain ⟨c, l, e, -⟩ := pv_hd v
  rw [e]; simp
theorem nod_lit {c : UInt8} {l : List UInt8} (h : dgU c = false) : NoD (c :: l) := fun x r e => by cases e; exact h
theorem nod_rest (obj : Bool) (ns : List (List UInt8)) (ys : List Js) (e : UInt8) (rest : List UInt8) (he : dgU e = false) : NoD (pis obj false ns ys ++ e :: rest) := by
  cases ys with
  | nil => unfold pis; exact nod_lit he
  | cons y ys => unfold pis; exact nod_lit (by decide)
theorem nameP_back (ns0 : List (List UInt8)) (t rest : List UInt8) (h : t ∉ ns0) : nameP ns0 (ptx t ++ 58 :: rest) = .ok (t, rest) := by
  have e : ptx t ++ 58 :: rest = 34 :: (flB t ++ 34 :: 58 :: rest) := by simp [ptx]
  unfold nameP
  rw [e, sp_no (by decide), textP_back]
  show (if t ∈ ns0 then _ else if hdN (spL (58 :: rest)) = some 58 then _ else _) = _
  rw [if_neg h, sp_no (by decide), if_pos (by rfl)]
  rfl
/-- The items of a list or object. -/
def IH (v : Js) : Prop := ∀ (k d : Nat) (rest : List UInt8), soundJ v d = true → Rng v → 2 * (pv v).length + 1 ≤ k → NoD rest → bareF k d (pv v ++ rest) = .ok (v, rest)
theorem elF_back (kind : Int) (obj : Bool) (e : UInt8) (ho : obj = decide (kind = 6)) (he : e.toNat = 93 ∨ e.toNat = 125) (d : Nat) (rest : List UInt8) : ∀ (x : Js) (xs : List Js) (k : Nat) (ns ns0 : List (List UInt8)) (its0 : List Js), (∀ y ∈ x :: xs, IH y) →
    allS (x :: xs) (d + 1) = true → Rngs (x :: xs) → (obj = true → ns.length = (x :: xs).length ∧ (ns0 ++ ns).Nodup) → (obj = false → ns = []) → 2 * (pis obj true ns (x :: xs)).length + 2 ≤ k →
    elF k kind e.toNat d (pis obj true ns (x :: xs) ++ e :: rest) ns0 its0 = .ok (.mk kind 0 [] (ns0 ++ ns) (its0 ++ (x :: xs)), rest)
  | x, xs, 0, ns, ns0, its0, hI, hs, hr, h1, h2, hk => by omega
  | x, xs, k + 1, ns, ns0, its0, hI, hs, hr, h1, h2, hk => by
    have hsp : isSpN e.toNat = false := by rcases he with h | h <;> rw [h] <;> decide
    have hdg : dgU e = false := by unfold dgU; rcases he with h | h <;> rw [h] <;> decide
    have hen : e.toNat ≠ 44 := by omega
    have hsx : soundJ x (d + 1) = true ∧ allS xs (d + 1) = true := by
      unfold allS at hs
      simpa using hs
    have hrx : Rng x ∧ Rngs xs := by unfold Rngs at hr; exact hr
    obtain ⟨ns1, nm, hn1, hE, hlen⟩ : ∃ (ns1 : List (List UInt8)) (nm : List (List UInt8)), ns = nm ++ ns1 ∧ elN kind ns0 (pis obj true ns (x :: xs) ++ e :: rest) = .ok (ns0 ++ nm, pv x ++ (pis obj false ns.tail xs ++ e :: rest)) ∧ ns.tail = ns1 := by
      cases hob : obj with
      | true =>
        have hk6 : kind = 6 := by rw [hob] at ho; simpa using ho.symm
        obtain ⟨hl, hd⟩ := h1 hob
        cases ns with
        | nil => simp at hl
        | cons t ns1 =>
          refine ⟨ns1, [t], rfl, ?_, rfl⟩
          have hni : t ∉ ns0 := by
            intro hm
            rw [List.nodup_append] at hd
            exact hd.2.2 t hm t (by simp) rfl
          have e1 : pis true true (t :: ns1) (x :: xs) ++ e :: rest = ptx t ++ 58 :: (pv x ++ (pis true false ns1 xs ++ e :: rest)) := by
            rw [pis_cons]; simp
          unfold elN
          rw [if_pos hk6, e1, nameP_back ns0 t _ hni]
          rfl
      | false =>
        have hk6 : kind ≠ 6 := by rw [hob] at ho; simpa using ho.symm
        obtain rfl := h2 hob
        refine ⟨[], [], rfl, ?_, rfl⟩
        unfold elN
        rw [if_neg hk6, pis_cons]
        simp
    have hkx : 2 * (pv x).length + 1 ≤ k ∧ (xs ≠ [] → 2 * (pis obj true ns.tail xs).length + 2 ≤ k) := by
      have e1 : (pv x).length + (pis obj false ns.tail xs).length ≤ (pis obj true ns (x :: xs)).length := by
        rw [pis_cons]
        simp <;> omega
      refine ⟨by omega, fun hne => ?_⟩
      cases xs with
      | nil => exact absurd rfl hne
      | cons y ys =>
        have e2 : (pis obj false ns.tail (y :: ys)).length = (pis obj true ns.tail (y :: ys)).length + 1 := by
          rw [pis_cons, pis_cons]; simp <;> omega
        have := pv_pos x
        omega
    unfold elF
    rw [hE]
    obtain ⟨c, l, ec, hc⟩ := pv_hd x
    have hsx2 : spL (pv x ++ (pis obj false ns.tail xs ++ e :: rest)) = pv x ++ (pis obj false ns.tail xs ++ e :: rest) := by
      rw [ec]; exact sp_no hc.1
    simp only [hsx2]
    rw [hI x (by simp) k (d + 1) _ hsx.1 hrx.1 hkx.1 (nod_rest obj _ xs e rest hdg)]
    cases xs with
    | nil =>
      have e0 : pis obj false ns.tail [] ++ e :: rest = e :: rest := by unfold pis; rfl
      simp only [e0, sp_no hsp]
      rw [if_pos (by rfl)]
      have hn2 : ns1 = [] := by
        cases hob : obj with
        | true => exact List.eq_nil_of_length_eq_zero (by rw [← hlen, List.length_tail, (h1 hob).1]; rfl)
        | false => rw [← hlen, h2 hob]; rfl
      rw [hn1, hn2, List.append_nil]
      rfl
    | cons y ys =>
      have e0 : pis obj false ns.tail (y :: ys) ++ e :: rest = 44 :: (pis obj true ns.tail (y :: ys) ++ e :: rest) := by
        rw [pis_cons, pis_cons]
        simp
      simp only [e0, sp_no (show isSpN (44 : UInt8).toNat = false by decide)]
      rw [if_neg (hdN_ne (fun h => hen h.symm)), if_pos (by rfl)]
      show elF k kind e.toNat d (pis obj true ns.tail (y :: ys) ++ e :: rest) (ns0 ++ nm) (its0 ++ [x]) = _
      rw [elF_back kind obj e ho he d rest y ys k ns.tail (ns0 ++ nm) (its0 ++ [x]) (fun z hz => hI z (List.mem_cons_of_mem _ hz)) hsx.2 hrx.2 (fun hob => ?_) (fun hob => by rw [h2 hob]; rfl) (hkx.2 (by simp))]
      · have e3 : ns0 ++ nm ++ ns.tail = ns0 ++ ns := by rw [List.append_assoc, hlen, ← hn1]
        rw [e3, List.append_assoc]
        rfl
      · have h9 := h1 hob
        rw [hlen]
        refine ⟨?_, by rw [hn1] at h9; rw [List.append_assoc]; exact h9.2⟩
        rw [← hlen, List.length_tail, h9.1]
        simp
mutual
theorem bareF_back : ∀ v : Js, IH v
  | .mk k n t ns its => by
    intro m d rest hs hr hm hd
    have hall := bareF_backs its
    obtain ⟨m, rfl⟩ : ∃ m', m = m' + 1 := ⟨m - 1, by omega⟩
    unfold soundJ at hs
    unfold pv at hm ⊢
    have hn : -9223372036854775808 ≤ n ∧ n ≤ 9223372036854775807 := by unfold Rng at hr; exact hr.1
    have hri : Rngs its := by unfold Rng at hr; exact hr.2.2.2.2.2
    by_cases h1 : k = 1
    · subst h1
      simp at hs
      obtain ⟨⟨rfl, rfl⟩, rfl, rfl⟩ := hs
      rw [if_neg (by decide), if_neg (by decide), if_neg (by decide), if_neg (by decide), if_neg (by decide)]
      unfold bareF
      rfl
    rw [if_neg h1] at hs
    by_cases h2 : k = 2
    · subst h2
      simp at hs
      obtain ⟨⟨h01, rfl⟩, rfl, rfl⟩ := hs
      rw [if_pos rfl]
      rcases h01 with rfl | rfl
      · unfold bareF
        rfl
      · unfold bareF
        rfl
    rw [if_neg h2] at hs hm ⊢
    by_cases h3 : k = 3
    · subst h3
      simp at hs
      obtain ⟨rfl, rfl, rfl⟩ := hs
      rw [if_pos rfl]
      obtain ⟨c, l, e, h⟩ := itoa_hd n
      have hb := numP_back n hn rest hd
      rw [e, List.cons_append] at hb ⊢
      unfold bareF
      rw [if_neg (hdN_ne (by omega)), if_neg (hdN_ne (by omega)), if_neg (hdN_ne (by omega)), if_pos, hb]
      · rfl
      · rcases h with h | h
        · left; show some c.toNat = _; rw [h]
        · right
          show dgN c.toNat = true
          unfold dgN
          simp; omega
    rw [if_neg h3] at hs hm ⊢
    by_cases h4 : k = 4
    · subst h4
      simp at hs
      obtain ⟨rfl, rfl, rfl⟩ := hs
      rw [if_pos rfl]
      have e : ptx t ++ rest = 34 :: (flB t ++ 34 :: rest) := by simp [ptx]
      rw [e]
      unfold bareF
      rw [if_neg (hdN_ne (by decide)), if_neg (hdN_ne (by decide)), if_pos (by rfl), textP_back]
      rfl
    rw [if_neg h4] at hs hm ⊢
    by_cases h5 : k = 5
    · subst h5
      simp at hs
      obtain ⟨⟨⟨rfl, rfl⟩, rfl⟩, h16, ha⟩ := hs
      rw [if_pos rfl] at hm ⊢
      cases its with
      | nil =>
        have e : (91 :: (pis false true [] [] ++ [93]) : List UInt8) ++ rest = 91 :: 93 :: rest := by simp [pis_nil]
        rw [e]
        unfold bareF
        rw [if_pos (by rfl), if_neg (by omega)]
        rfl
      | cons x xs =>
        obtain ⟨m, rfl⟩ : ∃ m', m = m' + 1 := ⟨m - 1, by simp at hm; omega⟩
        have e : (91 :: (pis false true [] (x :: xs) ++ [93]) : List UInt8) ++ rest = 91 :: (pis false true [] (x :: xs) ++ 93 :: rest) := by simp
        rw [e]
        obtain ⟨c, l, ec, hc⟩ := pv_hd x
        have e2 : pis false true [] (x :: xs) ++ 93 :: rest = c :: (l ++ (pis false false [] xs ++ 93 :: rest)) := by
          rw [pis_cons]; simp [ec]
        unfold bareF
        rw [if_pos (by rfl), if_neg (by omega)]
        rw [show spL (91 :: (pis false true [] (x :: xs) ++ 93 :: rest)).tail = pis false true [] (x :: xs) ++ 93 :: rest from by rw [e2]; exact sp_no hc.1]
        rw [if_neg (by rw [e2]; exact hdN_ne hc.2.1)]
        exact elF_back 5 false 93 rfl (.inl rfl) d rest x xs (m + 1) [] [] [] hall ha hri (fun h => by cases h) (fun _ => rfl) (by simp at hm ⊢; omega)
    rw [if_neg h5] at hs hm ⊢
    by_cases h6 : k = 6
    · subst h6
      simp at hs
      obtain ⟨⟨⟨⟨rfl, rfl⟩, hl⟩, h16, ha⟩, hnd⟩ := hs
      rw [if_pos rfl] at hm ⊢
      cases its with
      | nil =>
        obtain rfl : ns = [] := List.eq_nil_of_length_eq_zero hl
        have e : (123 :: (pis true true [] [] ++ [125]) : List UInt8) ++ rest = 123 :: 125 :: rest := by simp [pis_nil]
        rw [e]
        unfold bareF
        rw [if_neg (hdN_ne (by decide)), if_pos (by rfl), if_neg (by omega)]
        rfl
      | cons x xs =>
        obtain ⟨m, rfl⟩ : ∃ m', m = m' + 1 := ⟨m - 1, by simp at hm; omega⟩
        have e : (123 :: (pis true true ns (x :: xs) ++ [125]) : List UInt8) ++ rest = 123 :: (pis true true ns (x :: xs) ++ 125 :: rest) := by simp
        rw [e]
        have e2 : ∃ l, pis true true ns (x :: xs) ++ 125 :: rest = 34 :: l := by
          rw [pis_cons]; exact ⟨_, rfl⟩
        obtain ⟨l, e2⟩ := e2
        unfold bareF
        rw [if_neg (hdN_ne (by decide)), if_pos (by rfl), if_neg (by omega)]
        rw [show spL (123 :: (pis true true ns (x :: xs) ++ 125 :: rest)).tail = pis true true ns (x :: xs) ++ 125 :: rest from by rw [e2]; exact sp_no (by decide)]
        rw [if_neg (by rw [e2]; exact hdN_ne (by decide))]
        exact elF_back 6 true 125 rfl (.inr rfl) d rest x xs (m + 1) ns [] [] hall ha hri (fun _ => ⟨hl, by simpa using hnd⟩) (fun h => by cases h) (by simp at hm ⊢; omega)
    rw [if_neg h6] at hs
    cases hs
theorem bareF_backs : ∀ its : List Js, ∀ x ∈ its, IH x
  | [], x, hx => by cases hx
  | y :: ys, x, hx => by
    rcases List.mem_cons.1 hx with h | h
    · rw [h]; exact bareF_back y
    · exact bareF_backs ys x h
end
theorem parseJ_back (v : Js) (hs : soundJ v 0 = true) (hr : Rng v) (hl : (pv v).length ≤ 65536) : parseJ (nmB (pv v)) = .ok v := by
  have hz : (nmB (pv v)).size = (pv v).length := by simp [nmB, ByteArray.size]
  obtain ⟨c, l, ec, hc⟩ := pv_hd v
  unfold parseJ
  rw [if_neg (by omega), show tl (nmB (pv v)) 0 = pv v by unfold tl nmB; simp]
  unfold valF
  have hb := bareF_back v (2 * (nmB (pv v)).size + 1) 0 [] hs hr (by omega) (fun x l e => by cases e)
  rw [List.append_nil] at hb
  rw [show spL (pv v) = pv v by rw [ec]; exact sp_no hc.1, hb]
  rfl
end Go.Proofs.YtelhgjepjieocaaDoor
