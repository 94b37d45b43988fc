import Derived.Test.YtelhgjepjieocaaDoorJxRfB
/- Layer 18 (json): the document's text. -/
namespace Go.Proofs.YtelhgjepjieocaaDoor
open Go.RowKit Go.Sort
set_option linter.unusedVariables false
/-- What the document's text answers. -/
def RtR (w : World) (s : ByteArray) (r : Option (List UInt8 × List UInt8)) (e : Ending) (w' : World) : Prop := Below w.heap.size w w' ∧ match r with
  | some (t, l) => ∃ m : Nat, e = .returned (.tuple #[.string (nmB t), .int .i64 (m : Int)]) ∧ m ≤ s.size ∧ tl s m = l
  | none => e = .returned (.tuple #[.string ⟨#[]⟩, .int .i64 (-1)])
/-- The document's text under way: the bytes acc are out, l comes. -/
def chG (k : Nat) (acc l : List UInt8) : Option (List UInt8 × List UInt8) := (chF k l).map fun p => (acc ++ p.1, p.2)
theorem chG_end {k : Nat} {acc l : List UInt8} (h : hdN l = some 34) : chG (k + 1) acc l = some (acc, l.tail) := by unfold chG; rw [chF_end h]; simp
theorem chG_no {k : Nat} {acc l : List UInt8} (h : ¬ hdN l = some 34) (hc : charP l = none) : chG (k + 1) acc l = none := by unfold chG; rw [chF_step h, hc]; rfl
theorem chG_go {k c : Nat} {acc l r : List UInt8} (h : ¬ hdN l = some 34) (hc : charP l = some (c, r)) : chG (k + 1) acc l = chG k (acc ++ [c.toUInt8]) r := by
  unfold chG
  rw [chF_step h, hc]
  show Option.map _ (Option.map _ (chF k r)) = _
  rw [Option.map_map]
  congr 1
  funext p
  simp
structure RtI (w : World) (s : ByteArray) (Q : Option (List UInt8 × List UInt8)) (k q : Nat) (acc : List UInt8) (x : Value) (wr : World) : Prop where
  own : Ow wr w.heap.size 5 x (bs acc)
  below : Below w.heap.size w wr
  res : chG q acc (tl s k) = Q
  fuel : s.size - k < q
  small : acc.length ≤ k
theorem emptyB (W : World) : Ow (W.alloc (.cells #[] 5)) W.heap.size 5 (.slice (some ⟨W.heap.size, 0, none⟩) 0 0) [] := World.ownsRow_lit (size := 1) W #[] 0 (Nat.le_refl _) (by unfold maxLen; omega) rfl
set_option maxRecDepth 100000 in
set_option maxHeartbeats 4000000 in
theorem refText_calls (s : ByteArray) (n : Nat) (w : World) (hn : n ≤ s.size) (hs : s.size ≤ 1048576) :
    Calls Tryd.prog 39 #[.string s, .int .i64 (n : Int)] w (RtR w s (textP (tl s n))) := by
  obtain ⟨Q, HQ⟩ : ∃ Q : Option (List UInt8 × List UInt8), Hid (Q = textP (tl s n)) := ⟨textP (tl s n), (Eq.refl _ : textP (tl s n) = _)⟩
  rw [← HQ.out]
  by_cases hlt : n < s.size
  · by_cases h34 : s[n].toNat = 34
    · have q34 : ((s[n].toNat : Int) != 34) = false := by rw [h34]; rfl
      have HI : Hid (RtI w s Q (n + 1) (s.size - n) [] (.slice (some ⟨w.heap.size, 0, none⟩) 0 0) (w.alloc (.cells #[] 5))) := by
        refine ⟨emptyB w, (Below.refl _ _).alloc (Nat.le_refl _) _, ?_, by omega, by simp⟩
        rw [HQ.out]
        unfold textP
        rw [if_pos (by rw [tl_hd hlt, h34]), tl_tail hlt, tl_length]
        unfold chG
        cases chF (s.size - n) (tl s (n + 1)) with
        | none => rfl
        | some p => simp
      clear HQ h34
      go_enter Tryd.func39, Tryd.ntmps39
      go_wp2
      rw [show decide (s.size ≤ n) = false from decide_eq_false (by omega)]
      go_loopw [1, 6, 7, 8] (fun i x y z wr => ∃ (k q : Nat) (acc : List UInt8) (ax : Option Addr) (nx cx : Nat), k ≤ s.size ∧ i = .int .i64 (k : Int) ∧ x = .slice ax nx cx ∧ Hid (RtI w s Q k q acc x wr)) (fun i _ _ _ _ => s.size - (intOf i).toNat)
      case atStart => exact ⟨n + 1, _, [], _, _, _, by omega, by go_num, rfl, HI⟩
      case round =>
        clear HI q34
        obtain ⟨k, q, acc, ax, nx, cx, hk, rfl, rfl, HI⟩ := hrel
        obtain ⟨q, rfl⟩ : ∃ q', q = q' + 1 := ⟨q - 1, by have := HI.out.fuel; omega⟩
        by_cases hkl : k < s.size
        · by_cases k34 : s[k].toNat = 34
          · have e34 : ((s[k].toNat : Int) != 34) = false := by rw [k34]; rfl
            have HN : Hid (Q = some (acc, tl s (k + 1))) := by rw [Hid, ← HI.out.res, chG_end (by rw [tl_hd hkl, k34]), tl_tail hkl]
            have hst := ow_string HI.out.own
            have HB := HI.out.below
            clear k34 HI
            go_wp2
            go_ret2
            rw [HN.out]
            exact ⟨HB, k + 1, rfl, by omega, rfl⟩
          · have e34 : ((s[k].toNat : Int) != 34) = true := by simp; omega
            have hne : ¬ hdN (tl s k) = some 34 := by rw [tl_hd hkl]; intro e; exact k34 (Option.some.inj e)
            have HC := refChar_calls s k wr hk hs hne
            cases hc : charP (tl s k) with
            | none =>
              rw [hc] at HC
              have HN : Hid (Q = none ∧ Below w.heap.size w wr) := ⟨by rw [← HI.out.res, chG_no hne hc], HI.out.below⟩
              clear hc hne HI k34
              go_wp2_with fail
              refine HC.mono ?_
              rintro e w5 ⟨hb5, rfl⟩
              have HB5 : Hid (Below w.heap.size w w5) := HN.out.2.trans (hb5.mono HN.out.2.size)
              go_wp2
              go_ret2
              rw [HN.out.1]
              exact ⟨HB5.out, rfl⟩
            | some p =>
              obtain ⟨c, r⟩ := p
              rw [hc] at HC
              have hlen := charP_len hc
              have HN : Hid (chG q (acc ++ [c.toUInt8]) r = Q) := by rw [Hid, ← HI.out.res, chG_go hne hc]
              clear hc hne k34
              go_wp2_with fail
              refine HC.mono ?_
              rintro e w5 ⟨hb5, m, rfl, hm, hr⟩
              have hkm : k < m := by
                have h1 := hlen.2
                rw [← hr, tl_length, tl_length] at h1
                omega
              have HI5 : Hid (Ow w5 w.heap.size 5 (.slice ax nx cx) (bs acc) ∧ Below w.heap.size w w5 ∧ acc.length ≤ k ∧ s.size - k < q + 1 ∧ k < m ∧ w.heap.size ≤ w5.heap.size) := ⟨HI.out.own.below hb5, HI.out.below.trans (hb5.mono HI.out.below.size), HI.out.small, HI.out.fuel, hkm, Nat.le_trans HI.out.below.size hb5.size⟩
              have hcu : (c.toUInt8.toNat : Int) = (c : Int) := by
                have h1 := hlen.1
                have : c.toUInt8.toNat = c := by
                  show c % 256 = c
                  omega
                omega
              have Hb1 : Hid (bs acc ++ [Value.int .u8 (c : Int)] = bs (acc ++ [c.toUInt8])) := by
                rw [Hid, bs_append, ← hcu]; rfl
              rw [← hr] at HN
              have i0 : ¬ ((m : Int) < 0) := by omega
              clear HI hb5 hcu hlen hr hkm
              go_wp2_with (at_builtin; go_must (refine append_u w5 rfl (.tmp 40) (.tmp 42) 41 5 (.int .u8 0) 1 Tryd.underlying41 info_u8 rfl rfl w.heap.size _ (bs acc) rfl (.int .u8 (c : Int)) rfl _ rfl rfl HI5.out.1 (by rw [bs_length]; have := HI5.out.2.2.1; omega) (by rw [bs_length]; have := HI5.out.2.2.1; omega) HI5.out.2.2.2.2.2 ?_))
              intro v6 w6 ho6 hg6
              rw [Hb1.out] at ho6
              have HI6 : Hid (RtI w s Q m q (acc ++ [c.toUInt8]) v6 w6) := ⟨ho6, HI5.out.2.1.trans ((hg6.toBelow HI5.out.2.2.2.2.2 (fun j hj => (World.ownsRow.lt HI5.out.1 j hj).1))), HN.out, by have := HI5.out.2.2; omega, by have := HI5.out.2.2; rw [List.length_append, List.length_singleton]; omega⟩
              have hkm := HI5.out.2.2.2.2.1
              obtain ⟨a6, c6, rfl, -, -, -⟩ := ho6.shape
              clear ho6 hg6 HI5 Hb1 HN
              go_wp2
              go_roundw
              case rel => exact ⟨m, q, _, _, _, _, hm, rfl, rfl, HI6⟩
              case measure => simp [intOf]; omega
        · have HN : Hid (Q = none) := by
            rw [Hid, ← HI.out.res, chG_no (by rw [tl_hd0 hkl]; simp) (by rw [tl_nil (by omega)]; rfl)]
          have HB := HI.out.below
          clear HI
          go_wp2
          go_ret2
          rw [HN.out]
          exact ⟨HB, rfl⟩
    · have q34 : ((s[n].toNat : Int) != 34) = true := by simp; omega
      have HN : Hid (Q = none) := by rw [Hid, HQ.out]; unfold textP; rw [if_neg (by rw [tl_hd hlt]; intro e; exact h34 (Option.some.inj e))]
      clear h34
      go_enter Tryd.func39, Tryd.ntmps39
      go_wp2
      go_ret2
      rw [HN.out]
      exact ⟨Below.refl _ _, rfl⟩
  · have HN : Hid (Q = none) := by rw [Hid, HQ.out]; unfold textP; rw [if_neg (by rw [tl_hd0 hlt]; simp)]
    go_enter Tryd.func39, Tryd.ntmps39
    go_wp2
    go_ret2
    rw [HN.out]
    exact ⟨Below.refl _ _, rfl⟩
end Go.Proofs.YtelhgjepjieocaaDoor

/- Layer 18 (json): the document's word. -/
namespace Go.Proofs.YtelhgjepjieocaaDoor
open Go.RowKit Go.Sort
set_option linter.unusedVariables false
set_option maxRecDepth 100000 in
set_option maxHeartbeats 4000000 in
theorem refWord_calls (s x : ByteArray) (n : Nat) (w : World) (hn : n ≤ s.size) (hs : s.size ≤ 1048576) (hx : x.size ≤ 8) :
    Calls Tryd.prog 40 #[.string s, .int .i64 (n : Int), .string x] w (fun e w' => e = .returned (.int .i64 (if n + x.size ≤ s.size ∧ s.extract n (n + x.size) = x then ((n + x.size : Nat) : Int) else -1)) ∧ Below w.heap.size w w') := by
  by_cases h1 : n + x.size ≤ s.size
  · have i1 : ¬ ((s.size : Int) - (n : Int) < (x.size : Int)) := by omega
    by_cases h2 : s.extract n (n + x.size) = x
    · rw [if_pos ⟨h1, h2⟩]
      go_enter Tryd.func40, Tryd.ntmps40
      go_wp2
      go_ret
      exact ⟨rfl, Below.refl _ _⟩
    · rw [if_neg (fun h => h2 h.2)]
      have h3 : ((s.extract n (n + x.size)).toList == x.toList) = false := by
        rw [beq_eq_false_iff_ne]
        intro e
        rw [ByteArray.toList_eq, ByteArray.toList_eq] at e
        exact h2 (ByteArray.ext (Array.toList_inj.1 e))
      go_enter Tryd.func40, Tryd.ntmps40
      go_wp2
      go_ret
      exact ⟨rfl, Below.refl _ _⟩
  · rw [if_neg (fun h => h1 h.1)]
    have i1 : ((s.size : Int) - (n : Int) < (x.size : Int)) := by omega
    go_enter Tryd.func40, Tryd.ntmps40
    go_wp2
    go_ret
    exact ⟨rfl, Below.refl _ _⟩
end Go.Proofs.YtelhgjepjieocaaDoor

/- Layer 18 (json): which texts are numbers: the document's words and the library's. -/
namespace Go.Proofs.YtelhgjepjieocaaDoor
open Go.RowKit Go.Sort
set_option linter.unusedVariables false

def valD : Nat → List UInt8 → Nat
  | a, [] => a
  | a, c :: l => valD (a * 10 + (c.toNat - 48)) l
def Dig (l : List UInt8) : Prop := ∀ c ∈ l, 48 ≤ c.toNat ∧ c.toNat ≤ 57
theorem valD_append : ∀ (l : List UInt8) (a : Nat) (c : UInt8), valD a (l ++ [c]) = valD a l * 10 + (c.toNat - 48)
  | [], a, c => rfl
  | x :: l, a, c => valD_append l _ c
theorem valD_ge : ∀ (l : List UInt8) (a : Nat), a * 10 ^ l.length ≤ valD a l
  | [], a => by show a * 10 ^ 0 ≤ a; omega
  | c :: l, a => by
    have h := valD_ge l (a * 10 + (c.toNat - 48))
    unfold valD
    refine Nat.le_trans ?_ h
    rw [List.length_cons, Nat.pow_succ, Nat.mul_comm (10 ^ l.length) 10, ← Nat.mul_assoc]
    generalize 10 ^ l.length = p
    exact Nat.mul_le_mul_right p (Nat.le_add_right (a * 10) (c.toNat - 48))
theorem valD_lt : ∀ (l : List UInt8) (a : Nat), Dig l → valD a l < (a + 1) * 10 ^ l.length
  | [], a, _ => by show a < (a + 1) * 10 ^ 0; omega
  | c :: l, a, hd => by
    have h := valD_lt l (a * 10 + (c.toNat - 48)) (fun x hx => hd x (List.mem_cons_of_mem _ hx))
    have hc := hd c (List.mem_cons_self ..)
    unfold valD
    refine Nat.lt_of_lt_of_le h ?_
    rw [List.length_cons, Nat.pow_succ, Nat.mul_comm (10 ^ l.length) 10, ← Nat.mul_assoc]
    generalize 10 ^ l.length = p
    have h5 : a * 10 + (c.toNat - 48) + 1 ≤ (a + 1) * 10 := by omega
    exact Nat.mul_le_mul_right p h5
theorem valD_pos {c : UInt8} {l : List UInt8} (hd : Dig (c :: l)) (h : c.toNat ≠ 48) : 10 ^ l.length ≤ valD 0 (c :: l) := by
  have hc := hd c (List.mem_cons_self ..)
  have := valD_ge l (0 * 10 + (c.toNat - 48))
  unfold valD
  refine Nat.le_trans ?_ this
  clear this
  have h1 : 1 ≤ 0 * 10 + (c.toNat - 48) := by omega
  have h2 := Nat.mul_le_mul_right (10 ^ l.length) h1
  rw [Nat.one_mul] at h2
  exact h2
def Can (l : List UInt8) : Prop := l ≠ [] ∧ ¬ (1 < l.length ∧ hdN l = some 48)
theorem dec_val : ∀ (k : Nat) (l : List UInt8), l.length = k → Dig l → Can l → Lib.decDigits (valD 0 l) = l
  | 0, l, hk, _, hc => absurd (List.eq_nil_of_length_eq_zero hk) hc.1
  | k + 1, l, hk, hd, hc => by
    obtain ⟨m, c, rfl⟩ : ∃ m c, l = m ++ [c] := ⟨l.dropLast, l.getLast hc.1, (List.dropLast_concat_getLast hc.1).symm⟩
    have hdc := hd c (by simp)
    have hdm : Dig m := fun x hx => hd x (by simp [hx])
    rw [valD_append]
    have hcb : UInt8.ofNat (48 + (c.toNat - 48)) = c := by
      rw [show 48 + (c.toNat - 48) = c.toNat by omega]
      simp
    cases m with
    | nil =>
      show Lib.decDigits (0 * 10 + (c.toNat - 48)) = [c]
      rw [Nat.zero_mul, Nat.zero_add, Lib.decDigits_one (by omega), hcb]
    | cons x m =>
      have hx : x.toNat ≠ 48 := fun e => hc.2 ⟨by simp, by show some x.toNat = _; rw [e]⟩
      have h1 := valD_pos hdm hx
      have h2 : 1 ≤ 10 ^ m.length := Nat.one_le_pow _ _ (by omega)
      have hcm : Can (x :: m) := ⟨by simp, fun h => hx (Option.some.inj h.2)⟩
      have ih := dec_val k (x :: m) (by simp at hk ⊢; omega) hdm hcm
      rw [Lib.decDigits, dif_neg (by omega), show (valD 0 (x :: m) * 10 + (c.toNat - 48)) / 10 = valD 0 (x :: m) by omega, show (valD 0 (x :: m) * 10 + (c.toNat - 48)) % 10 = c.toNat - 48 by omega, ih, hcb]
theorem dec_can : ∀ (u : Nat), Can (Lib.decDigits u) ∧ (10 ≤ u → hdN (Lib.decDigits u) ≠ some 48) := by
  intro u
  induction u using Nat.strongRecOn with
  | _ u ih =>
    by_cases h : u < 10
    · rw [Lib.decDigits_one h]
      exact ⟨⟨by simp, by simp⟩, fun h2 => absurd h2 (by omega)⟩
    · have := ih (u / 10) (by omega)
      rw [Lib.decDigits, dif_neg h]
      have hh : hdN (Lib.decDigits (u / 10) ++ [UInt8.ofNat (48 + u % 10)]) = hdN (Lib.decDigits (u / 10)) := by
        cases hq : Lib.decDigits (u / 10) with
        | nil => exact absurd hq this.1.1
        | cons x l => rfl
      have hz : hdN (Lib.decDigits (u / 10)) ≠ some 48 := by
        by_cases h10 : 10 ≤ u / 10
        · exact this.2 h10
        · rw [Lib.decDigits_one (by omega)]
          show some (UInt8.ofNat (48 + u / 10)).toNat ≠ some 48
          intro e
          have e := Option.some.inj e
          rw [UInt8.toNat_ofNat'] at e
          omega
      exact ⟨⟨by simp, fun h2 => hz (by rw [← hh]; exact h2.2)⟩, fun _ => by rw [hh]; exact hz⟩
theorem parse_val (M : Nat) (hM : M ≤ 18446744073709551615) : ∀ (l : List UInt8) (a : Nat), Dig l → valD a l ≤ M → Lib.parseUintM M a l = .ok (valD a l)
  | [], a, _, _ => rfl
  | c :: l, a, hd, h => by
    have hc := hd c (List.mem_cons_self ..)
    have h1 := valD_ge l (a * 10 + (c.toNat - 48))
    have h2 : 1 ≤ 10 ^ l.length := Nat.one_le_pow _ _ (by omega)
    have h3 : a * 10 + (c.toNat - 48) ≤ M := Nat.le_trans (Nat.le_trans (by have := Nat.mul_le_mul_left (a * 10 + (c.toNat - 48)) h2; omega) h1) h
    unfold Lib.parseUintM
    rw [if_pos hc, if_neg (by omega), if_neg (by omega)]
    exact parse_val M hM l _ (fun x hx => hd x (List.mem_cons_of_mem _ hx)) h
theorem parse_is (M : Nat) : ∀ (l : List UInt8) (a u : Nat), Lib.parseUintM M a l = .ok u → u = valD a l
  | [], a, u, h => by cases h; rfl
  | c :: l, a, u, h => by
    unfold Lib.parseUintM at h
    split at h
    · split at h
      · cases h
      · split at h
        · cases h
        · exact parse_is M l _ u h
    · cases h
end Go.Proofs.YtelhgjepjieocaaDoor
