/- Layer 18 (json): the document's number. -/
import Derived.Test.YtelhgjepjieocaaDoorJxRng
import Derived.Deep.CutBlock
namespace Go.Proofs.YtelhgjepjieocaaDoor
open Go.RowKit Go.Sort
set_option linter.unusedVariables false
/-- What the document's number answers. -/
def RnR (w : World) (s : ByteArray) (r : Option (Int × List UInt8)) (e : Ending) (w' : World) : Prop := Below w.heap.size w w' ∧ match r with
  | some (v, l) => ∃ m : Nat, e = .returned (.tuple #[.int .i64 v, .int .i64 (m : Int)]) ∧ m ≤ s.size ∧ tl s m = l
  | none => e = .returned (.tuple #[.int .i64 0, .int .i64 (-1)])
/-- The loop over the digits: j of them are read, v is what they spell (the first nineteen). -/
structure NuI (s : ByteArray) (f : Nat) (D R : List UInt8) (j v : Nat) : Prop where
  le : j ≤ D.length
  here : (tl s (f + j)).takeWhile dgU = D.drop j
  rest : (tl s (f + j)).dropWhile dgU = R
  val : v = valD 0 (D.take (min j 19))
  dig : Dig D
  place : f + j ≤ s.size
theorem NuI.small {s : ByteArray} {f : Nat} {D R : List UInt8} {j v : Nat} (h : NuI s f D R j v) : v < 10 ^ (min j 19) := by
  rw [h.val]
  have h1 := valD_lt (D.take (min j 19)) 0 (fun x hx => h.dig x (List.mem_of_mem_take hx))
  rw [Nat.zero_add, Nat.one_mul, List.length_take] at h1
  exact Nat.lt_of_lt_of_le h1 (Nat.pow_le_pow_right (by omega) (by omega))
theorem NuI.next {s : ByteArray} {f : Nat} {D R : List UInt8} {j v : Nat} (h : NuI s f D R j v) (hk : f + j < s.size) (hd : dgU s[f + j] = true) :
    NuI s f D R (j + 1) (if j < 19 then v * 10 + (s[f + j].toNat - 48) else v) := by
  have h1 := h.here
  rw [tl_cons hk, List.takeWhile_cons, if_pos hd] at h1
  have hj : j < D.length := by
    rcases Nat.lt_or_ge j D.length with h2 | h2
    · exact h2
    · rw [List.drop_of_length_le h2] at h1; cases h1
  rw [List.drop_eq_getElem_cons hj] at h1
  obtain ⟨e1, e2⟩ := List.cons.inj h1
  have h3 := h.rest
  rw [tl_cons hk, List.dropWhile_cons, if_pos hd] at h3
  refine ⟨hj, by rw [← Nat.add_assoc]; exact e2, by rw [← Nat.add_assoc]; exact h3, ?_, h.dig, by omega⟩
  by_cases h19 : j < 19
  · rw [if_pos h19, h.val, show min (j + 1) 19 = j + 1 by omega, show min j 19 = j by omega, List.take_succ_eq_append_getElem hj, valD_append, ← e1]
  · rw [if_neg h19, h.val, show min (j + 1) 19 = 19 by omega, show min j 19 = 19 by omega]
theorem NuI.done {s : ByteArray} {f : Nat} {D R : List UInt8} {j v : Nat} (h : NuI s f D R j v) (hd : ∀ hk : f + j < s.size, dgU s[f + j] = false) : j = D.length ∧ tl s (f + j) = R := by
  have h1 := h.here
  have h3 := h.rest
  have hw : (tl s (f + j)).takeWhile dgU = [] ∧ (tl s (f + j)).dropWhile dgU = tl s (f + j) := by
    rcases Nat.lt_or_ge (f + j) s.size with hk | hk
    · rw [tl_cons hk, List.takeWhile_cons, List.dropWhile_cons, if_neg (by rw [hd hk]; simp), if_neg (by rw [hd hk]; simp)]
      exact ⟨rfl, rfl⟩
    · rw [tl_nil hk]; exact ⟨rfl, rfl⟩
  rw [hw.1] at h1
  rw [hw.2] at h3
  refine ⟨?_, h3⟩
  have h4 : (D.drop j).length = 0 := by rw [← h1]; rfl
  rw [List.length_drop] at h4
  have := h.le
  omega
/-- What the number's end says of j digits, the first byte c, their value v. -/
def endN (j c v : Nat) (sg : Bool) (R : List UInt8) : Option (Int × List UInt8) :=
  if j = 0 ∨ 19 < j ∨ (1 < j ∧ c = 48) ∨ (sg = true ∧ v = 0) then none
  else if sg = true then (if 9223372036854775808 < v then none else some (-(v : Int), R))
  else (if 9223372036854775807 < v then none else some ((v : Int), R))
theorem NuI.fin {s : ByteArray} {f : Nat} {l D R : List UInt8} {j v c : Nat} {sg : Bool} (h : NuI s f D R j v) (hD : D = digs l) (hR : R = numR l) (hf : tl s f = tkL l 45)
    (hs : hdN l = some 45 ↔ sg = true) (hc : ∀ hf : f < s.size, s[f].toNat = c)
    (hd : ∀ hk : f + j < s.size, dgU s[f + j] = false) : f + j ≤ s.size ∧ tl s (f + j) = R ∧ v < 10000000000000000000 ∧ docN l = endN j c v sg R := by
  have hv : v < 10000000000000000000 := Nat.lt_of_lt_of_le h.small (show 10 ^ min j 19 ≤ 10 ^ 19 from Nat.pow_le_pow_right (by omega) (by omega))
  obtain ⟨hj, ht⟩ := h.done hd
  refine ⟨h.place, ht, hv, ?_⟩
  have hval := h.val
  have hp := h.place
  unfold docN endN
  rw [← hD, ← hR]
  simp only [hs]
  by_cases h0 : j = 0
  · rw [if_pos (show D = [] ∨ _ from .inl (List.eq_nil_of_length_eq_zero (by omega))), if_pos (.inl h0)]
  have hne : D ≠ [] := fun e => h0 (by rw [hj, e]; rfl)
  have hfs : f < s.size := by omega
  have hhd : hdN D = some c := by
    have h1 : digs l = (tl s f).takeWhile dgU := by rw [hf]; rfl
    rw [hD] at hne ⊢
    rw [h1] at hne ⊢
    rw [tl_cons hfs, List.takeWhile_cons] at hne ⊢
    split at hne
    · rename_i hq; rw [if_pos hq]; show some _ = _; rw [hc hfs]
    · exact absurd rfl hne
  by_cases h19 : 19 < j
  · rw [if_pos (show D = [] ∨ _ from .inr (.inl (by omega))), if_pos (.inr (.inl h19))]
  have hvd : v = valD 0 D := by rw [hval, show min j 19 = D.length by omega, List.take_length]
  rw [← hvd]
  have hco : (D = [] ∨ 19 < D.length ∨ (1 < D.length ∧ hdN D = some 48) ∨ (sg = true ∧ v = 0)) ↔ (j = 0 ∨ 19 < j ∨ (1 < j ∧ c = 48) ∨ (sg = true ∧ v = 0)) := by
    rw [hhd, ← hj]
    simp [hne, h0]
  simp only [hco]
theorem negW (v : Nat) (h0 : 0 < v) (h1 : v ≤ 9223372036854775808) : wrap64 (IntKind.u64.wrap (-(v : Int))) = -(v : Int) := by
  have e : IntKind.u64.wrap (-(v : Int)) = 18446744073709551616 - (v : Int) := by
    show (-(v : Int)) % 18446744073709551616 = _
    omega
  rw [e]
  unfold wrap64
  omega
set_option maxRecDepth 100000 in
set_option maxHeartbeats 4000000 in
theorem refNumber_calls (s : ByteArray) (n : Nat) (w : World) (hn : n ≤ s.size) (hs : s.size ≤ 1048576) :
    Calls Tryd.prog 41 #[.string s, .int .i64 (n : Int)] w (RnR w s (docN (tl s n))) := by
  obtain ⟨Q, HQ⟩ : ∃ Q : Option (Int × List UInt8), Hid (Q = docN (tl s n)) := ⟨docN (tl s n), (Eq.refl _ : docN (tl s n) = _)⟩
  rw [← HQ.out]
  by_cases hlt : n < s.size
  · obtain ⟨sg, hsg⟩ : ∃ sg : Bool, ((s[n].toNat : Int) == 45) = sg := ⟨_, rfl⟩
    have HSG : Hid (hdN (tl s n) = some 45 ↔ sg = true) := by
      rw [Hid, tl_hd hlt, ← hsg]
      constructor
      · intro e; have := Option.some.inj e; rw [this]; rfl
      · intro e; have : (s[n].toNat : Int) = 45 := by simpa using e
        congr 1; omega
    go_enter Tryd.func41, Tryd.ntmps41
    go_upto_if 19 with fail
    go_cut [1] from 19 to 21 (fun s1 wx => wx = w ∧ ∃ f : Nat, s1 = .int .i64 (f : Int) ∧ Hid (f ≤ s.size ∧ tl s f = tkL (tl s n) 45))
    case first =>
      cases sg with
      | true =>
        go_wp2
        go_meet
        exact ⟨rfl, n + 1, rfl, by omega, by rw [tkL_yes (HSG.out.2 (by trivial)), tl_tail hlt]⟩
      | false =>
        go_wp2
        go_meet
        exact ⟨rfl, n, rfl, hn, by rw [tkL_no (fun e => by have := HSG.out.1 e; cases this)]⟩
    case rest =>
      obtain ⟨rfl, f, rfl, Hf⟩ := hcut
      have HI : Hid (NuI s f (digs (tl s n)) (numR (tl s n)) 0 0) := ⟨Nat.zero_le _, by rw [Nat.add_zero, Hf.out.2]; rfl, by rw [Nat.add_zero, Hf.out.2]; rfl, rfl, digs_dig _, Hf.out.1⟩
      obtain ⟨D, HD⟩ : ∃ D : List UInt8, Hid (D = digs (tl s n)) := ⟨digs (tl s n), (Eq.refl _ : digs (tl s n) = _)⟩
      obtain ⟨R, HR⟩ : ∃ R : List UInt8, Hid (R = numR (tl s n)) := ⟨numR (tl s n), (Eq.refl _ : numR (tl s n) = _)⟩
      rw [← HD.out, ← HR.out] at HI
      obtain ⟨c, HC⟩ : ∃ c : Nat, Hid (∀ hf : f < s.size, s[f].toNat = c) := by
        by_cases hf : f < s.size
        · exact ⟨s[f].toNat, fun _ => rfl⟩
        · exact ⟨0, fun h => absurd h hf⟩
      go_upto_block 0 with fail
      go_cut [1, 8] from 23 to 52 (fun i x wx => wx = wc ∧ ∃ j v : Nat, i = .int .i64 ((f + j : Nat) : Int) ∧ x = .int .u64 (v : Int) ∧ Hid (f + j ≤ s.size ∧ tl s (f + j) = R ∧ v < 10000000000000000000 ∧ Q = endN j c v sg R))
      case first =>
        go_wp2
        go_loopw [1, 8] (fun i x wr => wr = wc ∧ ∃ j v : Nat, i = .int .i64 ((f + j : Nat) : Int) ∧ x = .int .u64 (v : Int) ∧ Hid (NuI s f D R j v)) (fun i _ _ => s.size - (intOf i).toNat)
        case atStart => exact ⟨rfl, 0, 0, by go_num, rfl, HI⟩
        case round =>
          clear HI
          obtain ⟨rfl, j, v, rfl, rfl, HI⟩ := hrel
          have HF : Hid ((∀ hk : f + j < s.size, dgU s[f + j] = false) → f + j ≤ s.size ∧ tl s (f + j) = R ∧ v < 10000000000000000000 ∧ Q = endN j c v sg R) := fun hd => by
            rw [HQ.out]
            exact HI.out.fin HD.out HR.out Hf.out.2 HSG.out HC.out hd
          have hp := HI.out.place
          have hsm := HI.out.small
          by_cases hlk : f + j < s.size
          · by_cases hdg : dgU s[f + j] = true
            · have HN := HI.out.next hlk hdg
              have hb : 48 ≤ s[f + j].toNat ∧ s[f + j].toNat ≤ 57 := by
                unfold dgU dgN at hdg; simp at hdg; exact hdg
              have i1 : (48 : Int) ≤ (s[f + j].toNat : Int) := by omega
              have i2 : (s[f + j].toNat : Int) ≤ 57 := by omega
              by_cases h19 : j < 19
              · rw [if_pos h19] at HN
                have HN2 : Hid (NuI s f D R (j + 1) (v * 10 + (s[f + j].toNat - 48))) := HN
                have i3 : (f : Int) + (j : Int) - (f : Int) < 19 := by omega
                have h18 : v < 10 ^ 18 := by
                  have : min j 19 ≤ 18 := by omega
                  exact Nat.lt_of_lt_of_le hsm (Nat.pow_le_pow_right (by omega) this)
                have h18' : v < 1000000000000000000 := h18
                clear HN h18 hsm HI hdg hb HF
                go_wp2
                go_roundw
                case rel => exact ⟨by trivial, j + 1, v * 10 + (s[f + j].toNat - 48), by go_num, by congr 1; omega, HN2⟩
                case measure => simp [intOf]; omega
              · rw [if_neg h19] at HN
                have HN2 : Hid (NuI s f D R (j + 1) v) := HN
                have i3 : ¬ ((f : Int) + (j : Int) - (f : Int) < 19) := by omega
                clear HN hsm HI hdg hb HF
                go_wp2
                go_roundw
                case rel => exact ⟨by trivial, j + 1, v, by go_num, rfl, HN2⟩
                case measure => simp [intOf]; omega
            · have HZ : Hid (f + j ≤ s.size ∧ tl s (f + j) = R ∧ v < 10000000000000000000 ∧ Q = endN j c v sg R) := HF.out (fun _ => by simpa using hdg)
              have hb : ¬ (48 ≤ s[f + j].toNat ∧ s[f + j].toNat ≤ 57) := by intro h; apply hdg; unfold dgU dgN; simp; exact h
              clear hsm HI hdg HF
              by_cases h48 : (48 : Int) ≤ (s[f + j].toNat : Int)
              · have h57 : ¬ ((s[f + j].toNat : Int) ≤ 57) := by omega
                clear hb
                go_wp2
                go_meet
                exact ⟨by trivial, j, v, by go_num, rfl, HZ⟩
              · clear hb
                go_wp2
                go_meet
                exact ⟨by trivial, j, v, by go_num, rfl, HZ⟩
          · have HZ : Hid (f + j ≤ s.size ∧ tl s (f + j) = R ∧ v < 10000000000000000000 ∧ Q = endN j c v sg R) := HF.out (fun hk => absurd hk hlk)
            clear hsm HI HF
            go_wp2
            go_meet
            exact ⟨by trivial, j, v, by go_num, rfl, HZ⟩
      case rest =>
        obtain ⟨rfl, j, v, rfl, rfl, HE⟩ := hcut
        have HF : Hid (f + j ≤ s.size ∧ tl s (f + j) = R) := ⟨HE.out.1, HE.out.2.1⟩
        have HQ2 : Hid (Q = endN j c v sg R) := HE.out.2.2.2
        have hv := HE.out.2.2.1
        have hfj := HE.out.1
        clear HE HI HQ HD HR Hf HSG hsg
        by_cases e0 : j = 0
        · have q0 : ((f : Int) + (j : Int) == (f : Int)) = true := by simp; omega
          have HN : Hid (Q = none) := by rw [Hid, HQ2.out]; unfold endN; rw [if_pos (.inl e0)]
          clear HQ2 e0
          go_wp2
          go_ret2
          rw [HN.out]
          exact ⟨Below.refl _ _, rfl⟩
        have q0 : ((f : Int) + (j : Int) == (f : Int)) = false := by simp; omega
        have hf : f < s.size := by omega
        have hc : s[f].toNat = c := HC.out hf
        clear HC
        by_cases e19 : 19 < j
        · have i19 : (19 : Int) < (f : Int) + (j : Int) - (f : Int) := by omega
          have HN : Hid (Q = none) := by rw [Hid, HQ2.out]; unfold endN; rw [if_pos (.inr (.inl e19))]
          clear HQ2 e0 e19 hc
          go_wp2
          go_ret2
          rw [HN.out]
          exact ⟨Below.refl _ _, rfl⟩
        have i19 : ¬ ((19 : Int) < (f : Int) + (j : Int) - (f : Int)) := by omega
        obtain ⟨b1, hb1⟩ : ∃ b1 : Bool, decide ((1 : Int) < (f : Int) + (j : Int) - (f : Int)) = b1 := ⟨_, rfl⟩
        obtain ⟨b2, hb2⟩ : ∃ b2 : Bool, ((s[f].toNat : Int) == 48) = b2 := ⟨_, rfl⟩
        obtain ⟨b3, hb3⟩ : ∃ b3 : Bool, ((v : Int) == 0) = b3 := ⟨_, rfl⟩
        have HB : Hid ((j = 0 ∨ 19 < j ∨ (1 < j ∧ c = 48) ∨ (sg = true ∧ v = 0)) ↔ (b1 = true ∧ b2 = true ∨ sg = true ∧ b3 = true)) := by
          have t1 : b1 = true ↔ 1 < j := by rw [← hb1]; simp; omega
          have t2 : b2 = true ↔ c = 48 := by rw [← hb2, ← hc]; simp; omega
          have t3 : b3 = true ↔ v = 0 := by rw [← hb3]; simp
          rw [Hid, t1, t2, t3]
          simp [e0, e19]
        have HQ3 : Hid (Q = if (b1 = true ∧ b2 = true ∨ sg = true ∧ b3 = true) then none else if sg = true then (if 9223372036854775808 < v then none else some (-(v : Int), R))
            else (if 9223372036854775807 < v then none else some ((v : Int), R))) := by
          rw [Hid, HQ2.out]
          unfold endN
          simp only [HB.out]
        have hv3 : b3 = false → 0 < v := by intro e; rw [e] at hb3; simp at hb3; omega
        clear HQ2 HB e0 e19 hc
        by_cases hbad : (b1 = true ∧ b2 = true ∨ sg = true ∧ b3 = true)
        · have HN : Hid (Q = none) := by rw [Hid, HQ3.out, if_pos hbad]
          clear HQ3 hv3
          cases b1 <;> cases b2 <;> cases sg <;> cases b3 <;> first | (exfalso; revert hbad; decide) | (clear hbad; go_wp2; go_ret2; rw [HN.out]; exact ⟨Below.refl _ _, rfl⟩)
        · have HQ4 : Hid (Q = if sg = true then (if 9223372036854775808 < v then none else some (-(v : Int), R))
            else (if 9223372036854775807 < v then none else some ((v : Int), R))) := by rw [Hid, HQ3.out, if_neg hbad]
          clear HQ3
          cases sg with
          | true =>
            have h3 : b3 = false := by cases b3 with
              | false => rfl
              | true => exact absurd (.inr ⟨rfl, rfl⟩) hbad
            have hv0 := hv3 h3
            subst h3
            by_cases hbig : 9223372036854775808 < v
            · have HN : Hid (Q = none) := by rw [Hid, HQ4.out, if_pos rfl, if_pos hbig]
              have iv : (9223372036854775808 : Int) < (v : Int) := by omega
              clear HQ4 hv3 hbig
              cases b1 <;> cases b2 <;> first | (exfalso; revert hbad; decide) | (clear hbad; go_wp2; go_ret2; rw [HN.out]; exact ⟨Below.refl _ _, rfl⟩)
            · have HN : Hid (Q = some (-(v : Int), R)) := by rw [Hid, HQ4.out, if_pos rfl, if_neg hbig]
              have iv : ¬ ((9223372036854775808 : Int) < (v : Int)) := by omega
              have HW : Hid (wrap64 (IntKind.u64.wrap (-(v : Int))) = -(v : Int)) := negW v hv0 (by omega)
              clear HQ4 hv3 hbig
              cases b1 with
              | true =>
                cases b2 with
                | true => exact absurd (.inl ⟨rfl, rfl⟩) hbad
                | false =>
                  clear hbad
                  go_wp2
                  go_ret2
                  rw [HN.out]
                  refine ⟨Below.refl _ _, f + j, ?_, HF.out.1, HF.out.2⟩
                  show Ending.returned (.tuple #[.int .i64 (wrap64 (IntKind.u64.wrap (-(v : Int)))), .int .i64 ((f : Int) + (j : Int))]) = _
                  rw [HW.out]
                  go_num
              | false =>
                clear hbad
                go_wp2
                go_ret2
                rw [HN.out]
                refine ⟨Below.refl _ _, f + j, ?_, HF.out.1, HF.out.2⟩
                show Ending.returned (.tuple #[.int .i64 (wrap64 (IntKind.u64.wrap (-(v : Int)))), .int .i64 ((f : Int) + (j : Int))]) = _
                rw [HW.out]
                go_num
          | false =>
            by_cases hbig : 9223372036854775807 < v
            · have HN : Hid (Q = none) := by rw [Hid, HQ4.out, if_neg (by simp), if_pos hbig]
              have iv : (9223372036854775807 : Int) < (v : Int) := by omega
              clear HQ4 hv3 hbig
              cases b1 <;> cases b2 <;> first | (exfalso; revert hbad; decide) | (clear hbad; go_wp2; go_ret2; rw [HN.out]; exact ⟨Below.refl _ _, rfl⟩)
            · have HN : Hid (Q = some ((v : Int), R)) := by rw [Hid, HQ4.out, if_neg (by simp), if_neg hbig]
              have iv : ¬ ((9223372036854775807 : Int) < (v : Int)) := by omega
              clear HQ4 hv3 hbig
              cases b1 with
              | true =>
                cases b2 with
                | true => exact absurd (.inl ⟨rfl, rfl⟩) hbad
                | false =>
                  clear hbad
                  go_wp2
                  go_ret2
                  rw [HN.out]
                  exact ⟨Below.refl _ _, f + j, by go_num, HF.out.1, HF.out.2⟩
              | false =>
                clear hbad
                go_wp2
                go_ret2
                rw [HN.out]
                exact ⟨Below.refl _ _, f + j, by go_num, HF.out.1, HF.out.2⟩
  · have HN : Hid (Q = none) := by
      rw [Hid, HQ.out, tl_nil (by omega)]; rfl
    go_enter Tryd.func41, Tryd.ntmps41
    go_wp2
    go_loopw [1, 8] (fun i x wr => wr = w ∧ i = .int .i64 (n : Int) ∧ x = .int .u64 0) (fun _ _ _ => 0)
    case atStart => exact ⟨rfl, rfl, rfl⟩
    case round =>
      obtain ⟨rfl, rfl, rfl⟩ := hrel
      go_wp2
      go_ret2
      rw [HN.out]
      exact ⟨Below.refl _ _, rfl⟩
end Go.Proofs.YtelhgjepjieocaaDoor
