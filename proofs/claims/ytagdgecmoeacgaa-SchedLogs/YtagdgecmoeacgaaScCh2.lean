/- Layer 17 (sched): usePick, atPlace, slices.Index, behind. -/
import Derived.Test.YtagdgecmoeacgaaScCh
namespace Go.Proofs.Ytagdgecmoeacgaa
open Go.RowKit
set_option linter.unusedVariables false

theorem ret_i {a b : Int} (h : a = b) : Ending.returned (.int .i64 a) = .returned (.int .i64 b) := by rw [h]
theorem drop_true {r : List Bool} {k : Nat} (hk : k < r.length) (h : r.getD k false = true) : r.drop k = true :: r.drop (k + 1) := by
  rw [List.drop_eq_getElem_cons hk]
  rw [List.getD_eq_getElem?_getD, List.getElem?_eq_getElem hk] at h
  congr 1
theorem drop_false {r : List Bool} {k : Nat} (hk : k < r.length) (h : r.getD k false = false) : r.drop k = false :: r.drop (k + 1) := by
  rw [List.drop_eq_getElem_cons hk]
  rw [List.getD_eq_getElem?_getD, List.getElem?_eq_getElem hk] at h
  congr 1

set_option maxRecDepth 100000 in
set_option maxHeartbeats 1000000 in
theorem at_calls (ro : Option Addr) (n rc : Nat) (r : List Bool) (p : Nat) (w : World) (hn : r.length = n) (hm : n ≤ 140737488355328) (hr : VAt w ro (r.map bV)) (hp : p < r.count true) :
    Calls Try.prog 27 #[.slice ro n rc, .int .i64 (p : Int)] w fun e w' => e = .returned (.int .i64 (atP r p : Int)) ∧ w' = w := by
  have HN : Hid (r.length = n) := hn
  have HC : Hid (p < (r.drop 0).count true ∧ p ≤ 140737488355328) := ⟨by simpa using hp, by have := List.count_le_length (a := true) (l := r); omega⟩
  obtain ⟨R, HR⟩ : ∃ R, Hid (R = atP r p) := ⟨_, rfl⟩
  have HE : Hid (R = 0 + atP (r.drop 0) p) := by show _ = _; rw [HR.out]; simp
  rw [← HR.out]
  clear HR hn hp
  go_enter Try.func27, Try.ntmps27
  go_wp2
  go_loopw [1, 9] (fun x i wr => ∃ k q : Nat, k ≤ n ∧ i = .int .i64 k ∧ x = .int .i64 (q : Int) ∧ Hid (q < (r.drop k).count true ∧ q ≤ 140737488355328) ∧ Hid (R = k + atP (r.drop k) q) ∧ wr = w) (fun _ i _ => n - (intOf i).toNat)
  case atStart => exact ⟨0, p, Nat.zero_le _, rfl, rfl, HC, HE, rfl⟩
  case round =>
    clear HC HE
    obtain ⟨k, q, hk, rfl, rfl, HC, HE, rfl⟩ := hrel
    by_cases hlt : k < n
    · obtain ⟨rb, roff, rfl, hrc⟩ := hr.bool k (by rw [HN.out]; exact hlt)
      cases hb : r.getD k false with
      | false =>
        have HD : Hid (r.drop k = false :: r.drop (k + 1)) := drop_false (by rw [HN.out]; exact hlt) hb
        have HC2 : Hid (q < (r.drop (k + 1)).count true ∧ q ≤ 140737488355328) := by
          have := HC.out
          rw [HD.out] at this
          exact ⟨by simpa using this.1, this.2⟩
        have HE2 : Hid (R = (k + 1 : Nat) + atP (r.drop (k + 1)) q) := by
          show _ = _
          rw [HE.out, HD.out]
          simp only [atP]; omega
        rw [hb] at hrc
        clear HC HE HD hb
        go_wp2
        go_roundw
        case rel => exact ⟨k + 1, q, by omega, by go_num, rfl, HC2, HE2, trivial⟩
        case measure => simp [intOf]; omega
      | true =>
        have HD : Hid (r.drop k = true :: r.drop (k + 1)) := drop_true (by rw [HN.out]; exact hlt) hb
        rw [hb] at hrc
        by_cases hq : q = 0
        · subst hq
          have HE2 : Hid (R = k) := by
            show _ = _
            rw [HE.out, HD.out]
            simp only [atP]; omega
          clear HC HE HD hb
          go_wp2
          go_ret
          exact ⟨by rw [HE2.out]; rfl, rfl⟩
        · obtain ⟨q, rfl⟩ : ∃ j, q = j + 1 := ⟨q - 1, by omega⟩
          have HC2 : Hid (q < (r.drop (k + 1)).count true ∧ q ≤ 140737488355328) := by
            have := HC.out
            rw [HD.out] at this
            exact ⟨by simpa using this.1, by omega⟩
          have HE2 : Hid (R = (k + 1 : Nat) + atP (r.drop (k + 1)) q) := by
            show _ = _
            rw [HE.out, HD.out]
            simp only [atP]; omega
          have hqb := HC2.out.2
          have hq0 : (((q + 1 : Nat) : Int) == 0) = false := by simp; omega
          clear HC HE HD hb
          go_wp2
          go_roundw
          case rel => exact ⟨k + 1, q, by omega, by go_num, by go_num, HC2, HE2, trivial⟩
          case measure => simp [intOf]; omega
    · exfalso
      have := HC.out.1
      rw [List.drop_of_length_le (by rw [HN.out]; omega)] at this
      simp at this

/-- The place of the first that is ready; -1: none. -/
def idxB (r : List Bool) : Int := if ftB r < r.length then (ftB r : Int) else -1
set_option maxRecDepth 100000 in
set_option maxHeartbeats 1000000 in
theorem idxB_calls (ro : Option Addr) (n rc : Nat) (r : List Bool) (w : World) (hn : r.length = n) (hm : n ≤ 140737488355328) (hr : VAt w ro (r.map bV)) :
    Calls Try.prog 25 #[.slice ro n rc, .bool true] w fun e w' => e = .returned (.int .i64 (idxB r)) ∧ w' = w := by
  have HN : Hid (r.length = n) := hn
  obtain ⟨R, HR⟩ : ∃ R, Hid (R = ftB r) := ⟨_, rfl⟩
  have HE : Hid (R = 0 + ftB (r.drop 0)) := by show _ = _; rw [HR.out]; simp
  obtain ⟨Z, HX⟩ : ∃ Z, Hid (Z = idxB r) := ⟨_, rfl⟩
  have HZ : Hid (Z = if R < n then (R : Int) else -1) := by show _ = _; rw [HX.out, HR.out, ← HN.out]; rfl
  rw [← HX.out]
  clear HR HX hn
  go_enter Try.func25, Try.ntmps25
  go_wp2
  go_loopw [8] (fun i wr => ∃ k : Nat, k ≤ n ∧ i = .int .i64 k ∧ Hid (R = k + ftB (r.drop k)) ∧ wr = w) (fun i _ => n - (intOf i).toNat)
  case atStart => exact ⟨0, Nat.zero_le _, rfl, HE, rfl⟩
  case round =>
    clear HE
    obtain ⟨k, hk, rfl, HE, rfl⟩ := hrel
    by_cases hlt : k < n
    · obtain ⟨rb, roff, rfl, hrc⟩ := hr.bool k (by rw [HN.out]; exact hlt)
      cases hb : r.getD k false with
      | false =>
        have HD : Hid (r.drop k = false :: r.drop (k + 1)) := drop_false (by rw [HN.out]; exact hlt) hb
        have HE2 : Hid (R = (k + 1 : Nat) + ftB (r.drop (k + 1))) := by
          show _ = _
          rw [HE.out, HD.out]
          simp only [ftB]; omega
        rw [hb] at hrc
        clear HE HD hb
        go_wp2
        go_roundw
        case rel => exact ⟨k + 1, by omega, by go_num, HE2, trivial⟩
        case measure => simp [intOf]; omega
      | true =>
        have HD : Hid (r.drop k = true :: r.drop (k + 1)) := drop_true (by rw [HN.out]; exact hlt) hb
        rw [hb] at hrc
        have HE2 : Hid ((k : Int) = Z) := by
          show _ = _
          rw [HZ.out, HE.out, HD.out]
          rw [if_pos (by simp only [ftB]; omega)]; simp only [ftB]; omega
        clear HE HD hb
        go_wp2
        go_ret
        exact ⟨ret_i HE2.out, rfl⟩
    · have HE2 : Hid ((-1 : Int) = Z) := by
        show _ = _
        rw [HZ.out, if_neg (by rw [HE.out]; omega)]
      go_wp2
      go_ret
      exact ⟨ret_i HE2.out, rfl⟩

set_option maxRecDepth 100000 in
set_option maxHeartbeats 1000000 in
theorem beh_calls (ro : Option Addr) (n rc : Nat) (r : List Bool) (last : Int) (w : World) (hn : r.length = n) (hm : n ≤ 140737488355328) (hr : VAt w ro (r.map bV)) (h0 : 0 < r.count true) (h1 : -1 ≤ last) (h2 : last ≤ 140737488355328) :
    Calls Try.prog 29 #[.slice ro n rc, .int .i64 last] w fun e w' => e = .returned (.int .i64 (behP r (last + 1).toNat : Int)) ∧ w' = w := by
  have HN : Hid (r.length = n) := hn
  have HI := idxB_calls ro n rc r w hn hm hr
  have hi : idxB r = (ftB r : Int) := if_pos (ftB_lt r h0)
  rw [hi] at HI
  obtain ⟨l, hl⟩ : ∃ l : Nat, last = (l : Int) - 1 := ⟨(last + 1).toNat, by omega⟩
  subst hl
  have hl1 : ((l : Int) - 1 + 1).toNat = l := by omega
  rw [hl1]
  obtain ⟨R, HR⟩ : ∃ R, Hid (R = behP r l) := ⟨_, rfl⟩
  obtain ⟨F, HF⟩ : ∃ F, Hid (F = ftB r) := ⟨_, rfl⟩
  have HE : Hid (R = if l + ftB (r.drop l) < n then l + ftB (r.drop l) else F) := by show _ = _; rw [HR.out, HF.out, ← HN.out]; rfl
  rw [← HR.out]
  rw [← HF.out] at HI
  clear HR HF hn hi hl1 h0
  have hs : (l : Int) - 1 + 1 = l := by omega
  go_enter Try.func29, Try.ntmps29
  go_wp2
  try rw [hs]
  go_loopw [5] (fun i wr => ∃ k : Nat, k ≤ n + l ∧ i = .int .i64 (k : Int) ∧ Hid (R = if k + ftB (r.drop k) < n then k + ftB (r.drop k) else F) ∧ wr = w) (fun i _ => n - (intOf i).toNat)
  case atStart => exact ⟨l, by omega, by go_num, HE, rfl⟩
  case round =>
    clear HE
    obtain ⟨k, hk, rfl, HE, rfl⟩ := hrel
    by_cases hlt : k < n
    · obtain ⟨rb, roff, rfl, hrc⟩ := hr.bool k (by rw [HN.out]; exact hlt)
      cases hb : r.getD k false with
      | false =>
        have HD : Hid (r.drop k = false :: r.drop (k + 1)) := drop_false (by rw [HN.out]; exact hlt) hb
        have HE2 : Hid (R = if (k + 1 : Nat) + ftB (r.drop (k + 1)) < n then (k + 1 : Nat) + ftB (r.drop (k + 1)) else F) := by
          show _ = _
          rw [HE.out, HD.out]
          have e : k + ftB (false :: r.drop (k + 1)) = k + 1 + ftB (r.drop (k + 1)) := by simp only [ftB]; omega
          rw [e]
        rw [hb] at hrc
        clear HE HD hb HI
        go_wp2
        go_roundw
        case rel => exact ⟨k + 1, by omega, by go_num, HE2, trivial⟩
        case measure => simp [intOf]; omega
      | true =>
        have HD : Hid (r.drop k = true :: r.drop (k + 1)) := drop_true (by rw [HN.out]; exact hlt) hb
        rw [hb] at hrc
        have HE2 : Hid (R = k) := by
          show _ = _
          rw [HE.out, HD.out]
          rw [if_pos (by simp only [ftB]; omega)]; simp only [ftB]; omega
        clear HE HD hb HI
        go_wp2
        go_ret
        exact ⟨by rw [HE2.out]; rfl, rfl⟩
    · have HE2 : Hid (R = F) := by
        show _ = _
        rw [HE.out, if_neg (by omega)]
      go_wp2_with fail
      refine HI.mono ?_
      clear HI
      rintro e w1 ⟨rfl, rfl⟩
      go_wp2
      go_ret
      exact ⟨by rw [HE2.out]; rfl, rfl⟩

/-- A slice of numbers without its first. -/
def restI (b off l cap : Nat) : Value := if cap = 1 then .slice (some ⟨b, off, none⟩) l 0 else .slice (some ⟨b, off + 1, none⟩) l (cap - 1)
theorem restI_run (b off l cap : Nat) (h : l + 1 ≤ cap) (W : World) : (Instr.slice 23 (.slice (some ⟨b, off, none⟩) (l + 1) cap) (some (.int .i64 1)) none none).run Try.prog W = .ok (restI b off l cap) W := by
  unfold restI
  by_cases hc : cap = 1
  · subst hc
    obtain rfl : l = 0 := by omega
    go_simp
  · rw [if_neg hc]
    have h1 : (1 : Int) ≤ (l : Int) + 1 := by omega
    have h2 : (l : Int) + 1 ≤ (cap : Int) := by omega
    go_simp
theorem restI_form {w : World} {b off cap : Nat} {p : Int} {ps : List Int} (h : ps.length + 1 ≤ cap) (hc : VAt w (some ⟨b, off, none⟩) ((p :: ps).map iV)) : ∃ o c, restI b off ps.length cap = .slice (some ⟨b, o, none⟩) ps.length c ∧ VAt w (some ⟨b, o, none⟩) (ps.map iV) ∧ ps.length ≤ c := by
  unfold restI
  by_cases h3 : cap = 1
  · rw [if_pos h3]
    obtain rfl : ps = [] := List.length_eq_zero_iff.1 (by omega)
    exact ⟨_, _, rfl, VAt.nil _ _, by simp⟩
  · rw [if_neg h3]
    refine ⟨_, _, rfl, fun k hk => ⟨b, off + 1, rfl, ?_⟩, by omega⟩
    obtain ⟨b', off', e, hq⟩ := hc (k + 1) (by simpa using hk)
    simp only [Option.some.injEq, Addr.mk.injEq, and_true] at e
    obtain ⟨rfl, rfl⟩ := e
    rw [show off + 1 + k = off + (k + 1) by omega, hq]
    simp

theorem tmod_place {p : Int} {n : Nat} (hn : 0 < n) : (if p.tmod (n : Int) < 0 then p.tmod (n : Int) + (n : Int) else p.tmod (n : Int)) = ((p % (n : Int)).toNat : Int) := by
  have h1 := Int.emod_nonneg p (b := (n : Int)) (by omega)
  have h2 := Int.emod_lt_of_pos p (b := (n : Int)) (by omega)
  rw [Int.toNat_of_nonneg h1, Int.tmod_eq_emod]
  split <;> split <;> simp_all <;> omega

set_option maxRecDepth 100000 in
set_option maxHeartbeats 1000000 in
theorem use_calls (cb b off cap n : Nat) (bd la : Int) (av : Value) (p : Int) (ps : List Int) (w : World) (hbk : w.heap[cb]? = some (.cells #[.slice (some ⟨b, off, none⟩) (ps.length + 1) cap, .int .i64 bd, .int .i64 la, av] 58))
    (hp : VAt w (some ⟨b, off, none⟩) ((p :: ps).map iV)) (hc : ps.length + 1 ≤ cap) (hn : 0 < n) (hn2 : n ≤ 140737488355328) (hp1 : -9223372036854775808 ≤ p) (hp2 : p ≤ 9223372036854775807) :
    Calls Try.prog 28 #[.pointer (some ⟨cb, 0, none⟩), .int .i64 (n : Int)] w fun e w' => e = .returned (.int .i64 ((p % (n : Int)).toNat : Int)) ∧ ∃ o c, w' = w.setCell ⟨cb, 0, none⟩ (.slice (some ⟨b, o, none⟩) ps.length c) ∧ VAt w (some ⟨b, o, none⟩) (ps.map iV) ∧ ps.length ≤ c := by
  have hsl := restI_run b off ps.length cap hc
  obtain ⟨b', off', e, hpc⟩ := hp.int 0 (by simp)
  simp only [Option.some.injEq, Addr.mk.injEq, and_true] at e
  obtain ⟨rfl, rfl⟩ := e
  simp only [List.getElem_cons_zero, Nat.add_zero] at hpc
  have c0 : w.cell? ⟨cb, 0, none⟩ = some (.slice (some ⟨b, off, none⟩) (ps.length + 1) cap) := by rw [cell_blkT hbk]; rfl
  have f0 : w.frozen? ⟨cb, 0, none⟩ = false := frozen_blkT hbk
  have HQ : Hid (_ = ((p % (n : Int)).toNat : Int)) := tmod_place (p := p) hn
  obtain ⟨l, hl⟩ : ∃ l, Hid (l = ps.length) := ⟨_, rfl⟩
  obtain ⟨o5, c5, e5, hv5, hc5⟩ := restI_form hc hp
  rw [e5] at hsl
  have HV : Hid (VAt w (some ⟨b, o5, none⟩) (ps.map iV) ∧ ps.length ≤ c5) := ⟨hv5, hc5⟩
  rw [← hl.out] at hsl c0 hc ⊢
  rw [← hl.out] at HV
  obtain ⟨q, Hq⟩ : ∃ q, Hid (q = p.tmod (n : Int)) := ⟨_, rfl⟩
  rw [← Hq.out] at HQ
  have hqb : -(n : Int) ≤ q ∧ q < n := by
    have h1 := Int.emod_nonneg p (b := (n : Int)) (by omega)
    have h2 := Int.emod_lt_of_pos p (b := (n : Int)) (by omega)
    have h3 := HQ.out
    rw [Int.toNat_of_nonneg h1] at h3
    split at h3 <;> omega
  have hq1 : p.tmod (n : Int) = q := Hq.out.symm
  have hq2 : wrap64 q = q := by unfold wrap64; omega
  have hn0 : ((n : Int) == 0) = false := by simp; omega
  obtain ⟨Z, HZ⟩ : ∃ Z : Int, Hid (Z = ((p % (n : Int)).toNat : Int)) := ⟨_, rfl⟩
  rw [← HZ.out] at HQ ⊢
  clear hp hbk Hq e5 hv5 hc5 HZ
  by_cases hneg : q < 0
  · rw [Hid, if_pos hneg] at HQ
    have HQ2 : Hid (q + (n : Int) = Z) := HQ
    clear HQ
    go_enter Try.func28, Try.ntmps28
    go_wp2
    go_ret
    exact ⟨ret_i HQ2.out, o5, c5, rfl, HV.out⟩
  · rw [Hid, if_neg hneg] at HQ
    have HQ2 : Hid (q = Z) := HQ
    clear HQ
    go_enter Try.func28, Try.ntmps28
    go_wp2
    go_ret
    exact ⟨ret_i HQ2.out, o5, c5, rfl, HV.out⟩
end Go.Proofs.Ytagdgecmoeacgaa
