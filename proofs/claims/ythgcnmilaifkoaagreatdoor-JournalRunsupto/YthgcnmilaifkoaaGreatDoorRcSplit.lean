import Derived.Test.YthgcnmilaifkoaaGreatDoorRcLabel
import Derived.Test.YthgcnmilaifkoaaGreatDoorShelf
import Derived.Laws.Rows
import Derived.Lib.ParseIntB
import Derived.Lib.ItoaNum
import Derived.Test.YthgcnmilaifkoaaGreatDoorKLaw
/- Layer 9 (records): firstError, fixId, fixSpokenFor, portError, statusError, noteError, strings.Clone. -/
namespace Go.Proofs.YthgcnmilaifkoaaGreatDoor
open Go.RowKit
set_option linter.unusedVariables false

theorem ret_intR {a b : Int} (h : a = b) : Ending.returned (.int .i64 a) = .returned (.int .i64 b) := by rw [h]
theorem ret_tr {a a' b b' : ByteArray} {e e' : Int} (h1 : a = a') (h2 : b = b') (h3 : e = e') : Ending.returned (.tuple #[.string a, .string b, .int .i64 e]) = .returned (.tuple #[.string a', .string b', .int .i64 e']) := by rw [h1, h2, h3]
def orE (a b : Int) : Int := if a = 0 then b else a
def firstE : List Int → Int
 | [] => 0
 | e :: l => orE e (firstE l)
theorem firstE_zero {l : List Int} {k : Nat} (h : ∀ j (hj : j < l.length), j < k → l[j] = 0) : firstE (l.drop k) = firstE l := by
 induction k generalizing l with
 | zero => simp
 | succ k ih =>
  cases l with
  | nil => simp
  | cons e l =>
   have h0 : e = 0 := h 0 (by simp) (by omega)
   rw [List.drop_succ_cons, ih (fun j hj hk => h (j + 1) (by simp; omega) (by omega)), firstE, h0]
   simp [orE]

set_option maxHeartbeats 1000000 in
theorem firstError_calls (g : Nat) (l : List Int) (c : Nat) (w : World) (hl : l.length ≤ 1000) (hc : ∀ j (h : j < l.length), w.cell? ⟨g, j, none⟩ = some (.int .i64 l[j])) :
  Calls Tryz.prog 77 #[.slice (some ⟨g, 0, none⟩) l.length c] w fun e w' => e = .returned (.int .i64 (firstE l)) ∧ w' = w := by
 have HC : Hid (∀ j (h : j < l.length), w.cell? ⟨g, j, none⟩ = some (.int .i64 l[j])) := hc
 clear hc
 go_enter Tryz.func77, Tryz.ntmps77
 go_wp2
 go_loop [7] (fun x => ∃ k : Nat, k ≤ l.length ∧ x = .int .i64 k ∧ Hid (∀ j (hj : j < l.length), j < k → l[j] = 0)) (fun x => l.length - (intOf x).toNat)
 case atStart => exact ⟨0, Nat.zero_le _, rfl, fun j _ h => by omega⟩
 case round =>
  obtain ⟨k, hk, rfl, HZ⟩ := hrel
  by_cases hlt : k < l.length
  ·have c0 := HC.out k hlt
   obtain ⟨e, He⟩ : ∃ e, Hid (e = l[k]) := ⟨l[k], rfl⟩
   rw [← He.out] at c0
   by_cases h0 : e = 0
   ·have HN : Hid (∀ j (hj : j < l.length), j < k + 1 → l[j] = 0) := fun j hj hjk => by
     rcases Nat.lt_or_ge j k with h' | h'
     ·exact HZ.out j hj h'
     ·obtain rfl : j = k := by omega
      rw [← He.out]; exact h0
    subst h0
    go_wp2
    go_round
    case rel => exact ⟨k + 1, by omega, by go_num, HN⟩
    case measure => simp [intOf]; omega
   ·have HE : Hid (e = firstE l) := by
     rw [Hid, ← firstE_zero HZ.out, List.drop_eq_getElem_cons hlt, firstE, orE, ← He.out, if_neg h0]
    have q : (e != 0) = true := by simpa using h0
    go_wp2
    go_ret
    exact ⟨ret_intR HE.out, rfl⟩
  ·obtain rfl : k = l.length := by omega
   have HE : Hid (0 = firstE l) := by rw [Hid, ← firstE_zero HZ.out]; simp [firstE]
   go_wp2
   go_ret
   exact ⟨ret_intR HE.out, rfl⟩
theorem new_ints {w : World} {T : TypeId} {l : List Int} {cs : Array Value} (h : cs = (l.map (Value.int .i64)).toArray) : ∀ j (hj : j < l.length), (w.alloc (.cells cs T)).cell? ⟨w.heap.size, j, none⟩ = some (.int .i64 l[j]) := fun j hj => by
 rw [World.cell?_alloc_new, h]
 simp [hj]
theorem first2_calls (a b : Int) (g : Nat) (w : World) (hg : g = w.heap.size) : Calls Tryz.prog 77 #[.slice (some ⟨g, 0, none⟩) 2 2] (w.alloc (.cells #[.int .i64 a, .int .i64 b] 36)) fun e w' => e = .returned (.int .i64 (orE a b)) ∧ w' = w.alloc (.cells #[.int .i64 a, .int .i64 b] 36) := by
 subst hg
 have h := firstError_calls w.heap.size [a, b] 2 (w.alloc (.cells #[.int .i64 a, .int .i64 b] 36)) (by simp) (new_ints rfl)
 have e : firstE [a, b] = orE a b := by
  simp only [firstE, orE]
  by_cases hb : b = 0
  ·simp [hb]
  ·simp [hb]
 rw [e] at h
 exact h
theorem first4_calls (a b c d : Int) (g : Nat) (w : World) (hg : g = w.heap.size) : Calls Tryz.prog 77 #[.slice (some ⟨g, 0, none⟩) 4 4] (w.alloc (.cells #[.int .i64 a, .int .i64 b, .int .i64 c, .int .i64 d] 36)) fun e w' => e = .returned (.int .i64 (firstE [a, b, c, d])) ∧ w' = w.alloc (.cells #[.int .i64 a, .int .i64 b, .int .i64 c, .int .i64 d] 36) := by
 subst hg
 exact firstError_calls w.heap.size [a, b, c, d] 4 (w.alloc (.cells #[.int .i64 a, .int .i64 b, .int .i64 c, .int .i64 d] 36)) (by simp) (new_ints rfl)

theorem first4D_calls (a b c d : Int) (g : Nat) (w : World) (hg : g = w.heap.size) : Calls Tryz.prog 77 #[.slice (some ⟨g, 0, none⟩) 4 4] (w.alloc (.cells #[.int .i64 a, .int .i64 b, .int .i64 c, .int .i64 d] 36)).drew fun e w' => e = .returned (.int .i64 (firstE [a, b, c, d])) ∧ w' = (w.alloc (.cells #[.int .i64 a, .int .i64 b, .int .i64 c, .int .i64 d] 36)).drew := by
 subst hg
 exact firstError_calls w.heap.size [a, b, c, d] 4 (w.alloc (.cells #[.int .i64 a, .int .i64 b, .int .i64 c, .int .i64 d] 36)).drew (by simp) (new_ints (T := 36) rfl)

/-- What fixId answers. -/
def idE (a b : ByteArray) : Int := orE (labE a) (labE b)
def idT (a b x : ByteArray) : ByteArray := if idE a b = 0 then labT x else ⟨#[]⟩
theorem id_yes {a b : ByteArray} (h : idE a b = 0) (x : ByteArray) : idT a b x = labT x := if_pos h
theorem id_no {a b : ByteArray} (h : ¬ idE a b = 0) (x : ByteArray) : idT a b x = ⟨#[]⟩ := if_neg h
set_option maxHeartbeats 1000000 in
theorem fixId_calls (a b : ByteArray) (w : World) (ha : a.size ≤ 140737488351296) (hb : b.size ≤ 140737488351296) :
  Calls Tryz.prog 70 #[.string a, .string b] w fun e w' => e = .returned (.tuple #[.string (idT a b a), .string (idT a b b), .int .i64 (idE a b)]) ∧ Below w.heap.size w w' := by
 obtain ⟨ie, Hie⟩ : ∃ ie, Hid (ie = idE a b) := ⟨_, rfl⟩
 have HY : Hid (ie = 0 → idT a b a = labT a ∧ idT a b b = labT b) := fun h => ⟨id_yes (by rw [← Hie.out]; exact h) a, id_yes (by rw [← Hie.out]; exact h) b⟩
 have HN : Hid (¬ ie = 0 → idT a b a = ⟨#[]⟩ ∧ idT a b b = ⟨#[]⟩) := fun h => ⟨id_no (by rw [← Hie.out]; exact h) a, id_no (by rw [← Hie.out]; exact h) b⟩
 rw [← Hie.out]
 go_enter Tryz.func70, Tryz.ntmps70
 go_wp2_with fail
 refine (label_calls a w ha).mono ?_
 rintro e w1 ⟨rfl, hb1⟩
 have HB1 : Hid (Below w.heap.size w w1) := hb1
 clear hb1
 go_wp2_with fail
 refine (label_calls b w1 hb).mono ?_
 rintro e w2 ⟨rfl, hb2⟩
 have HB2 : Hid (Below w.heap.size w w2) := HB1.out.trans (hb2.mono HB1.out.size)
 clear hb2
 go_wp2_with fail
 refine (first2_calls (labE a) (labE b) _ w2 rfl).mono ?_
 rintro e w3 ⟨he, hw3⟩
 rw [show orE (labE a) (labE b) = ie from Hie.out.symm] at he
 subst he
 have HB3 : Hid (Below w.heap.size w w3) := by rw [hw3]; exact HB2.out.alloc HB2.out.size _
 clear hw3 Hie
 by_cases h0 : ie = 0
 ·have h12 : Hid (idT a b a = labT a ∧ idT a b b = labT b) := HY.out h0
  have h3 : Hid (ie = 0) := h0
  have q : (ie != 0) = false := by simpa using h0
  clear HY HN
  go_wp2
  go_ret3
  exact ⟨ret_tr h12.out.1.symm h12.out.2.symm h3.out.symm, HB3.out⟩
 ·have h12 : Hid (idT a b a = ⟨#[]⟩ ∧ idT a b b = ⟨#[]⟩) := HN.out h0
  clear HY HN
  have q : (ie != 0) = true := by simpa using h0
  go_wp2
  go_ret3
  exact ⟨ret_tr h12.out.1.symm h12.out.2.symm rfl, HB3.out⟩

/-- What fixSpokenFor answers. -/
def spE (s : ByteArray) : Int := if s.size = 0 then 0 else labE s
def spT (s : ByteArray) : ByteArray := if s.size = 0 then ⟨#[]⟩ else labT s
theorem fixSpokenFor_calls (s : ByteArray) (w : World) (hs : s.size ≤ 140737488351296) :
  Calls Tryz.prog 81 #[.string s] w fun e w' => e = .returned (.tuple #[.string (spT s), .int .i64 (spE s)]) ∧ Below w.heap.size w w' := by
 by_cases he : s.toList = []
 ·have h0 : s.size = 0 := by rw [ByteArray.toList_eq] at he; simpa using congrArg List.length he
  have HE : Hid (spT s = ⟨#[]⟩ ∧ spE s = 0) := by unfold spT spE; rw [Hid, if_pos h0, if_pos h0]; exact ⟨rfl, rfl⟩
  clear h0
  go_enter Tryz.func81, Tryz.ntmps81
  go_wp2
  go_ret2
  exact ⟨ret_pairS HE.out.1.symm HE.out.2.symm, Below.refl _ _⟩
 ·have h0 := lab_size_pos he
  have hemp : s.toList.isEmpty = false := by simpa using he
  have HE : Hid (spT s = labT s ∧ spE s = labE s) := by unfold spT spE; rw [Hid, if_neg (by omega), if_neg (by omega)]; exact ⟨rfl, rfl⟩
  clear h0
  go_enter Tryz.func81, Tryz.ntmps81
  go_wp2_with fail
  refine (label_calls s w hs).mono ?_
  rintro e w1 ⟨rfl, hb1⟩
  have HB1 : Hid (Below w.heap.size w w1) := hb1
  clear hb1
  go_wp2
  go_ret2
  exact ⟨ret_pairS HE.out.1.symm HE.out.2.symm, HB1.out⟩

def portE (p : Int) : Int := if p < 1 ∨ 65535 < p then 92 else 0
theorem portError_calls (p : Int) (w : World) : Calls Tryz.prog 80 #[.int .i64 p] w fun e w' => e = .returned (.int .i64 (portE p)) ∧ w' = w := by
 by_cases h1 : p < 1
 ·have HE : Hid (92 = portE p) := by unfold portE; rw [Hid, if_pos (.inl h1)]
  go_enter Tryz.func80, Tryz.ntmps80
  go_wp2
  go_ret
  exact ⟨ret_intR HE.out, rfl⟩
 ·by_cases h2 : 65535 < p
  ·have HE : Hid (92 = portE p) := by unfold portE; rw [Hid, if_pos (.inr h2)]
   go_enter Tryz.func80, Tryz.ntmps80
   go_wp2
   go_ret
   exact ⟨ret_intR HE.out, rfl⟩
  ·have HE : Hid (0 = portE p) := by unfold portE; rw [Hid, if_neg (by omega)]
   go_enter Tryz.func80, Tryz.ntmps80
   go_wp2
   go_ret
   exact ⟨ret_intR HE.out, rfl⟩
def statE (p : Int) : Int := if p = 1 ∨ p = 2 ∨ p = 3 then 0 else 94
theorem statusError_calls (p : Int) (w : World) : Calls Tryz.prog 82 #[.int .i64 p] w fun e w' => e = .returned (.int .i64 (statE p)) ∧ w' = w := by
 by_cases h : p = 1 ∨ p = 2 ∨ p = 3
 ·have HE : Hid (0 = statE p) := by unfold statE; rw [Hid, if_pos h]
  rcases h with h | h | h
  all_goals
   generalize statE p = r at *
   subst h
   go_enter Tryz.func82, Tryz.ntmps82
   go_wp2
   go_ret
   exact ⟨ret_intR HE.out, rfl⟩
 ·have HE : Hid (94 = statE p) := by unfold statE; rw [Hid, if_neg h]
  have q1 : (p == 1) = false := by simp; omega
  have q2 : (p == 2) = false := by simp; omega
  have q3 : (p == 3) = false := by simp; omega
  clear h
  go_enter Tryz.func82, Tryz.ntmps82
  go_wp2
  go_ret
  exact ⟨ret_intR HE.out, rfl⟩
def noteTo (s : ByteArray) (k : Nat) : Prop := ∀ i (h : i < s.size), i < k → 32 ≤ s[i].toNat ∧ s[i].toNat ≤ 126
instance (s : ByteArray) (k : Nat) : Decidable (noteTo s k) := by unfold noteTo; infer_instance
def noteE (s : ByteArray) : Int := if s.size ≤ 200 ∧ noteTo s s.size then 0 else 95
theorem note_long {s : ByteArray} (h : ¬ s.size ≤ 200) : noteE s = 95 := if_neg fun e => h e.1
theorem note_bad {s : ByteArray} {k : Nat} (hk : k < s.size) (h : ¬ (32 ≤ s[k].toNat ∧ s[k].toNat ≤ 126)) : noteE s = 95 := if_neg fun e => h (e.2 k hk hk)
theorem noteTo.next {s : ByteArray} {k : Nat} (h : noteTo s k) (hk : k < s.size) (hv : 32 ≤ s[k].toNat ∧ s[k].toNat ≤ 126) : noteTo s (k + 1) := fun i hi hik => by
 rcases Nat.lt_or_ge i k with h' | h'
 ·exact h i hi h'
 ·obtain rfl : i = k := by omega
  exact hv
set_option maxHeartbeats 1000000 in
theorem noteError_calls (s : ByteArray) (w : World) (hs : s.size ≤ 140737488351296) : Calls Tryz.prog 83 #[.string s] w fun e w' => e = .returned (.int .i64 (noteE s)) ∧ w' = w := by
 by_cases hl : s.size ≤ 200
 case neg =>
  have HE : Hid (95 = noteE s) := (note_long hl).symm
  have q : (200 : Int) < (s.size : Int) := by omega
  go_enter Tryz.func83, Tryz.ntmps83
  go_wp2
  go_ret
  exact ⟨ret_intR HE.out, rfl⟩
 have q : ¬ (200 : Int) < (s.size : Int) := by omega
 go_enter Tryz.func83, Tryz.ntmps83
 go_wp2
 go_loop [9] (fun x => ∃ k : Nat, k ≤ s.size ∧ x = .int .i64 k ∧ Hid (noteTo s k)) (fun x => s.size - (intOf x).toNat)
 case atStart => exact ⟨0, Nat.zero_le _, rfl, fun i h h' => by omega⟩
 case round =>
  obtain ⟨k, hk, rfl, HK⟩ := hrel
  by_cases hlt : k < s.size
  ·by_cases h32 : 32 ≤ s[k].toNat
   ·have p1 : ¬ (s[k].toNat : Int) < 32 := by omega
    by_cases h126 : s[k].toNat ≤ 126
    ·have p2 : ¬ (126 : Int) < (s[k].toNat : Int) := by omega
     have HN : Hid (noteTo s (k + 1)) := HK.out.next hlt ⟨h32, h126⟩
     go_wp2
     go_round
     case rel => exact ⟨k + 1, by omega, by go_num, HN⟩
     case measure => simp [intOf]; omega
    ·have p2 : (126 : Int) < (s[k].toNat : Int) := by omega
     have HE : Hid (95 = noteE s) := (note_bad hlt (by omega)).symm
     go_wp2
     go_ret
     exact ⟨ret_intR HE.out, rfl⟩
   ·have p1 : (s[k].toNat : Int) < 32 := by omega
    have HE : Hid (95 = noteE s) := (note_bad hlt (by omega)).symm
    go_wp2
    go_ret
    exact ⟨ret_intR HE.out, rfl⟩
  ·obtain rfl : k = s.size := by omega
   have HE : Hid (0 = noteE s) := (if_pos (⟨hl, HK.out⟩ : s.size ≤ 200 ∧ noteTo s s.size)).symm
   go_wp2
   go_ret
   exact ⟨ret_intR HE.out, rfl⟩
theorem rclone_calls (s : ByteArray) (w : World) (hs : s.size ≤ 140737488351296) : Calls Tryz.prog 78 #[.string s] w fun e w' => e = .returned (.string s) ∧ Below w.heap.size w w' := by
 have HC := Tryz.stringslite_Clone s w (by omega)
 go_enter Tryz.func78, Tryz.ntmps78
 go_wp2_with fail
 refine HC.mono ?_
 rintro e w1 ⟨rfl, hb1⟩
 have HB1 : Hid (Below w.heap.size w w1) := hb1
 clear hb1 HC
 go_wp2
 go_ret
 exact ⟨rfl, HB1.out⟩
end Go.Proofs.YthgcnmilaifkoaaGreatDoor

/- Layer 9 (records): numbers from 0 to 255 in decimal digits: what ParseUint and FormatUint say of them, and the document's Number (plain). -/
namespace Go.Proofs.YthgcnmilaifkoaaGreatDoor
open Go
set_option linter.unusedVariables false

/-- The number that l writes in decimal digits without noughts ahead, up to 255. -/
def octP (l : List UInt8) : Option Nat :=
 match Lib.parseUintB 8 l with
 | .ok n => if 1 < l.length ∧ l.head? = some 48 then none else some n
 | _ => none
theorem parseM_le (M : Nat) : ∀ (l : List UInt8) (acc n : Nat), acc ≤ M → Lib.parseUintM M acc l = .ok n → n ≤ M ∧ acc * 10 ^ l.length ≤ n
 | [], acc, n, h, e => by
  simp only [Lib.parseUintM, Lib.NumEnd.ok.injEq] at e
  subst e
  simpa using h
 | c :: r, acc, n, h, e => by
  unfold Lib.parseUintM at e
  split at e
  ·split at e
   ·cases e
   ·split at e
    ·cases e
    ·next h3 =>
     obtain ⟨h1, h2⟩ := parseM_le M r _ n (by omega) e
     refine ⟨h1, Nat.le_trans ?_ h2⟩
     rw [List.length_cons, Nat.pow_succ, Nat.mul_comm (10 ^ r.length) 10, ← Nat.mul_assoc]
     exact Nat.mul_le_mul_right _ (by omega)
  ·cases e
theorem dec_one {u : Nat} (h : u < 10) : Lib.decDigits u = [UInt8.ofNat (48 + u)] := by rw [Lib.decDigits, dif_pos h]
theorem dec_more {u : Nat} (h : ¬ u < 10) : Lib.decDigits u = Lib.decDigits (u / 10) ++ [UInt8.ofNat (48 + u % 10)] := by rw [Lib.decDigits, dif_neg h]
theorem byte_ofNat {c : UInt8} {n : Nat} (h : n = c.toNat) : UInt8.ofNat n = c := by subst h; simp
theorem parse_digit {M acc n : Nat} {c : UInt8} {r : List UInt8} (e : Lib.parseUintM M acc (c :: r) = .ok n) : 48 ≤ c.toNat ∧ c.toNat ≤ 57 ∧ Lib.parseUintM M (acc * 10 + (c.toNat - 48)) r = .ok n := by
 unfold Lib.parseUintM at e
 split at e
 ·next h =>
  split at e
  ·cases e
  ·split at e
   ·cases e
   ·exact ⟨h.1, h.2, e⟩
 ·cases e
/-- What was read and bears no nought ahead is written so again. -/
theorem dec_of_parse {l : List UInt8} {n : Nat} (h0 : l ≠ []) (h : Lib.parseUintM 255 0 l = .ok n) (hz : ¬ (1 < l.length ∧ l.head? = some 48)) : Lib.decDigits n = l := by
 match l, h0 with
 | [a], _ =>
  obtain ⟨a1, a2, e⟩ := parse_digit h
  simp only [Lib.parseUintM, Lib.NumEnd.ok.injEq] at e
  subst e
  rw [dec_one (by omega), byte_ofNat (c := a) (by omega)]
 | [a, b], _ =>
  obtain ⟨a1, a2, e⟩ := parse_digit h
  obtain ⟨b1, b2, e⟩ := parse_digit e
  simp only [Lib.parseUintM, Lib.NumEnd.ok.injEq] at e
  have ha : a.toNat ≠ 48 := fun e => hz ⟨by simp, by simp; exact UInt8.toNat_inj.1 e⟩
  subst e
  rw [dec_more (by omega), dec_one (by omega), byte_ofNat (c := a) (by omega), byte_ofNat (c := b) (by omega)]
  rfl
 | [a, b, c], _ =>
  obtain ⟨a1, a2, e⟩ := parse_digit h
  obtain ⟨b1, b2, e⟩ := parse_digit e
  obtain ⟨c1, c2, e⟩ := parse_digit e
  simp only [Lib.parseUintM, Lib.NumEnd.ok.injEq] at e
  have ha : a.toNat ≠ 48 := fun e => hz ⟨by simp, by simp; exact UInt8.toNat_inj.1 e⟩
  subst e
  rw [dec_more (by omega), dec_more (by omega), dec_one (by omega), byte_ofNat (c := a) (by omega), byte_ofNat (c := b) (by omega), byte_ofNat (c := c) (by omega)]
  rfl
 | a :: b :: c :: d :: r, _ =>
  obtain ⟨a1, a2, e⟩ := parse_digit h
  have ha : a.toNat ≠ 48 := fun e => hz ⟨by simp, by simp; exact UInt8.toNat_inj.1 e⟩
  obtain ⟨h1, h2⟩ := parseM_le 255 _ _ _ (by omega) e
  exfalso
  simp only [List.length_cons] at h2
  have h3 : 1 ≤ 10 ^ r.length := Nat.one_le_pow _ _ (by decide)
  rw [Nat.pow_succ, Nat.pow_succ, Nat.pow_succ] at h2
  have h4 : 1 * (1 * 10 * 10 * 10) ≤ (0 * 10 + (a.toNat - 48)) * (10 ^ r.length * 10 * 10 * 10) := Nat.mul_le_mul (by omega) (by omega)
  omega
theorem dec_head (n : Nat) (hn : n ≤ 255) : ¬ (1 < (Lib.decDigits n).length ∧ (Lib.decDigits n).head? = some 48) := by
 by_cases h1 : n < 10
 ·rw [dec_one h1]; simp
 ·by_cases h2 : n / 10 < 10
  ·rw [dec_more h1, dec_one h2]
   simp only [List.cons_append, List.nil_append, List.head?_cons, Option.some.injEq, not_and]
   intro _ e
   have := congrArg UInt8.toNat e
   rw [UInt8.toNat_ofNat'] at this
   have h48 : (48 : UInt8).toNat = 48 := rfl
   omega
  ·rw [dec_more h1, dec_more h2, dec_one (by omega)]
   simp only [List.cons_append, List.nil_append, List.head?_cons, Option.some.injEq, not_and]
   intro _ e
   have := congrArg UInt8.toNat e
   rw [UInt8.toNat_ofNat'] at this
   have h48 : (48 : UInt8).toNat = 48 := rfl
   omega
/-- octet's two tests are octP's. -/
theorem oct_ok {l : List UInt8} {n : Nat} (h : Lib.parseUintB 8 l = .ok n) : n ≤ 255 ∧ octP l = if Lib.decDigits n = l then some n else none := by
 have h0 : l ≠ [] := by
  intro e
  subst e
  simp [Lib.parseUintB] at h
 have h1 : Lib.parseUintM 255 0 l = .ok n := by
  unfold Lib.parseUintB at h
  rw [if_neg h0] at h
  exact h
 have hn := (parseM_le 255 l 0 n (by omega) h1).1
 refine ⟨hn, ?_⟩
 unfold octP
 rw [h]
 by_cases hz : 1 < l.length ∧ l.head? = some 48
 ·have hd : ¬ Lib.decDigits n = l := fun e => dec_head n hn (e ▸ hz)
  simp only [if_pos hz, if_neg hd]
 ·simp only [if_neg hz, if_pos (dec_of_parse h0 h1 hz)]
theorem oct_le {l : List UInt8} {n : Nat} (h : octP l = some n) : n ≤ 255 := by
 unfold octP at h
 split at h
 ·next m hm =>
  have := (oct_ok hm).1
  split at h
  ·cases h
  ·cases h; exact this
 ·cases h
theorem oct_dec {l : List UInt8} {n : Nat} (h : octP l = some n) : Lib.decDigits n = l ∧ n ≤ 255 := by
 refine ⟨?_, oct_le h⟩
 have h' := h
 unfold octP at h
 split at h
 ·next m hm =>
  have e := (oct_ok hm).2
  rw [h'] at e
  by_cases hd : Lib.decDigits m = l
  ·rw [if_pos hd] at e; cases e; exact hd
  ·rw [if_neg hd] at e; cases e
 ·cases h
end Go.Proofs.YthgcnmilaifkoaaGreatDoor

/- Layer 9 (records): an address's words: SplitN's and the document's Split's (plain). -/
namespace Go.Proofs.YthgcnmilaifkoaaGreatDoor
open Go.RowKit
set_option linter.unusedVariables false

theorem sp_one (c : UInt8) (l : List UInt8) (h : (sp c l).length ≤ 1) : sp c l = [l] := by
 by_cases hn : ∀ k : Nat, l[k]? ≠ some c
 ·exact sp_none c l hn
 ·exfalso
  have hm : ¬ Lib.indexByte l c = -1 := fun e => hn (Lib.indexByte_none e)
  have hge := Lib.index_ge l [c]
  rw [Lib.index_one] at hge
  obtain ⟨i, hi⟩ : ∃ i : Nat, Lib.indexByte l c = i := ⟨(Lib.indexByte l c).toNat, by omega⟩
  obtain ⟨h1, h2⟩ := Lib.indexByte_some hi
  rw [sp_hit c i l h1 h2] at h
  have := List.length_pos_iff.2 (sp_ne c (l.drop (i + 1)))
  simp only [List.length_cons] at h
  omega
theorem sp_length (c : UInt8) : ∀ l : List UInt8, (sp c l).length ≤ l.length + 1
 | [] => by simp [sp]
 | b :: l => by
  have ih := sp_length c l
  rw [sp_cons]
  split
  ·simp only [List.length_cons]; omega
  ·split
   ·next p r e => rw [e] at ih; simp only [List.length_cons] at ih ⊢; omega
   ·simp
/-- Cut at k places at most: all pieces, if they are k + 1 at most; else k + 1 pieces. -/
theorem splitK_most (c : UInt8) : ∀ (k : Nat) (l : List UInt8), (sp c l).length ≤ k + 1 ∧ Lib.splitK [c] 0 k l = sp c l ∨ k + 1 < (sp c l).length ∧ (Lib.splitK [c] 0 k l).length = k + 1
 | 0, l => by
  by_cases h : (sp c l).length ≤ 1
  ·exact .inl ⟨h, by rw [sp_one c l h]; rfl⟩
  ·exact .inr ⟨by omega, rfl⟩
 | k + 1, l => by
  have hge := Lib.index_ge l [c]
  by_cases hm : Lib.index l [c] = -1
  ·have hm' := hm
   rw [Lib.index_one] at hm'
   have e := sp_none c l (Lib.indexByte_none hm')
   refine .inl ⟨by rw [e]; simp, ?_⟩
   unfold Lib.splitK
   rw [if_pos (by rw [hm]; rfl), e]
  ·obtain ⟨i, hi⟩ : ∃ i : Nat, Lib.index l [c] = i := ⟨(Lib.index l [c]).toNat, by omega⟩
   have hi2 := hi
   rw [Lib.index_one] at hi2
   obtain ⟨h1, h2⟩ := Lib.indexByte_some hi2
   have e : Lib.splitK [c] 0 (k + 1) l = l.take i :: Lib.splitK [c] 0 k (l.drop (i + 1)) := by
    rw [Lib.splitK, if_neg (by rw [hi]; simp), hi]
    simp
   rw [e, sp_hit c i l h1 h2]
   rcases splitK_most c k (l.drop (i + 1)) with ⟨a, b⟩ | ⟨a, b⟩
   ·exact .inl ⟨by simp only [List.length_cons]; omega, by rw [b]⟩
   ·exact .inr ⟨by simp only [List.length_cons]; omega, by simp only [List.length_cons]; omega⟩

theorem splitB_le (sep : ByteArray) (sv : Nat) : ∀ (k : Nat) (s p : ByteArray), p ∈ Lib.splitB sep sv k s → p.size ≤ s.size
 | 0, s, p, h => by
  simp only [Lib.splitB, List.mem_singleton] at h
  rw [h]
  exact Nat.le_refl _
 | k + 1, s, p, h => by
  unfold Lib.splitB at h
  split at h
  ·simp only [List.mem_singleton] at h
   rw [h]
   exact Nat.le_refl _
  ·rcases List.mem_cons.1 h with rfl | h
   ·rw [ByteArray.size_extract]; omega
   ·have := splitB_le sep sv k _ p h
    rw [ByteArray.size_extract] at this
    omega
def dotB : ByteArray := ⟨#[46]⟩
/-- The words of an address, as SplitN at five gives them. -/
def words5 (s : ByteArray) : List ByteArray := Lib.splitB dotB 0 (min 5 (s.size + 1) - 1) s
theorem words5_ws (s : ByteArray) : words5 s = wsOf s 46 ∨ (words5 s).length = 5 ∧ 5 < (wsOf s 46).length := by
 have hd : (words5 s).map (·.data.toList) = Lib.splitK [46] 0 (min 5 (s.size + 1) - 1) s.data.toList := Lib.splitB_data _ _ _ _
 have hw := ws_sp s 46
 have hl : s.data.toList.length = s.size := by rw [Array.length_toList]; rfl
 have h1 := sp_length 46 s.data.toList
 have hlw : (wsOf s 46).length = (sp 46 s.data.toList).length := by rw [← hw, List.length_map]
 have hl5 : (words5 s).length = (Lib.splitK [46] 0 (min 5 (s.size + 1) - 1) s.data.toList).length := by rw [← hd, List.length_map]
 rcases splitK_most 46 (min 5 (s.size + 1) - 1) s.data.toList with ⟨a, b⟩ | ⟨a, b⟩
 ·left
  rw [b, ← hw] at hd
  exact List.map_inj_right (fun a b hab => Go.WideShapes.bytes_inj hab) |>.1 hd
 ·right
  omega
theorem words5_four (s : ByteArray) (h : (words5 s).length = 4) : words5 s = wsOf s 46 := by
 rcases words5_ws s with h1 | ⟨h1, _⟩
 ·exact h1
 ·omega
theorem words5_not (s : ByteArray) (h : (words5 s).length ≠ 4) : (wsOf s 46).length ≠ 4 := by
 rcases words5_ws s with h1 | ⟨_, h1⟩
 ·rw [← h1]; exact h
 ·omega

/-- The number of a word (0: none), the numbers of the first k words of four. -/
def octN (p : ByteArray) : Nat := (octP p.data.toList).getD 0
def adrTo (ws : List ByteArray) (k : Nat) : List Nat := (List.range 4).map fun j => if j < k then octN (ws.getD j ⟨#[]⟩) else 0
def adrOk (s : ByteArray) : Bool := (wsOf s 46).length == 4 && (wsOf s 46).all fun p => (octP p.data.toList).isSome
def adrV (s : ByteArray) : List Nat := if adrOk s then adrTo (wsOf s 46) 4 else [0, 0, 0, 0]
def adrE (s : ByteArray) : Int := if adrOk s then 0 else 91
theorem adr_no {s : ByteArray} (h : adrOk s = false) : adrV s = [0, 0, 0, 0] ∧ adrE s = 91 := by simp [adrV, adrE, h]
theorem adr_yes {s : ByteArray} (h : adrOk s = true) : adrV s = adrTo (wsOf s 46) 4 ∧ adrE s = 0 := by simp [adrV, adrE, h]
theorem adr_len {s : ByteArray} (h : (wsOf s 46).length ≠ 4) : adrOk s = false := by simp [adrOk, h]
theorem adr_bad {s : ByteArray} {k : Nat} (hk : k < (wsOf s 46).length) (h : octP (wsOf s 46)[k].data.toList = none) : adrOk s = false := by
 simp only [adrOk, Bool.and_eq_false_iff]
 right
 rw [List.all_eq_false]
 exact ⟨(wsOf s 46)[k], List.getElem_mem hk, by simp [h]⟩
theorem adr_good {s : ByteArray} (h4 : (wsOf s 46).length = 4) (h : ∀ k (hk : k < (wsOf s 46).length), ∃ n, octP (wsOf s 46)[k].data.toList = some n) : adrOk s = true := by
 simp only [adrOk, Bool.and_eq_true, beq_iff_eq]
 refine ⟨h4, List.all_eq_true.2 fun p hp => ?_⟩
 obtain ⟨k, hk, rfl⟩ := List.getElem_of_mem hp
 obtain ⟨n, e⟩ := h k hk
 simp [e]
end Go.Proofs.YthgcnmilaifkoaaGreatDoor
