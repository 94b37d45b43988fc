/- Layer 9 (records): firstError, fixId, fixSpokenFor, portError, statusError, noteError, strings.Clone. -/
import Derived.Test.YtmkohdepgfahnaaGreatDoorRcLabel
import Derived.Test.YtmkohdepgfahnaaGreatDoorShelf
import Derived.Laws.Rows
namespace Go.Proofs.YtmkohdepgfahnaaGreatDoor
open Go.RowKit
set_option linter.unusedVariables false

theorem ret_intR {a b : Int} (h : a = b) : Ending.returned (.int .i64 a) = .returned (.int .i64 b) := by rw [h]
theorem ret_tr {a a' b b' : ByteArray} {e e' : Int} (h1 : a = a') (h2 : b = b') (h3 : e = e') : Ending.returned (.tuple #[.string a, .string b, .int .i64 e]) = .returned (.tuple #[.string a', .string b', .int .i64 e']) := by rw [h1, h2, h3]
def orE (a b : Int) : Int := if a = 0 then b else a
def firstE : List Int → Int
  | [] => 0
  | e :: l => orE e (firstE l)
theorem firstE_zero {l : List Int} {k : Nat} (h : ∀ j (hj : j < l.length), j < k → l[j] = 0) : firstE (l.drop k) = firstE l := by
  induction k generalizing l with
  | zero => simp
  | succ k ih =>
    cases l with
    | nil => simp
    | cons e l =>
      have h0 : e = 0 := h 0 (by simp) (by omega)
      rw [List.drop_succ_cons, ih (fun j hj hk => h (j + 1) (by simp; omega) (by omega)), firstE, h0]
      simp [orE]

set_option maxHeartbeats 1000000 in
theorem firstError_calls (g : Nat) (l : List Int) (c : Nat) (w : World) (hl : l.length ≤ 1000) (hc : ∀ j (h : j < l.length), w.cell? ⟨g, j, none⟩ = some (.int .i64 l[j])) :
    Calls Tryz.prog 77 #[.slice (some ⟨g, 0, none⟩) l.length c] w fun e w' => e = .returned (.int .i64 (firstE l)) ∧ w' = w := by
  have HC : Hid (∀ j (h : j < l.length), w.cell? ⟨g, j, none⟩ = some (.int .i64 l[j])) := hc
  clear hc
  go_enter Tryz.func77, Tryz.ntmps77
  go_wp2
  go_loop [7] (fun x => ∃ k : Nat, k ≤ l.length ∧ x = .int .i64 k ∧ Hid (∀ j (hj : j < l.length), j < k → l[j] = 0)) (fun x => l.length - (intOf x).toNat)
  case atStart => exact ⟨0, Nat.zero_le _, rfl, fun j _ h => by omega⟩
  case round =>
    obtain ⟨k, hk, rfl, HZ⟩ := hrel
    by_cases hlt : k < l.length
    · have c0 := HC.out k hlt
      obtain ⟨e, He⟩ : ∃ e, Hid (e = l[k]) := ⟨l[k], rfl⟩
      rw [← He.out] at c0
      by_cases h0 : e = 0
      · have HN : Hid (∀ j (hj : j < l.length), j < k + 1 → l[j] = 0) := fun j hj hjk => by
          rcases Nat.lt_or_ge j k with h' | h'
          · exact HZ.out j hj h'
          · obtain rfl : j = k := by omega
            rw [← He.out]; exact h0
        subst h0
        go_wp2
        go_round
        case rel => exact ⟨k + 1, by omega, by go_num, HN⟩
        case measure => simp [intOf]; omega
      · have HE : Hid (e = firstE l) := by
          rw [Hid, ← firstE_zero HZ.out, List.drop_eq_getElem_cons hlt, firstE, orE, ← He.out, if_neg h0]
        have q : (e != 0) = true := by simpa using h0
        go_wp2
        go_ret
        exact ⟨ret_intR HE.out, rfl⟩
    · obtain rfl : k = l.length := by omega
      have HE : Hid (0 = firstE l) := by rw [Hid, ← firstE_zero HZ.out]; simp [firstE]
      go_wp2
      go_ret
      exact ⟨ret_intR HE.out, rfl⟩
theorem new_ints {w : World} {T : TypeId} {l : List Int} {cs : Array Value} (h : cs = (l.map (Value.int .i64)).toArray) : ∀ j (hj : j < l.length), (w.alloc (.cells cs T)).cell? ⟨w.heap.size, j, none⟩ = some (.int .i64 l[j]) := fun j hj => by
  rw [World.cell?_alloc_new, h]
  simp [hj]
theorem first2_calls (a b : Int) (g : Nat) (w : World) (hg : g = w.heap.size) : Calls Tryz.prog 77 #[.slice (some ⟨g, 0, none⟩) 2 2] (w.alloc (.cells #[.int .i64 a, .int .i64 b] 35)) fun e w' => e = .returned (.int .i64 (orE a b)) ∧ w' = w.alloc (.cells #[.int .i64 a, .int .i64 b] 35) := by
  subst hg
  have h := firstError_calls w.heap.size [a, b] 2 (w.alloc (.cells #[.int .i64 a, .int .i64 b] 35)) (by simp) (new_ints rfl)
  have e : firstE [a, b] = orE a b := by
    simp only [firstE, orE]
    by_cases hb : b = 0
    · simp [hb]
    · simp [hb]
  rw [e] at h
  exact h
theorem first4_calls (a b c d : Int) (g : Nat) (w : World) (hg : g = w.heap.size) : Calls Tryz.prog 77 #[.slice (some ⟨g, 0, none⟩) 4 4] (w.alloc (.cells #[.int .i64 a, .int .i64 b, .int .i64 c, .int .i64 d] 35)) fun e w' => e = .returned (.int .i64 (firstE [a, b, c, d])) ∧ w' = w.alloc (.cells #[.int .i64 a, .int .i64 b, .int .i64 c, .int .i64 d] 35) := by
  subst hg
  exact firstError_calls w.heap.size [a, b, c, d] 4 (w.alloc (.cells #[.int .i64 a, .int .i64 b, .int .i64 c, .int .i64 d] 35)) (by simp) (new_ints rfl)

theorem first4D_calls (a b c d : Int) (g : Nat) (w : World) (hg : g = w.heap.size) : Calls Tryz.prog 77 #[.slice (some ⟨g, 0, none⟩) 4 4] (w.alloc (.cells #[.int .i64 a, .int .i64 b, .int .i64 c, .int .i64 d] 35)).drew fun e w' => e = .returned (.int .i64 (firstE [a, b, c, d])) ∧ w' = (w.alloc (.cells #[.int .i64 a, .int .i64 b, .int .i64 c, .int .i64 d] 35)).drew := by
  subst hg
  exact firstError_calls w.heap.size [a, b, c, d] 4 (w.alloc (.cells #[.int .i64 a, .int .i64 b, .int .i64 c, .int .i64 d] 35)).drew (by simp) (new_ints (T := 35) rfl)

/-- What fixId answers. -/
def idE (a b : ByteArray) : Int := orE (labE a) (labE b)
def idT (a b x : ByteArray) : ByteArray := if idE a b = 0 then labT x else ⟨#[]⟩
theorem id_yes {a b : ByteArray} (h : idE a b = 0) (x : ByteArray) : idT a b x = labT x := if_pos h
theorem id_no {a b : ByteArray} (h : ¬ idE a b = 0) (x : ByteArray) : idT a b x = ⟨#[]⟩ := if_neg h
set_option maxHeartbeats 1000000 in
theorem fixId_calls (a b : ByteArray) (w : World) (ha : a.size ≤ 140737488351296) (hb : b.size ≤ 140737488351296) :
    Calls Tryz.prog 71 #[.string a, .string b] w fun e w' => e = .returned (.tuple #[.string (idT a b a), .string (idT a b b), .int .i64 (idE a b)]) ∧ Below w.heap.size w w' := by
  obtain ⟨ie, Hie⟩ : ∃ ie, Hid (ie = idE a b) := ⟨_, rfl⟩
  have HY : Hid (ie = 0 → idT a b a = labT a ∧ idT a b b = labT b) := fun h => ⟨id_yes (by rw [← Hie.out]; exact h) a, id_yes (by rw [← Hie.out]; exact h) b⟩
  have HN : Hid (¬ ie = 0 → idT a b a = ⟨#[]⟩ ∧ idT a b b = ⟨#[]⟩) := fun h => ⟨id_no (by rw [← Hie.out]; exact h) a, id_no (by rw [← Hie.out]; exact h) b⟩
  rw [← Hie.out]
  go_enter Tryz.func71, Tryz.ntmps71
  go_wp2_with fail
  refine (label_calls a w ha).mono ?_
  rintro e w1 ⟨rfl, hb1⟩
  have HB1 : Hid (Below w.heap.size w w1) := hb1
  clear hb1
  go_wp2_with fail
  refine (label_calls b w1 hb).mono ?_
  rintro e w2 ⟨rfl, hb2⟩
  have HB2 : Hid (Below w.heap.size w w2) := HB1.out.trans (hb2.mono HB1.out.size)
  clear hb2
  go_wp2_with fail
  refine (first2_calls (labE a) (labE b) _ w2 rfl).mono ?_
  rintro e w3 ⟨he, hw3⟩
  rw [show orE (labE a) (labE b) = ie from Hie.out.symm] at he
  subst he
  have HB3 : Hid (Below w.heap.size w w3) := by rw [hw3]; exact HB2.out.alloc HB2.out.size _
  clear hw3 Hie
  by_cases h0 : ie = 0
  · have h12 : Hid (idT a b a = labT a ∧ idT a b b = labT b) := HY.out h0
    have h3 : Hid (ie = 0) := h0
    have q : (ie != 0) = false := by simpa using h0
    clear HY HN
    go_wp2
    go_ret3
    exact ⟨ret_tr h12.out.1.symm h12.out.2.symm h3.out.symm, HB3.out⟩
  · have h12 : Hid (idT a b a = ⟨#[]⟩ ∧ idT a b b = ⟨#[]⟩) := HN.out h0
    clear HY HN
    have q : (ie != 0) = true := by simpa using h0
    go_wp2
    go_ret3
    exact ⟨ret_tr h12.out.1.symm h12.out.2.symm rfl, HB3.out⟩

/-- What fixSpokenFor answers. -/
def spE (s : ByteArray) : Int := if s.size = 0 then 0 else labE s
def spT (s : ByteArray) : ByteArray := if s.size = 0 then ⟨#[]⟩ else labT s
theorem fixSpokenFor_calls (s : ByteArray) (w : World) (hs : s.size ≤ 140737488351296) :
    Calls Tryz.prog 81 #[.string s] w fun e w' => e = .returned (.tuple #[.string (spT s), .int .i64 (spE s)]) ∧ Below w.heap.size w w' := by
  by_cases he : s.toList = []
  · have h0 : s.size = 0 := by rw [ByteArray.toList_eq] at he; simpa using congrArg List.length he
    have HE : Hid (spT s = ⟨#[]⟩ ∧ spE s = 0) := by unfold spT spE; rw [Hid, if_pos h0, if_pos h0]; exact ⟨rfl, rfl⟩
    clear h0
    go_enter Tryz.func81, Tryz.ntmps81
    go_wp2
    go_ret2
    exact ⟨ret_pairS HE.out.1.symm HE.out.2.symm, Below.refl _ _⟩
  · have h0 := lab_size_pos he
    have hemp : s.toList.isEmpty = false := by simpa using he
    have HE : Hid (spT s = labT s ∧ spE s = labE s) := by unfold spT spE; rw [Hid, if_neg (by omega), if_neg (by omega)]; exact ⟨rfl, rfl⟩
    clear h0
    go_enter Tryz.func81, Tryz.ntmps81
    go_wp2_with fail
    refine (label_calls s w hs).mono ?_
    rintro e w1 ⟨rfl, hb1⟩
    have HB1 : Hid (Below w.heap.size w w1) := hb1
    clear hb1
    go_wp2
    go_ret2
    exact ⟨ret_pairS HE.out.1.symm HE.out.2.symm, HB1.out⟩

def portE (p : Int) : Int := if p < 1 ∨ 65535 < p then 92 else 0
theorem portError_calls (p : Int) (w : World) : Calls Tryz.prog 80 #[.int .i64 p] w fun e w' => e = .returned (.int .i64 (portE p)) ∧ w' = w := by
  by_cases h1 : p < 1
  · have HE : Hid (92 = portE p) := by unfold portE; rw [Hid, if_pos (.inl h1)]
    go_enter Tryz.func80, Tryz.ntmps80
    go_wp2
    go_ret
    exact ⟨ret_intR HE.out, rfl⟩
  · by_cases h2 : 65535 < p
    · have HE : Hid (92 = portE p) := by unfold portE; rw [Hid, if_pos (.inr h2)]
      go_enter Tryz.func80, Tryz.ntmps80
      go_wp2
      go_ret
      exact ⟨ret_intR HE.out, rfl⟩
    · have HE : Hid (0 = portE p) := by unfold portE; rw [Hid, if_neg (by omega)]
      go_enter Tryz.func80, Tryz.ntmps80
      go_wp2
      go_ret
      exact ⟨ret_intR HE.out, rfl⟩
def statE (p : Int) : Int := if p = 1 ∨ p = 2 ∨ p = 3 then 0 else 94
theorem statusError_calls (p : Int) (w : World) : Calls Tryz.prog 82 #[.int .i64 p] w fun e w' => e = .returned (.int .i64 (statE p)) ∧ w' = w := by
  by_cases h : p = 1 ∨ p = 2 ∨ p = 3
  · have HE : Hid (0 = statE p) := by unfold statE; rw [Hid, if_pos h]
    rcases h with h | h | h
    all_goals
      generalize statE p = r at *
      subst h
      go_enter Tryz.func82, Tryz.ntmps82
      go_wp2
      go_ret
      exact ⟨ret_intR HE.out, rfl⟩
  · have HE : Hid (94 = statE p) := by unfold statE; rw [Hid, if_neg h]
    have q1 : (p == 1) = false := by simp; omega
    have q2 : (p == 2) = false := by simp; omega
    have q3 : (p == 3) = false := by simp; omega
    clear h
    go_enter Tryz.func82, Tryz.ntmps82
    go_wp2
    go_ret
    exact ⟨ret_intR HE.out, rfl⟩
def noteTo (s : ByteArray) (k : Nat) : Prop := ∀ i (h : i < s.size), i < k → 32 ≤ s[i].toNat ∧ s[i].toNat ≤ 126
instance (s : ByteArray) (k : Nat) : Decidable (noteTo s k) := by unfold noteTo; infer_instance
def noteE (s : ByteArray) : Int := if s.size ≤ 200 ∧ noteTo s s.size then 0 else 95
theorem note_long {s : ByteArray} (h : ¬ s.size ≤ 200) : noteE s = 95 := if_neg fun e => h e.1
theorem note_bad {s : ByteArray} {k : Nat} (hk : k < s.size) (h : ¬ (32 ≤ s[k].toNat ∧ s[k].toNat ≤ 126)) : noteE s = 95 := if_neg fun e => h (e.2 k hk hk)
theorem noteTo.next {s : ByteArray} {k : Nat} (h : noteTo s k) (hk : k < s.size) (hv : 32 ≤ s[k].toNat ∧ s[k].toNat ≤ 126) : noteTo s (k + 1) := fun i hi hik => by
  rcases Nat.lt_or_ge i k with h' | h'
  · exact h i hi h'
  · obtain rfl : i = k := by omega
    exact hv
set_option maxHeartbeats 1000000 in
theorem noteError_calls (s : ByteArray) (w : World) (hs : s.size ≤ 140737488351296) : Calls Tryz.prog 83 #[.string s] w fun e w' => e = .returned (.int .i64 (noteE s)) ∧ w' = w := by
  by_cases hl : s.size ≤ 200
  case neg =>
    have HE : Hid (95 = noteE s) := (note_long hl).symm
    have q : (200 : Int) < (s.size : Int) := by omega
    go_enter Tryz.func83, Tryz.ntmps83
    go_wp2
    go_ret
    exact ⟨ret_intR HE.out, rfl⟩
  have q : ¬ (200 : Int) < (s.size : Int) := by omega
  go_enter Tryz.func83, Tryz.ntmps83
  go_wp2
  go_loop [9] (fun x => ∃ k : Nat, k ≤ s.size ∧ x = .int .i64 k ∧ Hid (noteTo s k)) (fun x => s.size - (intOf x).toNat)
  case atStart => exact ⟨0, Nat.zero_le _, rfl, fun i h h' => by omega⟩
  case round =>
    obtain ⟨k, hk, rfl, HK⟩ := hrel
    by_cases hlt : k < s.size
    · by_cases h32 : 32 ≤ s[k].toNat
      · have p1 : ¬ (s[k].toNat : Int) < 32 := by omega
        by_cases h126 : s[k].toNat ≤ 126
        · have p2 : ¬ (126 : Int) < (s[k].toNat : Int) := by omega
          have HN : Hid (noteTo s (k + 1)) := HK.out.next hlt ⟨h32, h126⟩
          go_wp2
          go_round
          case rel => exact ⟨k + 1, by omega, by go_num, HN⟩
          case measure => simp [intOf]; omega
        · have p2 : (126 : Int) < (s[k].toNat : Int) := by omega
          have HE : Hid (95 = noteE s) := (note_bad hlt (by omega)).symm
          go_wp2
          go_ret
          exact ⟨ret_intR HE.out, rfl⟩
      · have p1 : (s[k].toNat : Int) < 32 := by omega
        have HE : Hid (95 = noteE s) := (note_bad hlt (by omega)).symm
        go_wp2
        go_ret
        exact ⟨ret_intR HE.out, rfl⟩
    · obtain rfl : k = s.size := by omega
      have HE : Hid (0 = noteE s) := (if_pos (⟨hl, HK.out⟩ : s.size ≤ 200 ∧ noteTo s s.size)).symm
      go_wp2
      go_ret
      exact ⟨ret_intR HE.out, rfl⟩
theorem rclone_calls (s : ByteArray) (w : World) (hs : s.size ≤ 140737488351296) : Calls Tryz.prog 78 #[.string s] w fun e w' => e = .returned (.string s) ∧ Below w.heap.size w w' := by
  have HC := Tryz.stringslite_Clone s w (by omega)
  go_enter Tryz.func78, Tryz.ntmps78
  go_wp2_with fail
  refine HC.mono ?_
  rintro e w1 ⟨rfl, hb1⟩
  have HB1 : Hid (Below w.heap.size w w1) := hb1
  clear hb1 HC
  go_wp2
  go_ret
  exact ⟨rfl, HB1.out⟩
end Go.Proofs.YtmkohdepgfahnaaGreatDoor
