/- Layer 6 (schema): hasIndex, fieldPlace, allNames, anyTwice, takeFlag, mayStand. -/
import Derived.Test.YtbpmahchinblhaaDoorSFun
namespace Go.Proofs.YtbpmahchinblhaaDoor
open Go.RowKit
set_option linter.unusedVariables false

set_option maxHeartbeats 1000000 in
theorem hasIndex_calls (ao : Option Addr) (cap : Nat) (xs : List XV) (n : ByteArray) (w : World) (hl : xs.length ≤ 8) (h : CellsAt w ao (xcs xs)) :
    Calls Tryd.prog 50 #[.slice ao xs.length cap, .string n] w fun e w' => e = .returned (.bool (xs.any fun x => decide (x.x.n = n))) ∧ Below w.heap.size w w' := by
  go_enter Tryd.func50, Tryd.ntmps50
  go_wp2
  go_loopw [9] (fun x wr => ∃ k : Nat, k ≤ xs.length ∧ x = .int .i64 k ∧ Hid (noneTo (fun x => decide (x.x.n = n)) xs k) ∧ Below w.heap.size w wr) (fun x _ => xs.length - (intOf x).toNat)
  case atStart => exact ⟨0, Nat.zero_le _, rfl, noneTo.zero _ _, Below.refl _ _⟩
  case round =>
    obtain ⟨k, hk, rfl, HK, hb⟩ := hrel
    by_cases hlt : k < xs.length
    · obtain ⟨b, off, rfl, c0, c1, c2, c3, c4⟩ := (h.below hb).idx k hlt
      by_cases e1 : xs[k].x.n = n
      · have HE : Hid (true = xs.any fun x => decide (x.x.n = n)) := any_at _ _ k hlt (by simpa using e1)
        have q1 : (xs[k].x.n.toList == n.toList) = true := by rw [beq_toList]; simpa using e1
        clear e1
        go_wp2
        go_ret
        exact ⟨ret_bool HE.out, hb.alloc hb.size _⟩
      · have HE : Hid (decide (xs[k].x.n = n) = false) := by simpa [Hid] using e1
        have q1 : (xs[k].x.n.toList == n.toList) = false := by rw [beq_toList]; simpa using e1
        clear e1
        go_wp2
        go_roundw
        case rel => exact ⟨k + 1, by omega, by go_num, HK.out.succ hlt HE.out, hb.alloc hb.size _⟩
        case measure => simp [intOf]; omega
    · go_wp2
      go_ret
      exact ⟨ret_bool (HK.out.any (by omega)), hb⟩

theorem place_hit {fs : List Fd} {n : ByteArray} {k : Nat} (hk : k < fs.length) (h : fs[k].n = n) (hb : noneTo (fun f => decide (f.n = n)) fs k) : (k : Int) = placeF fs n := by
  have : fs.findIdx? (fun f => decide (f.n = n)) = some k := by
    rw [List.findIdx?_eq_some_iff_getElem]
    exact ⟨hk, by simpa using h, fun j hj => by simp [hb j (by omega) hj]⟩
  simp [placeF, this]
theorem place_none {fs : List Fd} {n : ByteArray} {k : Nat} (hk : fs.length ≤ k) (hb : noneTo (fun f => decide (f.n = n)) fs k) : -1 = placeF fs n := by
  have : fs.findIdx? (fun f => decide (f.n = n)) = none := by
    rw [List.findIdx?_eq_none_iff]
    intro x hx
    obtain ⟨j, hj, rfl⟩ := List.getElem_of_mem hx
    exact hb j hj (by omega)
  simp [placeF, this]
theorem place_range (fs : List Fd) (n : ByteArray) : placeF fs n = -1 ∨ (0 ≤ placeF fs n ∧ placeF fs n < fs.length) := by
  unfold placeF
  cases h : fs.findIdx? (fun f => decide (f.n = n)) with
  | none => exact .inl rfl
  | some i =>
    rw [List.findIdx?_eq_some_iff_getElem] at h
    obtain ⟨hi, _⟩ := h
    right
    simp; exact hi

set_option maxHeartbeats 1000000 in
theorem fieldPlace_calls (ao : Option Addr) (cap : Nat) (fs : List Fd) (n : ByteArray) (w : World) (hl : fs.length ≤ 16) (h : CellsAt w ao (fcs fs)) :
    Calls Tryd.prog 47 #[.slice ao fs.length cap, .string n] w fun e w' => e = .returned (.int .i64 (placeF fs n)) ∧ Below w.heap.size w w' := by
  go_enter Tryd.func47, Tryd.ntmps47
  go_wp2
  go_loopw [9] (fun x wr => ∃ k : Nat, k ≤ fs.length ∧ x = .int .i64 k ∧ Hid (noneTo (fun f => decide (f.n = n)) fs k) ∧ Below w.heap.size w wr) (fun x _ => fs.length - (intOf x).toNat)
  case atStart => exact ⟨0, Nat.zero_le _, rfl, noneTo.zero _ _, Below.refl _ _⟩
  case round =>
    obtain ⟨k, hk, rfl, HK, hb⟩ := hrel
    by_cases hlt : k < fs.length
    · obtain ⟨b, off, rfl, c0, c1⟩ := (h.below hb).fld k hlt
      by_cases e1 : fs[k].n = n
      · have HE : Hid ((k : Int) = placeF fs n) := place_hit hlt e1 HK.out
        have q1 : (fs[k].n.toList == n.toList) = true := by rw [beq_toList]; simpa using e1
        clear e1
        go_wp2
        go_ret
        exact ⟨ret_num HE.out, hb.alloc hb.size _⟩
      · have HE : Hid (decide (fs[k].n = n) = false) := by simpa [Hid] using e1
        have q1 : (fs[k].n.toList == n.toList) = false := by rw [beq_toList]; simpa using e1
        clear e1
        go_wp2
        go_roundw
        case rel => exact ⟨k + 1, by omega, by go_num, HK.out.succ hlt HE.out, hb.alloc hb.size _⟩
        case measure => simp [intOf]; omega
    · go_wp2
      go_ret
      exact ⟨ret_num (place_none (by omega) HK.out), hb⟩

theorem all_no {α : Type} {p : α → Bool} {l : List α} {k : Nat} (h : k < l.length) (hp : p l[k] = false) : false = l.all p := by
  symm
  rw [List.all_eq_false]
  exact ⟨_, List.getElem_mem h, by rw [hp]; simp⟩
def allTo {α : Type} (p : α → Bool) (l : List α) (k : Nat) : Prop := ∀ i (h : i < l.length), i < k → p l[i] = true
theorem allTo.succ {α : Type} {p : α → Bool} {l : List α} {k : Nat} (h : allTo p l k) (hk : k < l.length) (hp : p l[k] = true) : allTo p l (k + 1) := by
  intro i hi h'
  rcases Nat.lt_or_ge i k with h1 | h1
  · exact h i hi h1
  · obtain rfl : i = k := by omega
    exact hp
theorem allTo.all {α : Type} {p : α → Bool} {l : List α} {k : Nat} (h : allTo p l k) (hk : l.length ≤ k) : true = l.all p := by
  symm
  rw [List.all_eq_true]
  intro x hx
  obtain ⟨i, hi, rfl⟩ := List.getElem_of_mem hx
  exact h i hi (by omega)

set_option maxHeartbeats 1000000 in
theorem allNames_calls (ao : Option Addr) (cap : Nat) (ws : List ByteArray) (w : World) (hl : ws.length ≤ 100000) (hs : ∀ x ∈ ws, x.size ≤ 100000) (h : CellsAt w ao (ws.map Value.string)) :
    Calls Tryd.prog 49 #[.slice ao ws.length cap] w fun e w' => e = .returned (.bool (ws.all nameB)) ∧ w' = w := by
  go_enter Tryd.func49, Tryd.ntmps49
  go_wp2
  go_loop [7] (fun x => ∃ k : Nat, k ≤ ws.length ∧ x = .int .i64 k ∧ Hid (allTo nameB ws k)) (fun x => ws.length - (intOf x).toNat)
  case atStart => exact ⟨0, Nat.zero_le _, rfl, fun i h h' => by omega⟩
  case round =>
    obtain ⟨k, hk, rfl, HK⟩ := hrel
    by_cases hlt : k < ws.length
    · obtain ⟨b, off, rfl, c0⟩ := h.str k hlt
      have hsz := hs _ (List.getElem_mem hlt)
      cases e1 : nameB ws[k] with
      | true =>
        go_wp2_with (go_at_call 44; refine (isName_calls _ _ (by omega)).mono ?_; rintro e w' ⟨rfl, rfl⟩)
        go_round
        case rel => exact ⟨k + 1, by omega, by go_num, HK.out.succ hlt e1⟩
        case measure => simp [intOf]; omega
      | false =>
        have HE : Hid (false = ws.all nameB) := all_no hlt e1
        go_wp2_with (go_at_call 44; refine (isName_calls _ _ (by omega)).mono ?_; rintro e w' ⟨rfl, rfl⟩)
        go_ret
        exact ⟨ret_bool HE.out, rfl⟩
    · go_wp2
      go_ret
      exact ⟨ret_bool (HK.out.all (by omega)), rfl⟩
end Go.Proofs.YtbpmahchinblhaaDoor
