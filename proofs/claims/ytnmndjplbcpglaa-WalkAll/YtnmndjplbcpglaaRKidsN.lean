import Derived.Test.YtnmndjplbcpglaaXHeld
/- Layer 3 (radix): Root, Path, Value. -/
namespace Go.Proofs.Ytnmndjplbcpglaa
open Go.RowKit
set_option linter.unusedVariables false
variable {R : Rg} {O : Nat → Prop}

def nodeV (t : Tr) : Value := .agg #[.pointer (some ⟨t.a, 0, none⟩)]

set_option maxRecDepth 100000 in
theorem root_calls (tb : Nat) (t : Tr) (n : Int) (w : World) (h : TreeAt w tb t n) : Calls Try.prog 24 #[.pointer (some ⟨tb, 0, none⟩)] w fun e w' => e = .returned (nodeV t) ∧ Below w.heap.size w w' := by
  have c0 : w.cell? ⟨tb, 0, none⟩ = some (.pointer (some ⟨t.a, 0, none⟩)) := by rw [cell_of_blk h.blk]; rfl
  have hb := lt_of_heap h.blk
  clear h
  go_enter Try.func24, Try.ntmps24
  go_wp2
  exact bodyPost_ret (v := nodeV t) (by simp [results, Try.results24, go_sem, nodeV]) rfl ⟨rfl, (Below.refl _ w).alloc (Nat.le_refl _) _⟩

set_option maxRecDepth 100000 in
theorem path_calls (t : Tr) (w : World) (h : TAt R w t) : Calls Try.prog 64 #[nodeV t] w fun e w' => e = .returned (.string t.p) ∧ Below w.heap.size w w' := by
  obtain ⟨ao, cap, c0, -, -, -, -, -, -⟩ := h.cells
  have ha := h.lt
  clear h
  unfold nodeV
  go_enter Try.func64, Try.ntmps64
  go_wp2
  go_ret
  exact ⟨rfl, (Below.refl _ w).alloc (Nat.le_refl _) _⟩

set_option maxRecDepth 100000 in
theorem value_calls (t : Tr) (w : World) (h : TAt R w t) : Calls Try.prog 67 #[nodeV t] w fun e w' => e = .returned (.tuple #[held t.v, .bool t.v.isSome]) ∧ Below w.heap.size w w' := by
  obtain ⟨ao, cap, -, c1, -, -, -, -, -⟩ := h.cells
  have ha := h.lt
  have HV : Hid (∀ x, t.v = some x → VAt R.old w x) := h.val'
  clear h
  unfold nodeV
  obtain ⟨w1, HW1⟩ : ∃ w1, Hid (w1 = w.alloc (.cells #[.pointer (some ⟨t.a, 0, none⟩)] 63)) := ⟨_, rfl⟩
  have hb1 : Below w.heap.size w w1 := by rw [HW1.out]; exact (Below.refl _ _).alloc (Nat.le_refl _) _
  have HG := get_calls t.v w1 (fun x hx => (HV.out x hx).below hb1)
  have HB1 : Hid (Below w.heap.size w w1) := hb1
  clear hb1
  go_enter Try.func67, Try.ntmps67
  go_wp2_with fail
  rw [← HW1.out]
  refine HG.mono ?_
  rintro e w2 ⟨rfl, rfl⟩
  obtain ⟨hv, HHD⟩ : ∃ hv, Hid (hv = held t.v) := ⟨_, rfl⟩
  rw [← HHD.out]
  go_wp2_with fail
  go_ret2
  rw [HHD.out]
  exact ⟨rfl, HB1.out⟩
end Go.Proofs.Ytnmndjplbcpglaa

/- Layer 3 (radix): Kids. -/
namespace Go.Proofs.Ytnmndjplbcpglaa
open Go.RowKit
set_option linter.unusedVariables false
variable {R : Rg} {O : Nat → Prop}

structure KidI (w : World) (t : Tr) (i : Nat) (W : World) : Prop where
  below : Below w.heap.size w W
  row : ∃ M : Array Value, W.heap[w.heap.size + 1]? = some (.cells M 63) ∧ M.size = t.ks.length ∧ ∀ j (h : j < t.ks.length), j < i → M[j]? = some (.pointer (some ⟨t.ks[j].a, 0, none⟩))

theorem KidI.next {w W : World} {t : Tr} {i : Nat} (h : KidI w t i W) (hi : i < t.ks.length) : KidI w t (i + 1) (W.setCell ⟨w.heap.size + 1, i, none⟩ (.pointer (some ⟨t.ks[i].a, 0, none⟩))) := by
  obtain ⟨M, h1, h2, h3⟩ := h.row
  refine ⟨h.below.setCell (by show w.heap.size ≤ w.heap.size + 1; omega) _, M.setIfInBounds i (.pointer (some ⟨t.ks[i].a, 0, none⟩)), ?_, ?_, ?_⟩
  · rw [setCell_blk h1]
  · simp [h2]
  · intro j hj hji
    rcases Nat.lt_or_ge j i with hc | hc
    · rw [Array.getElem?_setIfInBounds_ne (by omega)]
      exact h3 j hj hc
    · have : j = i := by omega
      subst this
      rw [Array.getElem?_setIfInBounds_self_of_lt (by omega)]

set_option maxRecDepth 100000 in
theorem kids_blk (t : Tr) (w : World) (h : TAt R w t) (hf : t.ks.length ≤ 1000) : Calls Try.prog 46 #[nodeV t] w fun e w' => ∃ kb, e = .returned (.slice (some ⟨kb, 0, none⟩) t.ks.length t.ks.length) ∧ Below w.heap.size w w' ∧ w.heap.size ≤ kb ∧ ∃ M : Array Value, w'.heap[kb]? = some (.cells M 63) ∧ M.size = t.ks.length ∧ ∀ i (h : i < t.ks.length), M[i]? = some (.pointer (some ⟨t.ks[i].a, 0, none⟩)) := by
  obtain ⟨ao, cap, -, -, c2, -, hk, hr, hn⟩ := h.cells
  have ha := h.lt
  have HK : Hid (KidsAt R w ao t.ks) := hk
  clear h hk
  obtain ⟨i0, hi, hz0, hz1, hz2⟩ : ∃ i0, Try.prog.info? 63 = some i0 ∧ i0.zero = some (.agg #[.pointer none]) ∧ i0.size = 1 ∧ i0.bytes = 8 := by
    have h0 : (Try.prog.info? 63).map (fun i => (i.zero, i.size, i.bytes)) = some (some (.agg #[.pointer none]), 1, 8) := by kernel_rfl
    cases h1 : Try.prog.info? 63 with
    | none => rw [h1] at h0; cases h0
    | some i0 => rw [h1] at h0; simp at h0; exact ⟨i0, rfl, h0.1, h0.2.1, h0.2.2⟩
  obtain ⟨M, HM⟩ : ∃ M, M = madeCells (Value.agg #[.pointer none]).cells (((t.ks.length : Nat) : Int).toNat * i0.size) := ⟨_, rfl⟩
  have hMs : M.size = t.ks.length := by rw [HM, size_madeCells, hz1]; simp
  have hmake : ∀ W : World, (Instr.makeSlice 96 (.int .i64 (t.ks.length : Int)) (.int .i64 (t.ks.length : Int))).run Try.prog W = .ok (.slice (some ⟨W.heap.size, 0, none⟩) t.ks.length t.ks.length) (W.alloc (.cells M 63)) := fun W => by
    have h := run_make (P := Try.prog) W 96 63 i0 (.agg #[.pointer none]) Try.underlying96 hi hz0 .i64 .i64 (t.ks.length : Int) (t.ks.length : Int) (by omega) (by omega) (by rw [hz2]; omega) (by omega)
    rw [← HM] at h
    simpa using h
  clear HM hi hz0 hz1 hz2
  unfold nodeV
  go_enter Try.func46, Try.ntmps46
  go_wp2_with fail
  have HI0 : Hid (KidI w t 0 ((w.alloc (.cells #[.pointer (some ⟨t.a, 0, none⟩)] 63)).alloc (.cells M 63))) := by
    have hs : (w.alloc (.cells #[.pointer (some ⟨t.a, 0, none⟩)] 63)).heap.size = w.heap.size + 1 := by simp [World.size_alloc]
    refine ⟨((Below.refl _ w).alloc (Nat.le_refl _) _).alloc (by omega) _, M, ?_, hMs, fun j hj h0 => by omega⟩
    rw [← hs]; exact heap_alloc_new _ _
  go_loopw [19] (fun i wr => ∃ j : Nat, j ≤ t.ks.length ∧ i = .int .i64 j ∧ Hid (KidI w t j wr)) (fun i _ => t.ks.length - (intOf i).toNat)
  case atStart => exact ⟨0, Nat.zero_le _, rfl, HI0⟩
  case round =>
    obtain ⟨j, hj, rfl, HI⟩ := hrel
    by_cases hlt : j < t.ks.length
    · obtain ⟨b, off, rfl, hc, -⟩ := (HK.out.below HI.out.below) j hlt
      obtain ⟨M1, m1, m2, m3⟩ := HI.out.row
      obtain ⟨y0, kc⟩ : ∃ y0, wr.cell? ⟨w.heap.size + 1, j, none⟩ = some y0 := ⟨M1[j], by rw [cell_of_blk m1]; simp [m2, hlt]⟩
      have kz : wr.frozen? ⟨w.heap.size + 1, j, none⟩ = false := frozen_of_blk m1
      have HI2 : Hid _ := HI.out.next hlt
      clear m1 m2 m3
      go_wp2_with fail
      go_roundw
      case rel => exact ⟨j + 1, by omega, by go_num, HI2⟩
      case measure => simp [intOf]; omega
    · have hjl : j = t.ks.length := by omega
      subst hjl
      go_wp2_with fail
      go_ret
      obtain ⟨M1, m1, m2, m3⟩ := HI.out.row
      exact ⟨w.heap.size + 1, rfl, HI.out.below, by omega, M1, m1, m2, fun i h => m3 i h h⟩
theorem kids_calls (t : Tr) (w : World) (h : TAt R w t) (hf : t.ks.length ≤ 1000) : Calls Try.prog 46 #[nodeV t] w fun e w' => ∃ kb, e = .returned (.slice (some ⟨kb, 0, none⟩) t.ks.length t.ks.length) ∧ Below w.heap.size w w' ∧ w.heap.size ≤ kb ∧ ∀ i (h : i < t.ks.length), w'.cell? ⟨kb, i, none⟩ = some (.pointer (some ⟨t.ks[i].a, 0, none⟩)) := by
  refine (kids_blk t w h hf).mono ?_
  rintro e w' ⟨kb, rfl, hb, hk, M, m1, m2, m3⟩
  exact ⟨kb, rfl, hb, hk, fun i h => by rw [cell_of_blk m1]; exact m3 i h⟩
end Go.Proofs.Ytnmndjplbcpglaa
