import Derived.Test.YtcdfbbjakkmmoaaXKidsM
import Derived.Test.YtcdfbbjakkmmoaaRHas0
import Derived.Test.YtcdfbbjakkmmoaaRHasI
import Derived.Test.YtcdfbbjakkmmoaaRMem
import Derived.Test.YtcdfbbjakkmmoaaRArgs
/- What a node holds of the whole's entries. -/
namespace Go.Proofs.Ytcdfbbjakkmmoaa
open Go.RowKit
set_option linter.unusedVariables false

/-- Beneath its path the node holds just the entries. -/
def HasU (t : Tr) (es : List En) : Prop := ∀ k x, t.path <+: k → (Has t k x ↔ ∃ e ∈ es, kyl e = k ∧ x = .int .i64 e.2)
theorem HasU.root {T : Tr} {es : List En} (h : HasE T es) : HasU T es := fun k x _ => h k x
theorem HasU.kid {t c : Tr} {es : List En} (h : HasU t es) (hw : WF t) (hc : c ∈ t.ks) : HasU c es := fun k x hp => by
  have e1 := hw.ext' _ hc
  have hl := hp.length_le
  rw [path_length] at hl
  rw [← h k x (e1.1.trans hp)]
  constructor
  · exact fun hx => .kid hc hx
  · intro hx
    obtain ⟨d, hd, hx', hb⟩ := hx.down hw (by omega)
    have : d = c := hw.inj hd hc (by
      rw [hb]
      exact prefix_getD hp _ (by rw [path_length]; omega))
    subst this; exact hx'
theorem HasU.own {t : Tr} {es : List En} (h : HasU t es) (hw : WF t) (x : Value) : (∃ y, t.v = some y ∧ y.x = x) ↔ ∃ e ∈ es, e.1 = t.p ∧ x = .int .i64 e.2 := by
  have h1 := h t.path x (List.prefix_refl _)
  constructor
  · rintro ⟨y, hy, rfl⟩
    obtain ⟨e, he, g1, g2⟩ := h1.1 (.here hy)
    exact ⟨e, he, kyb_inj g1, g2⟩
  · rintro ⟨e, he, g1, g2⟩
    obtain ⟨y, hy, h3⟩ := (h1.2 ⟨e, he, by rw [kyl, g1]; rfl, g2⟩).own hw (by rw [path_length]; exact Nat.le_refl _)
    exact ⟨y, hy, h3⟩
theorem oldV_in {es : List En} (hs : SortedE es) {e : En} (he : e ∈ es) : oldV es e.1 = e.2 := by
  obtain ⟨i, hi, rfl⟩ := List.getElem_of_mem he
  have hk : es[i].1 ∈ keysOf es := List.mem_map_of_mem (List.getElem_mem hi)
  have hi' : i < (keysOf es).length := by rw [keysOf_len]; exact hi
  have hp : place (keysOf es) es[i].1 = i := by
    have := place_self hs.keys hi'
    simpa [keysOf] using this
  unfold oldV
  rw [if_pos hk, hp]
  simp [valsOf, hi]
theorem shown_val {t : Tr} {es : List En} (h : HasU t es) (hw : WF t) (hs : SortedE es) : held t.v = .int .i64 (oldV es t.p) ∧ t.v.isSome = decide (t.p ∈ keysOf es) := by
  cases hv : t.v with
  | some y =>
    obtain ⟨e, he, g1, g2⟩ := (h.own hw y.x).1 ⟨y, hv, rfl⟩
    have hk : t.p ∈ keysOf es := by rw [← g1]; exact List.mem_map_of_mem he
    refine ⟨?_, ?_⟩
    · show y.x = _
      rw [g2, ← g1, oldV_in hs he]
    · rw [decide_eq_true hk]; rfl
  | none =>
    have hk : t.p ∉ keysOf es := fun hk => by
      obtain ⟨e, he, g1⟩ := List.mem_map.1 hk
      obtain ⟨y, hy, -⟩ := (h.own hw (.int .i64 e.2)).2 ⟨e, he, g1, rfl⟩
      rw [hv] at hy; cases hy
    refine ⟨?_, ?_⟩
    · unfold oldV; rw [if_neg hk]; rfl
    · rw [decide_eq_false hk]; rfl
theorem kidPls_len (n : Nat) (ks : List Tr) (i m : Nat) : (kidPls n ks i m).length = m := by simp [kidPls]
theorem kidPls_at (n : Nat) (ks : List Tr) (i m j : Nat) (h : j < (kidPls n ks i m).length) : (kidPls n ks i m)[j] = kidPl n ks i j := by simp [kidPls]
end Go.Proofs.Ytcdfbbjakkmmoaa

/- Layer 3 (radix): Root, Path, Value. -/
namespace Go.Proofs.Ytcdfbbjakkmmoaa
open Go.RowKit
set_option linter.unusedVariables false
variable {R : Rg} {O : Nat → Prop}

def nodeV (t : Tr) : Value := .agg #[.pointer (some ⟨t.a, 0, none⟩)]

set_option maxRecDepth 100000 in
theorem root_calls (tb : Nat) (t : Tr) (n : Int) (w : World) (h : TreeAt w tb t n) : Calls Try.prog 12 #[.pointer (some ⟨tb, 0, none⟩)] w fun e w' => e = .returned (nodeV t) ∧ Below w.heap.size w w' := by
  have c0 : w.cell? ⟨tb, 0, none⟩ = some (.pointer (some ⟨t.a, 0, none⟩)) := by rw [cell_of_blk h.blk]; rfl
  have hb := lt_of_heap h.blk
  clear h
  go_enter Try.func12, Try.ntmps12
  go_wp2
  exact bodyPost_ret (v := nodeV t) (by simp [results, Try.results12, go_sem, nodeV]) rfl ⟨rfl, (Below.refl _ w).alloc (Nat.le_refl _) _⟩

set_option maxRecDepth 100000 in
theorem path_calls (t : Tr) (w : World) (h : TAt R w t) : Calls Try.prog 37 #[nodeV t] w fun e w' => e = .returned (.string t.p) ∧ Below w.heap.size w w' := by
  obtain ⟨ao, cap, c0, -, -, -, -, -, -⟩ := h.cells
  have ha := h.lt
  clear h
  unfold nodeV
  go_enter Try.func37, Try.ntmps37
  go_wp2
  go_ret
  exact ⟨rfl, (Below.refl _ w).alloc (Nat.le_refl _) _⟩

set_option maxRecDepth 100000 in
theorem value_calls (t : Tr) (w : World) (h : TAt R w t) : Calls Try.prog 36 #[nodeV t] w fun e w' => e = .returned (.tuple #[held t.v, .bool t.v.isSome]) ∧ Below w.heap.size w w' := by
  obtain ⟨ao, cap, -, c1, -, -, -, -, -⟩ := h.cells
  have ha := h.lt
  have HV : Hid (∀ x, t.v = some x → VAt R.old w x) := h.val'
  clear h
  unfold nodeV
  obtain ⟨w1, HW1⟩ : ∃ w1, Hid (w1 = w.alloc (.cells #[.pointer (some ⟨t.a, 0, none⟩)] 37)) := ⟨_, rfl⟩
  have hb1 : Below w.heap.size w w1 := by rw [HW1.out]; exact (Below.refl _ _).alloc (Nat.le_refl _) _
  have HG := get_calls t.v w1 (fun x hx => (HV.out x hx).below hb1)
  have HB1 : Hid (Below w.heap.size w w1) := hb1
  clear hb1
  go_enter Try.func36, Try.ntmps36
  go_wp2_with fail
  rw [← HW1.out]
  refine HG.mono ?_
  rintro e w2 ⟨rfl, rfl⟩
  obtain ⟨hv, HHD⟩ : ∃ hv, Hid (hv = held t.v) := ⟨_, rfl⟩
  rw [← HHD.out]
  go_wp2_with fail
  go_ret2
  rw [HHD.out]
  exact ⟨rfl, HB1.out⟩
end Go.Proofs.Ytcdfbbjakkmmoaa

/- Layer 3 (radix): Kids. -/
namespace Go.Proofs.Ytcdfbbjakkmmoaa
open Go.RowKit
set_option linter.unusedVariables false
variable {R : Rg} {O : Nat → Prop}

structure KidI (w : World) (t : Tr) (i : Nat) (W : World) : Prop where
  below : Below w.heap.size w W
  row : ∃ M : Array Value, W.heap[w.heap.size + 1]? = some (.cells M 37) ∧ M.size = t.ks.length ∧ ∀ j (h : j < t.ks.length), j < i → M[j]? = some (.pointer (some ⟨t.ks[j].a, 0, none⟩))

theorem KidI.next {w W : World} {t : Tr} {i : Nat} (h : KidI w t i W) (hi : i < t.ks.length) : KidI w t (i + 1) (W.setCell ⟨w.heap.size + 1, i, none⟩ (.pointer (some ⟨t.ks[i].a, 0, none⟩))) := by
  obtain ⟨M, h1, h2, h3⟩ := h.row
  refine ⟨h.below.setCell (by show w.heap.size ≤ w.heap.size + 1; omega) _, M.setIfInBounds i (.pointer (some ⟨t.ks[i].a, 0, none⟩)), ?_, ?_, ?_⟩
  · rw [setCell_blk h1]
  · simp [h2]
  · intro j hj hji
    rcases Nat.lt_or_ge j i with hc | hc
    · rw [Array.getElem?_setIfInBounds_ne (by omega)]
      exact h3 j hj hc
    · have : j = i := by omega
      subst this
      rw [Array.getElem?_setIfInBounds_self_of_lt (by omega)]

set_option maxRecDepth 100000 in
theorem kids_blk (t : Tr) (w : World) (h : TAt R w t) (hf : t.ks.length ≤ 1000) : Calls Try.prog 38 #[nodeV t] w fun e w' => ∃ kb, e = .returned (.slice (some ⟨kb, 0, none⟩) t.ks.length t.ks.length) ∧ Below w.heap.size w w' ∧ w.heap.size ≤ kb ∧ ∃ M : Array Value, w'.heap[kb]? = some (.cells M 37) ∧ M.size = t.ks.length ∧ ∀ i (h : i < t.ks.length), M[i]? = some (.pointer (some ⟨t.ks[i].a, 0, none⟩)) := by
  obtain ⟨ao, cap, -, -, c2, -, hk, hr, hn⟩ := h.cells
  have ha := h.lt
  have HK : Hid (KidsAt R w ao t.ks) := hk
  clear h hk
  obtain ⟨i0, hi, hz0, hz1, hz2⟩ : ∃ i0, Try.prog.info? 37 = some i0 ∧ i0.zero = some (.agg #[.pointer none]) ∧ i0.size = 1 ∧ i0.bytes = 8 := by
    have h0 : (Try.prog.info? 37).map (fun i => (i.zero, i.size, i.bytes)) = some (some (.agg #[.pointer none]), 1, 8) := by kernel_rfl
    cases h1 : Try.prog.info? 37 with
    | none => rw [h1] at h0; cases h0
    | some i0 => rw [h1] at h0; simp at h0; exact ⟨i0, rfl, h0.1, h0.2.1, h0.2.2⟩
  obtain ⟨M, HM⟩ : ∃ M, M = madeCells (Value.agg #[.pointer none]).cells (((t.ks.length : Nat) : Int).toNat * i0.size) := ⟨_, rfl⟩
  have hMs : M.size = t.ks.length := by rw [HM, size_madeCells, hz1]; simp
  have hmake : ∀ W : World, (Instr.makeSlice 85 (.int .i64 (t.ks.length : Int)) (.int .i64 (t.ks.length : Int))).run Try.prog W = .ok (.slice (some ⟨W.heap.size, 0, none⟩) t.ks.length t.ks.length) (W.alloc (.cells M 37)) := fun W => by
    have h := run_make (P := Try.prog) W 85 37 i0 (.agg #[.pointer none]) Try.underlying85 hi hz0 .i64 .i64 (t.ks.length : Int) (t.ks.length : Int) (by omega) (by omega) (by rw [hz2]; omega) (by omega)
    rw [← HM] at h
    simpa using h
  clear HM hi hz0 hz1 hz2
  unfold nodeV
  go_enter Try.func38, Try.ntmps38
  go_wp2_with fail
  have HI0 : Hid (KidI w t 0 ((w.alloc (.cells #[.pointer (some ⟨t.a, 0, none⟩)] 37)).alloc (.cells M 37))) := by
    have hs : (w.alloc (.cells #[.pointer (some ⟨t.a, 0, none⟩)] 37)).heap.size = w.heap.size + 1 := by simp [World.size_alloc]
    refine ⟨((Below.refl _ w).alloc (Nat.le_refl _) _).alloc (by omega) _, M, ?_, hMs, fun j hj h0 => by omega⟩
    rw [← hs]; exact heap_alloc_new _ _
  go_loopw [19] (fun i wr => ∃ j : Nat, j ≤ t.ks.length ∧ i = .int .i64 j ∧ Hid (KidI w t j wr)) (fun i _ => t.ks.length - (intOf i).toNat)
  case atStart => exact ⟨0, Nat.zero_le _, rfl, HI0⟩
  case round =>
    obtain ⟨j, hj, rfl, HI⟩ := hrel
    by_cases hlt : j < t.ks.length
    · obtain ⟨b, off, rfl, hc, -⟩ := (HK.out.below HI.out.below) j hlt
      obtain ⟨M1, m1, m2, m3⟩ := HI.out.row
      obtain ⟨y0, kc⟩ : ∃ y0, wr.cell? ⟨w.heap.size + 1, j, none⟩ = some y0 := ⟨M1[j], by rw [cell_of_blk m1]; simp [m2, hlt]⟩
      have kz : wr.frozen? ⟨w.heap.size + 1, j, none⟩ = false := frozen_of_blk m1
      have HI2 : Hid _ := HI.out.next hlt
      clear m1 m2 m3
      go_wp2_with fail
      go_roundw
      case rel => exact ⟨j + 1, by omega, by go_num, HI2⟩
      case measure => simp [intOf]; omega
    · have hjl : j = t.ks.length := by omega
      subst hjl
      go_wp2_with fail
      go_ret
      obtain ⟨M1, m1, m2, m3⟩ := HI.out.row
      exact ⟨w.heap.size + 1, rfl, HI.out.below, by omega, M1, m1, m2, fun i h => m3 i h h⟩
theorem kids_calls (t : Tr) (w : World) (h : TAt R w t) (hf : t.ks.length ≤ 1000) : Calls Try.prog 38 #[nodeV t] w fun e w' => ∃ kb, e = .returned (.slice (some ⟨kb, 0, none⟩) t.ks.length t.ks.length) ∧ Below w.heap.size w w' ∧ w.heap.size ≤ kb ∧ ∀ i (h : i < t.ks.length), w'.cell? ⟨kb, i, none⟩ = some (.pointer (some ⟨t.ks[i].a, 0, none⟩)) := by
  refine (kids_blk t w h hf).mono ?_
  rintro e w' ⟨kb, rfl, hb, hk, M, m1, m2, m3⟩
  exact ⟨kb, rfl, hb, hk, fun i h => by rw [cell_of_blk m1]; exact m3 i h⟩
end Go.Proofs.Ytcdfbbjakkmmoaa
