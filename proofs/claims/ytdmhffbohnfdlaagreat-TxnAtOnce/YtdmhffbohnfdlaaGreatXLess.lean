import Derived.Test.YtdmhffbohnfdlaaGreatXOrd
import Derived.Test.YtdmhffbohnfdlaaGreatRMem
import Derived.Deep.QuietTactic
import Derived.BigQuiet
/- Layer 3 (radix): Root, Path, Value. -/
namespace Go.Proofs.YtdmhffbohnfdlaaGreat
open Go.RowKit
set_option linter.unusedVariables false
variable {R : Rg} {O : Nat → Prop}

def nodeV (t : Tr) : Value := .agg #[.pointer (some ⟨t.a, 0, none⟩)]

set_option maxRecDepth 100000 in
theorem root_calls (tb : Nat) (t : Tr) (n : Int) (w : World) (h : TreeAt w tb t n) : Calls Tryz.prog 97 #[.pointer (some ⟨tb, 0, none⟩)] w fun e w' => e = .returned (nodeV t) ∧ Below w.heap.size w w' := by
  have c0 : w.cell? ⟨tb, 0, none⟩ = some (.pointer (some ⟨t.a, 0, none⟩)) := by rw [cell_of_blk h.blk]; rfl
  have hb := lt_of_heap h.blk
  clear h
  go_enter Tryz.func97, Tryz.ntmps97
  go_wp2
  exact bodyPost_ret (v := nodeV t) (by simp [results, Tryz.results97, go_sem, nodeV]) rfl ⟨rfl, (Below.refl _ w).alloc (Nat.le_refl _) _⟩

set_option maxRecDepth 100000 in
theorem path_calls (t : Tr) (w : World) (h : TAt R w t) : Calls Tryz.prog 124 #[nodeV t] w fun e w' => e = .returned (.string t.p) ∧ Below w.heap.size w w' := by
  obtain ⟨ao, cap, c0, -, -, -, -, -, -⟩ := h.cells
  have ha := h.lt
  clear h
  unfold nodeV
  go_enter Tryz.func124, Tryz.ntmps124
  go_wp2
  go_ret
  exact ⟨rfl, (Below.refl _ w).alloc (Nat.le_refl _) _⟩

set_option maxRecDepth 100000 in
theorem value_calls (t : Tr) (w : World) (h : TAt R w t) : Calls Tryz.prog 151 #[nodeV t] w fun e w' => e = .returned (.tuple #[held t.v, .bool t.v.isSome]) ∧ Below w.heap.size w w' := by
  obtain ⟨ao, cap, -, c1, -, -, -, -, -⟩ := h.cells
  have ha := h.lt
  have HV : Hid (∀ x, t.v = some x → VAt R.old w x) := h.val'
  clear h
  unfold nodeV
  obtain ⟨w1, HW1⟩ : ∃ w1, Hid (w1 = w.alloc (.cells #[.pointer (some ⟨t.a, 0, none⟩)] 185)) := ⟨_, rfl⟩
  have hb1 : Below w.heap.size w w1 := by rw [HW1.out]; exact (Below.refl _ _).alloc (Nat.le_refl _) _
  have HG := get_calls t.v w1 (fun x hx => (HV.out x hx).below hb1)
  have HB1 : Hid (Below w.heap.size w w1) := hb1
  clear hb1
  go_enter Tryz.func151, Tryz.ntmps151
  go_wp2_with fail
  rw [← HW1.out]
  refine HG.mono ?_
  rintro e w2 ⟨rfl, rfl⟩
  obtain ⟨hv, HHD⟩ : ∃ hv, Hid (hv = held t.v) := ⟨_, rfl⟩
  rw [← HHD.out]
  go_wp2_with fail
  go_ret2
  rw [HHD.out]
  exact ⟨rfl, HB1.out⟩
end Go.Proofs.YtdmhffbohnfdlaaGreat

/- Layer 3 (radix): Kids. -/
namespace Go.Proofs.YtdmhffbohnfdlaaGreat
open Go.RowKit
set_option linter.unusedVariables false
variable {R : Rg} {O : Nat → Prop}

structure KidI (w : World) (t : Tr) (i : Nat) (W : World) : Prop where
  below : Below w.heap.size w W
  row : ∃ M : Array Value, W.heap[w.heap.size + 1]? = some (.cells M 185) ∧ M.size = t.ks.length ∧ ∀ j (h : j < t.ks.length), j < i → M[j]? = some (.pointer (some ⟨t.ks[j].a, 0, none⟩))

theorem KidI.next {w W : World} {t : Tr} {i : Nat} (h : KidI w t i W) (hi : i < t.ks.length) : KidI w t (i + 1) (W.setCell ⟨w.heap.size + 1, i, none⟩ (.pointer (some ⟨t.ks[i].a, 0, none⟩))) := by
  obtain ⟨M, h1, h2, h3⟩ := h.row
  refine ⟨h.below.setCell (by show w.heap.size ≤ w.heap.size + 1; omega) _, M.setIfInBounds i (.pointer (some ⟨t.ks[i].a, 0, none⟩)), ?_, ?_, ?_⟩
  · rw [setCell_blk h1]
  · simp [h2]
  · intro j hj hji
    rcases Nat.lt_or_ge j i with hc | hc
    · rw [Array.getElem?_setIfInBounds_ne (by omega)]
      exact h3 j hj hc
    · have : j = i := by omega
      subst this
      rw [Array.getElem?_setIfInBounds_self_of_lt (by omega)]

set_option maxRecDepth 100000 in
theorem kids_blk (t : Tr) (w : World) (h : TAt R w t) (hf : t.ks.length ≤ 1000) : Calls Tryz.prog 125 #[nodeV t] w fun e w' => ∃ kb, e = .returned (.slice (some ⟨kb, 0, none⟩) t.ks.length t.ks.length) ∧ Below w.heap.size w w' ∧ w.heap.size ≤ kb ∧ ∃ M : Array Value, w'.heap[kb]? = some (.cells M 185) ∧ M.size = t.ks.length ∧ ∀ i (h : i < t.ks.length), M[i]? = some (.pointer (some ⟨t.ks[i].a, 0, none⟩)) := by
  obtain ⟨ao, cap, -, -, c2, -, hk, hr, hn⟩ := h.cells
  have ha := h.lt
  have HK : Hid (KidsAt R w ao t.ks) := hk
  clear h hk
  obtain ⟨i0, hi, hz0, hz1, hz2⟩ : ∃ i0, Tryz.prog.info? 185 = some i0 ∧ i0.zero = some (.agg #[.pointer none]) ∧ i0.size = 1 ∧ i0.bytes = 8 := by
    have h0 : (Tryz.prog.info? 185).map (fun i => (i.zero, i.size, i.bytes)) = some (some (.agg #[.pointer none]), 1, 8) := by kernel_rfl
    cases h1 : Tryz.prog.info? 185 with
    | none => rw [h1] at h0; cases h0
    | some i0 => rw [h1] at h0; simp at h0; exact ⟨i0, rfl, h0.1, h0.2.1, h0.2.2⟩
  obtain ⟨M, HM⟩ : ∃ M, M = madeCells (Value.agg #[.pointer none]).cells (((t.ks.length : Nat) : Int).toNat * i0.size) := ⟨_, rfl⟩
  have hMs : M.size = t.ks.length := by rw [HM, size_madeCells, hz1]; simp
  have hmake : ∀ W : World, (Instr.makeSlice 207 (.int .i64 (t.ks.length : Int)) (.int .i64 (t.ks.length : Int))).run Tryz.prog W = .ok (.slice (some ⟨W.heap.size, 0, none⟩) t.ks.length t.ks.length) (W.alloc (.cells M 185)) := fun W => by
    have h := run_make (P := Tryz.prog) W 207 185 i0 (.agg #[.pointer none]) Tryz.underlying207 hi hz0 .i64 .i64 (t.ks.length : Int) (t.ks.length : Int) (by omega) (by omega) (by rw [hz2]; omega) (by omega)
    rw [← HM] at h
    simpa using h
  clear HM hi hz0 hz1 hz2
  unfold nodeV
  go_enter Tryz.func125, Tryz.ntmps125
  go_wp2_with fail
  have HI0 : Hid (KidI w t 0 ((w.alloc (.cells #[.pointer (some ⟨t.a, 0, none⟩)] 185)).alloc (.cells M 185))) := by
    have hs : (w.alloc (.cells #[.pointer (some ⟨t.a, 0, none⟩)] 185)).heap.size = w.heap.size + 1 := by simp [World.size_alloc]
    refine ⟨((Below.refl _ w).alloc (Nat.le_refl _) _).alloc (by omega) _, M, ?_, hMs, fun j hj h0 => by omega⟩
    rw [← hs]; exact heap_alloc_new _ _
  go_loopw [19] (fun i wr => ∃ j : Nat, j ≤ t.ks.length ∧ i = .int .i64 j ∧ Hid (KidI w t j wr)) (fun i _ => t.ks.length - (intOf i).toNat)
  case atStart => exact ⟨0, Nat.zero_le _, rfl, HI0⟩
  case round =>
    obtain ⟨j, hj, rfl, HI⟩ := hrel
    by_cases hlt : j < t.ks.length
    · obtain ⟨b, off, rfl, hc, -⟩ := (HK.out.below HI.out.below) j hlt
      obtain ⟨M1, m1, m2, m3⟩ := HI.out.row
      obtain ⟨y0, kc⟩ : ∃ y0, wr.cell? ⟨w.heap.size + 1, j, none⟩ = some y0 := ⟨M1[j], by rw [cell_of_blk m1]; simp [m2, hlt]⟩
      have kz : wr.frozen? ⟨w.heap.size + 1, j, none⟩ = false := frozen_of_blk m1
      have HI2 : Hid _ := HI.out.next hlt
      clear m1 m2 m3
      go_wp2_with fail
      go_roundw
      case rel => exact ⟨j + 1, by omega, by go_num, HI2⟩
      case measure => simp [intOf]; omega
    · have hjl : j = t.ks.length := by omega
      subst hjl
      go_wp2_with fail
      go_ret
      obtain ⟨M1, m1, m2, m3⟩ := HI.out.row
      exact ⟨w.heap.size + 1, rfl, HI.out.below, by omega, M1, m1, m2, fun i h => m3 i h h⟩
theorem kids_calls (t : Tr) (w : World) (h : TAt R w t) (hf : t.ks.length ≤ 1000) : Calls Tryz.prog 125 #[nodeV t] w fun e w' => ∃ kb, e = .returned (.slice (some ⟨kb, 0, none⟩) t.ks.length t.ks.length) ∧ Below w.heap.size w w' ∧ w.heap.size ≤ kb ∧ ∀ i (h : i < t.ks.length), w'.cell? ⟨kb, i, none⟩ = some (.pointer (some ⟨t.ks[i].a, 0, none⟩)) := by
  refine (kids_blk t w h hf).mono ?_
  rintro e w' ⟨kb, rfl, hb, hk, M, m1, m2, m3⟩
  exact ⟨kb, rfl, hb, hk, fun i h => by rw [cell_of_blk m1]; exact m3 i h⟩
end Go.Proofs.YtdmhffbohnfdlaaGreat

/- The document's Less and Starts. -/
namespace Go.Proofs.YtdmhffbohnfdlaaGreat
open Go.RowKit
set_option linter.unusedVariables false

theorem less_nil (b : ByteArray) (a : List UInt8) (k : Nat) (h : k < b.size) (ha : a = []) : Op.bytesLess a (b.data.toList.drop k) = true := by
  subst ha
  rw [List.drop_eq_getElem_cons (by simpa using h)]; rfl
theorem less_end (b : ByteArray) (a : List UInt8) (k : Nat) (h : ¬ k < b.size) : Op.bytesLess a (b.data.toList.drop k) = false := by
  rw [List.drop_eq_nil_of_le (by simp; omega)]; cases a <;> rfl
theorem less_step (a b : ByteArray) (k : Nat) (ha : k < a.size) (hb : k < b.size) : Op.bytesLess (a.data.toList.drop k) (b.data.toList.drop k) = (decide (a[k].toNat < b[k].toNat) || (decide (a[k].toNat = b[k].toNat) && Op.bytesLess (a.data.toList.drop (k + 1)) (b.data.toList.drop (k + 1)))) := by
  rw [List.drop_eq_getElem_cons (l := a.data.toList) (by simpa using ha), List.drop_eq_getElem_cons (l := b.data.toList) (by simpa using hb)]
  rw [Op.bytesLess]
  have e1 : (a.data.toList[k]'(by simpa using ha) < b.data.toList[k]'(by simpa using hb)) ↔ a[k].toNat < b[k].toNat := UInt8.lt_iff_toNat_lt
  have e2 : (a.data.toList[k]'(by simpa using ha) == b.data.toList[k]'(by simpa using hb)) = decide (a[k].toNat = b[k].toNat) := by
    rw [Bool.eq_iff_iff, beq_iff_eq, decide_eq_true_iff]
    exact UInt8.toNat_inj.symm
  rw [e2]
  congr 1

set_option maxHeartbeats 1000000 in
theorem less_calls (a b : ByteArray) (w : World) (ha : a.size ≤ 140737488351296) (hb : b.size ≤ 140737488351296) :
    Calls Tryz.prog 111 #[.string a, .string b] w fun e w' => e = .returned (.bool (Op.bytesLess a.toList b.toList)) ∧ ∃ n, w' = w.drewN n := by
  have HL : Hid (Op.bytesLess a.toList b.toList = Op.bytesLess a.data.toList b.data.toList) := by
    show _ = _
    rw [ByteArray.toList_eq, ByteArray.toList_eq]
  go_enter Tryz.func111, Tryz.ntmps111
  go_wp2
  go_loopw [5] (fun i wr => ∃ k n : Nat, k ≤ b.size ∧ i = .int .i64 k ∧ Hid (Op.bytesLess (a.data.toList.drop k) (b.data.toList.drop k) = Op.bytesLess a.data.toList b.data.toList) ∧ wr = w.drewN n) (fun i _ => b.size - (intOf i).toNat)
  case atStart => exact ⟨0, 0, Nat.zero_le _, rfl, rfl, rfl⟩
  case round =>
    obtain ⟨k, n, hk, rfl, HC, rfl⟩ := hrel
    by_cases hlt : k < b.size
    · by_cases hla : k < a.size
      · have hd : decide ((a.size : Int) ≤ (k : Int)) = false := by simp; omega
        have hi1 : (0 : Int) ≤ (k : Int) ∧ (k : Int) < (a.size : Int) := by omega
        have hi2 : (0 : Int) ≤ (k : Int) ∧ (k : Int) < (b.size : Int) := by omega
        have HS : Hid (Op.bytesLess (a.data.toList.drop k) (b.data.toList.drop k) = (decide (a[k].toNat < b[k].toNat) || (decide (a[k].toNat = b[k].toNat) && Op.bytesLess (a.data.toList.drop (k + 1)) (b.data.toList.drop (k + 1))))) := less_step a b k hla hlt
        go_wp2
        go_quiet (fail)
        by_cases h1 : a[k].toNat < b[k].toNat
        · have h1i : (a[k].toNat : Int) < (b[k].toNat : Int) := by omega
          have HT : Hid (Op.bytesLess a.data.toList b.data.toList = true) := by
            show _ = _
            rw [← HC.out, HS.out]; simp [h1]
          go_wp2
          go_ret
          exact ⟨ret_bool (HL.out.trans HT.out).symm, _, by first | rfl | exact World.drewN_drewN _ _ _⟩
        · have h1i : ¬ (a[k].toNat : Int) < (b[k].toNat : Int) := by omega
          go_wp2
          go_quiet (fail)
          by_cases h2 : b[k].toNat < a[k].toNat
          · have h2i : (b[k].toNat : Int) < (a[k].toNat : Int) := by omega
            have HT : Hid (Op.bytesLess a.data.toList b.data.toList = false) := by
              show _ = _
              rw [← HC.out, HS.out]; simp [h1]; intro h; omega
            go_wp2
            go_ret
            exact ⟨ret_bool (HL.out.trans HT.out).symm, _, by first | rfl | exact World.drewN_drewN _ _ _⟩
          · have h2i : ¬ (b[k].toNat : Int) < (a[k].toNat : Int) := by omega
            have HC2 : Hid (Op.bytesLess (a.data.toList.drop (k + 1)) (b.data.toList.drop (k + 1)) = Op.bytesLess a.data.toList b.data.toList) := by
              show _ = _
              rw [← HC.out, HS.out]; simp [show a[k].toNat = b[k].toNat by omega]
            go_wp2
            go_roundw
            case rel => exact ⟨k + 1, _, by omega, by go_num, HC2, rfl⟩
            case measure => simp [intOf]; omega
      · have hd : decide ((a.size : Int) ≤ (k : Int)) = true := by simp; omega
        have HT : Hid (Op.bytesLess a.data.toList b.data.toList = true) := by
          show _ = _
          rw [← HC.out]; exact less_nil b _ k hlt (List.drop_eq_nil_of_le (by simp; omega))
        go_wp2
        go_quiet (fail)
        go_wp2
        go_ret
        exact ⟨ret_bool (HL.out.trans HT.out).symm, _, by first | rfl | exact World.drewN_drewN _ _ _⟩
    · have HT : Hid (Op.bytesLess a.data.toList b.data.toList = false) := by
        show _ = _
        rw [← HC.out]; exact less_end b _ k hlt
      go_wp2
      go_ret
      exact ⟨ret_bool (HL.out.trans HT.out).symm, n, rfl⟩


def startsB (s p : List UInt8) : Bool := decide (p.length ≤ s.length) && (s.take p.length == p)

theorem extract_take (s : ByteArray) (k : Nat) : (s.extract 0 k).data.toList = s.data.toList.take k := by
  rw [ByteArray.data_extract]
  simp

set_option maxHeartbeats 400000 in
theorem starts_calls (s p : ByteArray) (w : World) (hs : s.size ≤ 281474976702464) (hp : p.size ≤ 281474976702464) :
    Calls Tryz.prog 108 #[.string s, .string p] w fun e w' => e = .returned (.bool (startsB s.data.toList p.data.toList)) ∧ w' = w := by
  by_cases h : p.size ≤ s.size
  · have hi : (p.size : Int) ≤ (s.size : Int) := by omega
    have hd : decide ((p.size : Int) ≤ (s.size : Int)) = true := by simpa using h
    go_enter Tryz.func108, Tryz.ntmps108
    go_wp2
    go_light
    go_ret
    refine ⟨ret_bool ?_, rfl⟩
    rw [ByteArray.toList_eq, ByteArray.toList_eq, extract_take]
    simp [startsB, h]
  · have hd : decide ((p.size : Int) ≤ (s.size : Int)) = false := by simp; omega
    go_enter Tryz.func108, Tryz.ntmps108
    go_wp2
    go_ret
    refine ⟨ret_bool ?_, rfl⟩
    simp [startsB, h]


/-- .. over the plain order. -/
theorem less_lt (a b : ByteArray) : Op.bytesLess a.toList b.toList = decide (Lt a.data.toList b.data.toList) := by
  rw [ByteArray.toList_eq, ByteArray.toList_eq, less_dec]
end Go.Proofs.YtdmhffbohnfdlaaGreat
