/- Layer 4 (walk): next. -/
import Derived.Test.YteelgkmkeaiojaaXGive
import Derived.Deep.RegionHeld3
namespace Go.Proofs.Yteelgkmkeaiojaa
open Go.RowKit Go.Shelf
set_option linter.unusedVariables false

theorem drop_pre {p a b : List UInt8} (ha : p <+: a) (hb : p <+: b) : b.drop p.length <+: a.drop p.length ↔ b <+: a := by
  obtain ⟨x, rfl⟩ := ha
  obtain ⟨y, rfl⟩ := hb
  rw [List.drop_left, List.drop_left, List.prefix_append_right_inj]

def nodeO : Option Tr → Value
  | some c => nodeV c
  | none => .agg #[.pointer none]
def ptrO : Option Tr → Option Addr
  | some c => some ⟨c.a, 0, none⟩
  | none => none
theorem nodeO_eq (o : Option Tr) : nodeO o = .agg #[.pointer (ptrO o)] := by cases o <;> rfl

structure NwI (W : World) (t : Tr) (rb nb kb : Nat) (M : Array Value) (wr : World) : Prop where
  below : Below W.heap.size W wr
  rblk : wr.heap[rb]? = some (.cells #[.pointer none] 59)
  nblk : wr.heap[nb]? = some (.cells #[.pointer (some ⟨t.a, 0, none⟩)] 59)
theorem NwI.keep {W : World} {t : Tr} {rb nb kb : Nat} {M : Array Value} {wr wr' : World} (h : NwI W t rb nb kb M wr) (hb : Below wr.heap.size wr wr') : NwI W t rb nb kb M wr' :=
  ⟨h.below.trans (hb.mono h.below.size), (hb.block _ (lt_of_heap h.rblk)).trans h.rblk, (hb.block _ (lt_of_heap h.nblk)).trans h.nblk⟩

set_option maxRecDepth 100000 in
set_option maxHeartbeats 4000000 in
theorem nextW_calls (t : Tr) (k : ByteArray) (W : World) (ht : TAt nR W t) (hw : WF t) (hp : t.path <+: kyb k) (hk : k.size ≤ 140737488351232) :
    Calls Try.prog 39 #[nodeV t, .string k] W fun e W' => e = .returned (.tuple #[nodeO (nx t (kyb k)), .bool (nx t (kyb k)).isSome]) ∧ Below W.heap.size W W' := by
  obtain ⟨w2, HW2⟩ : ∃ w2, Hid (w2 = (W.alloc (.cells #[.pointer (some ⟨t.a, 0, none⟩)] 59)).alloc (.cells #[.pointer none] 59)) := ⟨_, rfl⟩
  have s1 : (W.alloc (.cells #[.pointer (some ⟨t.a, 0, none⟩)] 59)).heap.size = W.heap.size + 1 := by simp [World.size_alloc]
  have hb2 : Below W.heap.size W w2 := by rw [HW2.out]; exact ((Below.refl _ _).alloc (Nat.le_refl _) _).alloc (by omega) _
  have q1 : w2.heap[W.heap.size]? = some (.cells #[.pointer (some ⟨t.a, 0, none⟩)] 59) := by rw [HW2.out, Below.heap_alloc _ _ _ (by omega)]; exact heap_alloc_new _ _
  have q2 : w2.heap[W.heap.size + 1]? = some (.cells #[.pointer none] 59) := by
    have := heap_alloc_new (W.alloc (.cells #[.pointer (some ⟨t.a, 0, none⟩)] 59)) (.cells #[.pointer none] 59)
    rw [s1] at this
    rw [HW2.out]; exact this
  have k1 : w2.cell? ⟨W.heap.size, 0, none⟩ = some (.pointer (some ⟨t.a, 0, none⟩)) := by rw [cell_of_blk q1]; rfl
  have HI2 : Hid (∀ kb M, NwI W t (W.heap.size + 1) W.heap.size kb M w2) := fun kb M => ⟨hb2, q2, q1⟩
  have HT : Hid (TAt nR W t ∧ WF t ∧ t.path <+: kyb k) := ⟨ht, hw, hp⟩
  have hle : t.p.size ≤ k.size := by have := hp.length_le; rwa [path_length, kyb_len] at this
  have hfew := hw.few
  have HP := path_calls (R := nR) t w2 (ht.keep hb2)
  rw [HW2.out] at k1
  clear ht hw hp q1 q2 hb2 s1
  unfold nodeV
  unfold nodeV at HP
  go_enter Try.func39, Try.ntmps39
  go_wp2_with fail
  rw [← HW2.out]
  clear HW2 k1
  refine HP.mono ?_
  clear HP
  rintro e w3 ⟨rfl, hb3⟩
  have HI3 : Hid (∀ kb M, NwI W t (W.heap.size + 1) W.heap.size kb M w3) := fun kb M => (HI2.out kb M).keep hb3
  have k3 : w3.cell? ⟨W.heap.size, 0, none⟩ = some (.pointer (some ⟨t.a, 0, none⟩)) := by rw [cell_of_blk (HI3.out 0 #[]).nblk]; rfl
  have HK := kids_blk (R := nR) t w3 (HT.out.1.keep (HI3.out 0 #[]).below) (by omega)
  unfold nodeV at HK
  clear hb3 HI2
  go_wp2_with fail
  refine HK.mono ?_
  clear HK
  rintro e w4 ⟨kb, rfl, hb4, hkb, M, hM, hMs, hMc⟩
  have HI4 : Hid (NwI W t (W.heap.size + 1) W.heap.size kb M w4) := (HI3.out kb M).keep hb4
  have HM4 : Hid (w4.heap[kb]? = some (.cells M 59)) := hM
  have HMC : Hid (∀ i (h : i < t.ks.length), M[i]? = some (.pointer (some ⟨t.ks[i].a, 0, none⟩))) := hMc
  clear hb4 hM hMc k3 HI3
  go_wp2_with fail
  go_loopw [15] (fun i wr => ∃ j : Nat, j ≤ t.ks.length ∧ i = .int .i64 j ∧ Hid (NwI W t (W.heap.size + 1) W.heap.size kb M wr) ∧ Hid (wr.heap[kb]? = some (.cells M 59)) ∧ Hid (∀ i (h : i < t.ks.length), i < j → ¬ t.ks[i].path <+: kyb k)) (fun i _ => t.ks.length - (intOf i).toNat)
  case atStart => exact ⟨0, Nat.zero_le _, rfl, HI4, HM4, fun i _ h => absurd h (Nat.not_lt_zero i)⟩
  case round =>
    obtain ⟨j, hj, rfl, HI, HM, HNO⟩ := hrel
    clear HI4 HM4
    by_cases hlt : j < t.ks.length
    · have hcm : t.ks[j] ∈ t.ks := List.getElem_mem hlt
      obtain ⟨c, hcc⟩ : ∃ c, c = t.ks[j] := ⟨_, rfl⟩
      rw [← hcc] at hcm
      have kc : wr.cell? ⟨kb, j, none⟩ = some (.pointer (some ⟨c.a, 0, none⟩)) := by rw [cell_of_blk HM.out, HMC.out j hlt, hcc]
      have HCC : Hid (c = t.ks[j]) := hcc
      clear hcc
      obtain ⟨w5, HW5⟩ : ∃ w5, Hid (w5 = wr.alloc (.cells #[.pointer (some ⟨c.a, 0, none⟩)] 59)) := ⟨_, rfl⟩
      have hb5 : Below wr.heap.size wr w5 := by rw [HW5.out]; exact (Below.refl _ _).alloc (Nat.le_refl _) _
      have q5 : w5.heap[wr.heap.size]? = some (.cells #[.pointer (some ⟨c.a, 0, none⟩)] 59) := by rw [HW5.out]; exact heap_alloc_new _ _
      have k5 : w5.cell? ⟨wr.heap.size, 0, none⟩ = some (.pointer (some ⟨c.a, 0, none⟩)) := by rw [cell_of_blk q5]; rfl
      have hTc := HT.out.1.sub' c hcm
      have hext := HT.out.2.1.ext' c hcm
      have hcle : t.p.size ≤ c.p.size := Nat.le_of_lt hext.2
      have hcsz := hTc.psz'
      have HI5 : Hid (NwI W t (W.heap.size + 1) W.heap.size kb M w5) := HI.out.keep hb5
      have HM5 : Hid (w5.heap[kb]? = some (.cells M 59)) := (hb5.block _ (lt_of_heap HM.out)).trans HM.out
      have HPC := path_calls (R := nR) c w5.drew ((hTc.keep HI5.out.below).keep ⟨rfl, rfl, rfl, Nat.le_refl _, fun _ _ => rfl⟩)
      have e1 : (c.p.extract t.p.size c.p.size).data.toList = c.path.drop t.path.length := by rw [path_length]; exact extract_drop _ _
      have e2 : (k.extract t.p.size k.size).data.toList = (kyb k).drop t.path.length := by rw [path_length]; exact extract_drop _ _
      have z1 : (c.p.extract t.p.size c.p.size).size ≤ 140737488351232 := by
        have h1 := congrArg List.length e1
        simp only [List.length_drop, path_length] at h1
        have h2 : (c.p.extract t.p.size c.p.size).data.toList.length = (c.p.extract t.p.size c.p.size).size := by simp
        omega
      have z2 : (k.extract t.p.size k.size).size ≤ 140737488351232 := by
        have h1 := congrArg List.length e2
        simp only [List.length_drop, path_length, kyb_len] at h1
        have h2 : (k.extract t.p.size k.size).data.toList.length = (k.extract t.p.size k.size).size := by simp
        omega
      have HH := fun W2 => hasPrefix_calls (k.extract t.p.size k.size) (c.p.extract t.p.size c.p.size) W2 (by omega) (by omega)
      obtain ⟨bb, hbb⟩ : ∃ b, b = begB (k.extract t.p.size k.size).data.toList (c.p.extract t.p.size c.p.size).data.toList := ⟨_, rfl⟩
      rw [← hbb] at HH
      have HBB : Hid (bb = true ↔ c.path <+: kyb k) := by
        show _ ↔ _
        rw [hbb, e1, e2]
        unfold begB
        rw [List.isPrefixOf_iff_prefix]
        exact drop_pre HT.out.2.2 hext.1
      have i1 : (0 : Int) ≤ (t.p.size : Int) ∧ (t.p.size : Int) ≤ (c.p.size : Int) := by omega
      have i2 : (0 : Int) ≤ (t.p.size : Int) ∧ (t.p.size : Int) ≤ (k.size : Int) := by omega
      have hwl := lt_of_heap q5
      unfold nodeV at HPC
      clear hb5 q5 hTc hext HI HM hbb e1 e2 z1 z2
      go_wp2_with fail
      rw [← HW5.out]
      clear HW5
      go_cut [26] from 19 to 26 (fun s26 wx => s26 = .bool bb ∧ Hid (Below w5.heap.size w5 wx))
      case first =>
        go_region_held3 (fun X => X.cell? ⟨wr.heap.size, 0, none⟩ = some (.pointer (some ⟨c.a, 0, none⟩))) (first | (exact q7) | (exact q6) | go_keep)
          (first
            | (go_at_call 57
               refine HPC.mono ?_
               rintro e w6 ⟨rfl, hb6⟩
               have hb6' : Below w5.heap.size w5 w6 := ⟨hb6.os, hb6.tape, hb6.output, hb6.size, hb6.block⟩
               have q6 : w6.cell? ⟨wr.heap.size, 0, none⟩ = some (.pointer (some ⟨c.a, 0, none⟩)) := (hb6'.cell hwl).trans k5
               have HB6 : Hid (Below w5.heap.size w5 w6) := hb6'
               clear hb6 hb6' HPC)
            | (go_at_call 33
               refine (HH w6).mono ?_
               rintro e w7 ⟨rfl, hw7⟩
               have q7 : w7.cell? ⟨wr.heap.size, 0, none⟩ = some (.pointer (some ⟨c.a, 0, none⟩)) := by rw [hw7]; exact q6
               have HB7 : Hid (Below w5.heap.size w5 w7) := by rw [hw7]; exact HB6.out
               clear hw7 HH))
        all_goals go_wp2
        all_goals go_meet
        all_goals exact ⟨rfl, HB7⟩
      case rest =>
        obtain ⟨rfl, HB⟩ := hcut
        clear HPC HH
        have HI8 : Hid (NwI W t (W.heap.size + 1) W.heap.size kb M wc) := HI5.out.keep HB.out
        have HM8 : Hid (wc.heap[kb]? = some (.cells M 59)) := (HB.out.block _ (lt_of_heap HM5.out)).trans HM5.out
        have k8 : wc.cell? ⟨wr.heap.size, 0, none⟩ = some (.pointer (some ⟨c.a, 0, none⟩)) := (HB.out.cell hwl).trans k5
        clear HI5 HM5 k5
        cases bb with
        | true =>
          have hpre := HBB.out.1 rfl
          have HNX : Hid (nx t (kyb k) = some c) := by
            show _ = _
            rw [HCC.out] at hpre ⊢
            exact nx_some HT.out.2.1 hlt hpre
          have r8 : wc.cell? ⟨W.heap.size + 1, 0, none⟩ = some (.pointer none) := by rw [cell_of_blk HI8.out.rblk]; rfl
          have f8 : wc.frozen? ⟨W.heap.size + 1, 0, none⟩ = false := frozen_of_blk HI8.out.rblk
          have HZ : Hid ((wc.setCell ⟨W.heap.size + 1, 0, none⟩ (.pointer (some ⟨c.a, 0, none⟩))).cell? ⟨W.heap.size + 1, 0, none⟩ = some (.pointer (some ⟨c.a, 0, none⟩))) := by
            show _ = _
            rw [cell_of_blk (setCell_blk HI8.out.rblk _)]; rfl
          go_wp2_with fail
          have hz := HZ.out
          refine bodyPost_ret (v := .tuple #[nodeV c, .bool true]) (by simp [results, Try.results39, go_sem, nodeV, hz]) rfl ?_
          refine ⟨by rw [HNX.out]; rfl, HI8.out.below.setCell (p := ⟨W.heap.size + 1, 0, none⟩) (by show W.heap.size ≤ W.heap.size + 1; omega) _⟩
        | false =>
          have hpre : ¬ c.path <+: kyb k := fun h => by have := HBB.out.2 h; cases this
          have HNO2 : Hid (∀ i (h : i < t.ks.length), i < j + 1 → ¬ t.ks[i].path <+: kyb k) := fun i h hi => by
            rcases Nat.lt_or_ge i j with h1 | h1
            · exact HNO.out i h h1
            · have : i = j := by omega
              subst this
              rw [← HCC.out]; exact hpre
          go_wp2_with fail
          go_roundw
          case rel => exact ⟨j + 1, by omega, by go_num, HI8, HM8, HNO2⟩
          case measure => simp [intOf]; omega
    · have hjl : j = t.ks.length := by omega
      subst hjl
      have HNX : Hid (nx t (kyb k) = none) := by
        show _ = _
        unfold nx
        rw [List.find?_eq_none]
        intro c hc hp
        obtain ⟨i, hi, rfl⟩ := List.getElem_of_mem hc
        exact HNO.out i hi hi (by simpa using hp)
      have r8 : wr.cell? ⟨W.heap.size + 1, 0, none⟩ = some (.pointer none) := by rw [cell_of_blk HI.out.rblk]; rfl
      have f8 : wr.frozen? ⟨W.heap.size + 1, 0, none⟩ = false := frozen_of_blk HI.out.rblk
      have HZ : Hid ((wr.setCell ⟨W.heap.size + 1, 0, none⟩ (.pointer none)).cell? ⟨W.heap.size + 1, 0, none⟩ = some (.pointer none)) := by
        show _ = _
        rw [cell_of_blk (setCell_blk HI.out.rblk _)]; rfl
      go_wp2_with fail
      have hz := HZ.out
      refine bodyPost_ret (v := .tuple #[.agg #[.pointer none], .bool false]) (by simp [results, Try.results39, go_sem, hz]) rfl ?_
      exact ⟨by rw [HNX.out]; rfl, HI.out.below.setCell (p := ⟨W.heap.size + 1, 0, none⟩) (by show W.heap.size ≤ W.heap.size + 1; omega) _⟩
end Go.Proofs.Yteelgkmkeaiojaa
