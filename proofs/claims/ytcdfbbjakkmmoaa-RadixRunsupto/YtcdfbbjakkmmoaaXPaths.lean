/- The document's sorted lists: Paths. -/
import Derived.Test.YtcdfbbjakkmmoaaXWith
import Derived.Deep.RegionHeld3
import Derived.Deep.CutRange
namespace Go.Proofs.Ytcdfbbjakkmmoaa
open Go.RowKit
set_option linter.unusedVariables false

theorem OwnV.made (w : World) (e : TypeId) (l : List Value) (hl : l.length ≤ 1000) : OwnV (w.alloc (.cells l.toArray e)) w.heap.size e (.slice (some ⟨w.heap.size, 0, none⟩) l.length l.length) l := by
  refine ⟨by simp, .inr ⟨w.heap.size, l.length, l.toArray, rfl, Nat.le_refl _, heap_alloc_new _ _, Nat.le_refl _, by unfold maxLen; omega, by simp, by simp⟩⟩

theorem pathsN_zero (ks : List ByteArray) : strs (pathsN ks 0) = [Value.string ⟨#[]⟩] := rfl
theorem pathsN_step (ks : List ByteArray) (i : Nat) (hi : i < ks.length) : pathsN ks (i + 1) = withK (if i = 0 then pathsN ks i else withK (pathsN ks i) (commonB (ks.getD (i - 1) ⟨#[]⟩) (ks.getD i ⟨#[]⟩))) ks[i] := by
  conv => lhs; unfold pathsN
  congr 1
  simp [hi]

set_option maxRecDepth 100000 in
set_option maxHeartbeats 1600000 in
theorem paths_calls (x : Sv) (ks : List ByteArray) (w : World) (hx : x.At w) (hv : x.vs = strs ks) (hz : ∀ p ∈ ks, p.size ≤ 140737488351296) (hl : ks.length ≤ 5864062014650) :
    Calls Try.prog 57 #[.slice x.ao ks.length x.cap] w fun e w' => ∃ ao' n' cap', e = .returned (.slice ao' n' cap') ∧ OwnV w' w.heap.size 9 (.slice ao' n' cap') (strs (pathsN ks ks.length)) ∧ Below w.heap.size w w' := by
  have HX : Hid (∀ i (hi : i < ks.length), ∃ b off, x.ao = some ⟨b, off, none⟩ ∧ w.cell? ⟨b, off + i, none⟩ = some (.string ks[i])) := fun i hi => hx.str hv i hi
  have HZ : Hid (∀ p ∈ ks, p.size ≤ 140737488351296) := hz
  clear hx hv hz
  obtain ⟨xao, xcap, xvs⟩ := x
  dsimp only at HX ⊢
  go_enter Try.func57, Try.ntmps57
  go_wp2_with fail
  have HO0 : Hid (OwnV (w.alloc (.cells #[.string ⟨#[]⟩] 9)) w.heap.size 9 (.slice (some ⟨w.heap.size, 0, none⟩) 1 1) (strs (pathsN ks 0))) := OwnV.made w 9 [.string ⟨#[]⟩] (by decide)
  have HB0 : Hid (Below w.heap.size w (w.alloc (.cells #[.string ⟨#[]⟩] 9))) := (Below.refl _ w).alloc (Nat.le_refl _) _
  go_loopw [3, 4] (fun o i wr => ∃ (j : Nat) (ao : Option Addr) (n cap : Nat), j ≤ ks.length ∧ i = .int .i64 j ∧ o = .slice ao n cap ∧ Hid (OwnV wr w.heap.size 9 (.slice ao n cap) (strs (pathsN ks j))) ∧ Hid (Below w.heap.size w wr)) (fun _ i _ => ks.length - (intOf i).toNat)
  case atStart => exact ⟨0, _, 1, 1, Nat.zero_le _, rfl, rfl, HO0, HB0⟩
  case round =>
    obtain ⟨j, ao, n, cap, hj, rfl, rfl, HO, HB⟩ := hrel
    by_cases hlt : j < ks.length
    · obtain ⟨bb, off, rfl, hc⟩ := HX.out j hlt
      have hbb : bb < w.heap.size := World.block_lt_of_cell? w _ hc
      have hc' : wr.cell? ⟨bb, off + j, none⟩ = some (.string ks[j]) := by rw [HB.out.cell (by exact hbb)]; exact hc
      have hBs := HB.out.size
      have HP : Hid (SortedK (pathsN ks j) ∧ (∀ p ∈ pathsN ks j, p.size ≤ 140737488351296) ∧ (pathsN ks j).length ≤ 2 * j + 1) := ⟨pathsN_sorted ks j, pathsN_size HZ.out j, pathsN_len ks j⟩
      have hkz := HZ.out _ (List.getElem_mem hlt)
      by_cases h0 : j = 0
      · subst h0
        have hg0 : ¬ (((0 : Nat) : Int) > 0) := by omega
        simp only [Nat.add_zero] at hc'
        have HW := with_calls (.slice ao n cap) (pathsN ks 0) ks[0] wr w.heap.size HO.out HP.out.1 HP.out.2.1 hkz (by have := HP.out.2.2; omega) hBs
        rw [show withK (pathsN ks 0) ks[0] = pathsN ks (0 + 1) by rw [pathsN_step ks 0 hlt]; rfl] at HW
        go_wp2_with fail
        refine HW.mono ?_
        clear HW
        rintro e w2 ⟨ao', n', cap', rfl, ho2, hg2⟩
        have HO2 : Hid (OwnV w2 w.heap.size 9 (.slice ao' n' cap') (strs (pathsN ks (0 + 1)))) := ho2
        have HB2 : Hid (Below w.heap.size w w2) := HB.out.trans (hg2.toBelow hBs (fun k hk => (HO.out.lt k hk).1))
        clear ho2 hg2 hc' hBs HO HB
        go_wp2
        go_roundw
        case rel => exact ⟨0 + 1, ao', n', cap', by omega, rfl, rfl, HO2, HB2⟩
        case measure => simp [intOf]; omega
      · have hg0 : ((j : Nat) : Int) > 0 := by omega
        have hg1 : 0 < j := by omega
        obtain ⟨bb2, off2, he2, hcp⟩ := HX.out (j - 1) (by omega)
        simp only [Option.some.injEq, Addr.mk.injEq] at he2
        obtain ⟨rfl, rfl, -⟩ := he2
        have hcp' : wr.cell? ⟨bb, off + (j - 1), none⟩ = some (.string (ks[j - 1]'(by omega))) := by rw [HB.out.cell (by exact hbb)]; exact hcp
        have hjj : (j : Int) - 1 = ((j - 1 : Nat) : Int) := by omega
        have i2 : (0 : Int) ≤ (j : Int) ∧ (j : Int) < (ks.length : Int) := by omega
        have i3 : j - 1 < ks.length := by omega
        obtain ⟨i, hi⟩ : ∃ i : Int, (j : Int) - 1 = i := ⟨_, rfl⟩
        have i4 : (0 : Int) ≤ i := by omega
        have i5 : i < (ks.length : Int) := by omega
        have i6 : i.toNat = j - 1 := by omega
        have i7 : IntKind.i64.wrap i = i := by rw [IntKind.wrap_i64]; omega
        clear hjj
        have hpz := HZ.out _ (List.getElem_mem (show j - 1 < ks.length by omega))
        obtain ⟨cb, hcb⟩ : ∃ cb, cb = commonB (ks[j - 1]'(by omega)) ks[j] := ⟨_, rfl⟩
        have HCB : Hid (cb = commonB (ks[j - 1]'(by omega)) ks[j]) := hcb
        clear hcb
        have HC := commonD_calls (ks[j - 1]'(by omega)) ks[j] wr.drew hpz hkz
        rw [← HCB.out] at HC
        have hcbz : cb.size ≤ 140737488351296 := by rw [HCB.out]; exact Nat.le_trans (commonB_size _ _) hpz
        have HN : Hid (withK (withK (pathsN ks j) cb) ks[j] = pathsN ks (j + 1)) := by
          show _ = _
          rw [pathsN_step ks j hlt, if_neg h0, HCB.out]
          simp [hlt, show j - 1 < ks.length by omega]
        clear hc hcp
        go_wp2_with fail
        go_cut [3] from 14 to 25 (fun s3 wx => ∃ (ao : Option Addr) (n cap : Nat), s3 = .slice ao n cap ∧ Hid (OwnV wx w.heap.size 9 (.slice ao n cap) (strs (withK (pathsN ks j) cb))) ∧ Hid (Below w.heap.size w wx))
        case first =>
          go_region_held3 (fun W => W.cell? ⟨bb, off + j, none⟩ = some (.string ks[j]) ∧ W.cell? ⟨bb, off + (j - 1), none⟩ = some (.string (ks[j - 1]'(by omega)))) (first | (exact q6) | (exact q5) | go_keep)
            (first
              | (go_at_call 70
                 refine HC.mono ?_
                 rintro e w5 ⟨rfl, nq, hw5⟩
                 have HB5 : Hid (Below wr.heap.size wr w5) := by rw [hw5]; exact ⟨rfl, rfl, rfl, Nat.le_refl _, fun _ _ => rfl⟩
                 have q5 : w5.cell? ⟨bb, off + j, none⟩ = some (.string ks[j]) ∧ w5.cell? ⟨bb, off + (j - 1), none⟩ = some (.string (ks[j - 1]'(by omega))) := by rw [hw5]; exact ⟨hc', hcp'⟩
                 have HO5 : Hid (OwnV w5 w.heap.size 9 (.slice ao n cap) (strs (pathsN ks j))) := HO.out.below HB5.out
                 have hz5 : w.heap.size ≤ w5.heap.size := Nat.le_trans hBs HB5.out.size
                 have HW := with_calls (.slice ao n cap) (pathsN ks j) cb w5 w.heap.size HO5.out HP.out.1 HP.out.2.1 hcbz (by have := HP.out.2.2; omega) hz5
                 clear hw5 HC)
              | (go_at_call 69
                 refine HW.mono ?_
                 rintro e w6 ⟨ao', n', cap', rfl, ho6, hg6⟩
                 have HO6 : Hid (OwnV w6 w.heap.size 9 (.slice ao' n' cap') (strs (withK (pathsN ks j) cb))) := ho6
                 have HB6 : Hid (Below w.heap.size w w6) := (HB.out.trans (HB5.out.mono hBs)).trans (hg6.toBelow hz5 (fun k hk => (HO5.out.lt k hk).1))
                 have q6 : w6.cell? ⟨bb, off + j, none⟩ = some (.string ks[j]) ∧ w6.cell? ⟨bb, off + (j - 1), none⟩ = some (.string (ks[j - 1]'(by omega))) := by
                   obtain ⟨_, _, e1, h1⟩ := HX.out j hlt
                   obtain ⟨_, _, e2, h2⟩ := HX.out (j - 1) (by omega)
                   simp only [Option.some.injEq, Addr.mk.injEq] at e1 e2
                   obtain ⟨rfl, rfl, -⟩ := e1
                   obtain ⟨rfl, rfl, -⟩ := e2
                   exact ⟨(HB6.out.cell (by exact hbb)).trans h1, (HB6.out.cell (by exact hbb)).trans h2⟩
                 clear ho6 hg6 HW))
          all_goals go_wp2
          all_goals go_meet
          all_goals exact ⟨ao', n', cap', rfl, HO6, HB6⟩
        case rest =>
          obtain ⟨ao1, n1, cap1, rfl, HO1, HB1⟩ := hcut
          obtain ⟨_, _, e1, h1⟩ := HX.out j hlt
          simp only [Option.some.injEq, Addr.mk.injEq] at e1
          obtain ⟨rfl, rfl, -⟩ := e1
          have hc1 : wc.cell? ⟨bb, off + j, none⟩ = some (.string ks[j]) := (HB1.out.cell (by exact hbb)).trans h1
          have hBs1 := HB1.out.size
          have HW := with_calls (.slice ao1 n1 cap1) (withK (pathsN ks j) cb) ks[j] wc w.heap.size HO1.out (withK_sorted HP.out.1 _) (fun q hq => by
            rcases mem_withK.1 hq with rfl | hq
            · exact hcbz
            · exact HP.out.2.1 q hq) hkz (by have h3 := HP.out.2.2; have h4 := withK_len (pathsN ks j) cb; omega) hBs1
          rw [HN.out] at HW
          clear hc' hcp' HO HB h1 HC
          go_wp2_with fail
          refine HW.mono ?_
          clear HW
          rintro e w2 ⟨ao', n', cap', rfl, ho2, hg2⟩
          have HO2 : Hid (OwnV w2 w.heap.size 9 (.slice ao' n' cap') (strs (pathsN ks (j + 1)))) := ho2
          have HB2 : Hid (Below w.heap.size w w2) := HB1.out.trans (hg2.toBelow hBs1 (fun k hk => (HO1.out.lt k hk).1))
          clear ho2 hg2 hc1 hBs1 HO1 HB1
          go_wp2
          go_roundw
          case rel => exact ⟨j + 1, ao', n', cap', by omega, by go_num, rfl, HO2, HB2⟩
          case measure => simp [intOf]; omega
    · have hjl : j = ks.length := by omega
      subst hjl
      go_wp2
      go_ret
      exact ⟨_, _, _, rfl, HO.out, HB.out⟩
end Go.Proofs.Ytcdfbbjakkmmoaa
