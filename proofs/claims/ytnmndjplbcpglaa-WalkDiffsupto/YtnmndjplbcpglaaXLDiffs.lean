/- Layer 4 (walk): the walk of WalkDiffs. -/
import Derived.Test.YtnmndjplbcpglaaXLDiffs0
import Derived.BigRegion
namespace Go.Proofs.Ytnmndjplbcpglaa
open Go.RowKit Go.Shelf
set_option linter.unusedVariables false

theorem docOf_ins (l : List En) : docOf l = insAll [] l := rfl

set_option maxRecDepth 100000 in
set_option maxHeartbeats 16000000 in
theorem walkDiffs_walk (ao1 ao2 : Option Addr) (cap1 cap2 : Nat) (l m : List En) (gone : ByteArray) (w : World) (hl : EntsAt w ao1 l) (hm : EntsAt w ao2 m) (hn : l.length + m.length ≤ 1048576) (hg : gone.size ≤ 140737488351296) :
    Calls Try.prog 4 #[.slice ao1 l.length cap1, .slice ao2 m.length cap2, .string gone] w fun e w' => e = .returned (.bool true) ∧ Below w.heap.size w w' := by
  have HL : Hid (EntsAt w ao1 l ∧ EntsAt w ao2 m) := ⟨hl, hm⟩
  have hnot : ∀ (x : Bool) (w : World), (Op.unary .not (.bool x)).run Try.prog w = .ok (.bool (!x)) w := fun _ _ => rfl
  clear hl hm
  go_enter Try.func4, Try.ntmps4
  go_wp2_with fail
  refine (walkAlive_calls w).mono ?_
  rintro e w1 ⟨rfl, hb1⟩
  have HB1 : Hid (Below w.heap.size w w1) := hb1
  have HBU := built4_calls ao1 cap1 l w1 (HL.out.1.below hb1) (by omega)
  clear hb1
  go_wp2_with fail
  refine HBU.mono ?_
  clear HBU
  rintro e w2 ⟨tbA, TA, neA, dA, psA, rfl, hHA, hDA⟩
  have hdl := docOf_len l
  obtain ⟨eA, heA⟩ : ∃ es, es = docOf l := ⟨_, rfl⟩
  rw [← heA] at hHA hDA hdl ⊢
  clear heA
  obtain ⟨w3, HW3⟩ : ∃ w3, Hid (w3 = w2.alloc (.cells (dA.cells eA.length psA.length) 28)) := ⟨_, rfl⟩
  have hb12 := hHA.good.below
  have hb3 : Below w2.heap.size w2 w3 := by rw [HW3.out]; exact (Below.refl _ _).alloc (Nat.le_refl _) _
  have q3 : w3.heap[w2.heap.size]? = some (.cells (dA.cells eA.length psA.length) 28) := by rw [HW3.out]; exact heap_alloc_new _ _
  have hb02 : Below w.heap.size w w2 := HB1.out.trans (hb12.mono HB1.out.size)
  have hb03 : Below w.heap.size w w3 := hb02.trans (hb3.mono hb02.size)
  have HBC := built4_calls ao2 cap2 m w3 (HL.out.2.below hb03) (by omega)
  obtain ⟨bm, hbm⟩ : ∃ b, b = w2.heap.size := ⟨_, rfl⟩
  rw [← hbm] at q3
  have HA3 : Hid (Tw.At w w3 ⟨tbA, TA, neA, l.length, eA, dA, psA⟩ ∧ Below w.heap.size w w3 ∧ w3.heap[bm]? = some (.cells (dA.cells eA.length psA.length) 28)) := ⟨⟨(hHA.keep hb3).rebase hb03, hDA.keep hb3⟩, hb03, q3⟩
  clear hHA hDA hb12 hb3 q3 hb02 hb03 HB1
  unfold Dv.cells
  unfold Dv.cells at HW3
  go_wp2_with fail
  rw [← HW3.out, ← hbm]
  clear HW3 hbm
  refine HBC.mono ?_
  clear HBC
  rintro e w4 ⟨tbC, TC, neC, dC, psC, rfl, hHC, hDC⟩
  have hdm := docOf_len m
  obtain ⟨eC, heC⟩ : ∃ es, es = docOf m := ⟨_, rfl⟩
  rw [← heC] at hHC hDC hdm ⊢
  clear heC
  obtain ⟨w5, HW5⟩ : ∃ w5, Hid (w5 = w4.alloc (.cells (dC.cells eC.length psC.length) 28)) := ⟨_, rfl⟩
  have hb34 := hHC.good.below
  have hb5 : Below w4.heap.size w4 w5 := by rw [HW5.out]; exact (Below.refl _ _).alloc (Nat.le_refl _) _
  have q5 : w5.heap[w4.heap.size]? = some (.cells (dC.cells eC.length psC.length) 28) := by rw [HW5.out]; exact heap_alloc_new _ _
  have hs5 : w5.heap.size = w4.heap.size + 1 := by rw [HW5.out, World.size_alloc]
  have hb35 : Below w3.heap.size w3 w5 := hb34.trans (hb5.mono hb34.size)
  have hb05 : Below w.heap.size w w5 := HA3.out.2.1.trans (hb35.mono HA3.out.2.1.size)
  obtain ⟨bk, hbk⟩ : ∃ b, b = w4.heap.size := ⟨_, rfl⟩
  have hbmk : bm < bk := by rw [hbk]; exact Nat.lt_of_lt_of_le (lt_of_heap HA3.out.2.2) hb34.size
  rw [← hbk] at q5 hs5
  have b5 := (hb35.block _ (lt_of_heap HA3.out.2.2)).trans HA3.out.2.2
  have m0 : w5.cell? ⟨bm, 0, none⟩ = some (.slice dA.k.ao eA.length dA.k.cap) := by rw [cell_of_blk b5]; rfl
  have m1 : w5.cell? ⟨bm, 1, none⟩ = some (.slice dA.v.ao eA.length dA.v.cap) := by rw [cell_of_blk b5]; rfl
  have m2 : w5.cell? ⟨bm, 2, none⟩ = some (.slice dA.l.ao eA.length dA.l.cap) := by rw [cell_of_blk b5]; rfl
  have m3 : w5.cell? ⟨bm, 3, none⟩ = some (.slice dA.p.ao psA.length dA.p.cap) := by rw [cell_of_blk b5]; rfl
  have m4 : w5.cell? ⟨bm, 4, none⟩ = some (.slice dA.m.ao psA.length dA.m.cap) := by rw [cell_of_blk b5]; rfl
  have H5 : Hid (Tw.At w w5 ⟨tbA, TA, neA, l.length, eA, dA, psA⟩ ∧ Tw.At w w5 ⟨tbC, TC, neC, m.length, eC, dC, psC⟩ ∧ Below w.heap.size w w5 ∧ w5.heap[bm]? = some (.cells (dA.cells eA.length psA.length) 28) ∧ w5.heap[bk]? = some (.cells (dC.cells eC.length psC.length) 28)) := ⟨HA3.out.1.keep hb35, ⟨(hHC.keep hb5).rebase hb05, hDC.keep hb5⟩, hb05, b5, q5⟩
  clear hHC hDC hb34 hb5 q5 hb35 hb05 b5 HA3
  unfold Dv.cells
  unfold Dv.cells at HW5
  go_wp2_with fail
  rw [← HW5.out, ← hbk]
  clear HW5 hbk
  go_region
  obtain ⟨w6, HW6⟩ : ∃ w6, Hid (w6 = (w5.alloc (.cells #[.slice dA.k.ao eA.length dA.k.cap, .slice dA.v.ao eA.length dA.v.cap, .slice dA.l.ao eA.length dA.l.cap, .slice dA.p.ao psA.length dA.p.cap, .slice dA.m.ao psA.length dA.m.cap] 28)).drew) := ⟨_, rfl⟩
  rw [← HW6.out]
  have hb6 : Below w5.heap.size w5 w6 := by rw [HW6.out]; exact ((Below.refl _ _).alloc (Nat.le_refl _) _).drew
  have q6 : w6.heap[bk + 1]? = some (.cells (dA.cells eA.length psA.length) 28) := by rw [HW6.out, ← hs5]; exact heap_alloc_new _ _
  obtain ⟨bn, hbn⟩ : ∃ b, b = bk + 1 := ⟨_, rfl⟩
  rw [← hbn] at q6 ⊢
  have HI6 : Hid (LdI w bm bk bn ⟨tbA, TA, neA, l.length, eA, dA, psA⟩ ⟨tbC, TC, neC, m.length, eC, dC, psC⟩ ⟨tbA, TA, neA, l.length + 0, insAll eA (m.take 0), dA, psA⟩ w6) :=
    ⟨H5.out.2.2.1.trans (hb6.mono H5.out.2.2.1.size), H5.out.1.keep hb6, H5.out.2.1.keep hb6, H5.out.1.keep hb6, (hb6.block _ (lt_of_heap H5.out.2.2.2.1)).trans H5.out.2.2.2.1, (hb6.block _ (lt_of_heap H5.out.2.2.2.2)).trans H5.out.2.2.2.2, q6, by have h1 := H5.out.2.2.1.size; omega, by omega, by omega⟩
  clear HW6 hb6 q6 hbn m0 m1 m2 m3 m4 H5 hs5 hbmk
  obtain ⟨A, hA⟩ : ∃ A : Tw, A = ⟨tbA, TA, neA, l.length, eA, dA, psA⟩ := ⟨_, rfl⟩
  obtain ⟨C, hC⟩ : ∃ C : Tw, C = ⟨tbC, TC, neC, m.length, eC, dC, psC⟩ := ⟨_, rfl⟩
  rw [← hA, ← hC] at HI6
  have HAC : Hid (A = ⟨tbA, TA, neA, l.length, eA, dA, psA⟩ ∧ C = ⟨tbC, TC, neC, m.length, eC, dC, psC⟩) := ⟨hA, hC⟩
  clear hA hC
  go_wp2_with fail
  go_loopw [11, 47] (fun b i wr => ∃ (j tbB : Nat) (TB : Tr) (neB : Int) (dN : Dv) (psN : List ByteArray), j ≤ m.length ∧ b = .pointer (some ⟨tbB, 0, none⟩) ∧ i = .int .i64 j ∧ Hid (LdI w bm bk bn A C ⟨tbB, TB, neB, l.length + j, insAll eA (m.take j), dN, psN⟩ wr)) (fun _ i _ => m.length - (intOf i).toNat)
  case atStart => exact ⟨0, tbA, _, _, _, _, Nat.zero_le _, rfl, rfl, HI6⟩
  case round =>
    obtain ⟨j, tbB, TB, neB, dN, psN, hj, rfl, rfl, HI⟩ := hrel
    clear HI6
    by_cases hlt : j < m.length
    · obtain ⟨b, off, rfl, c0, c1, hsz⟩ := (HL.out.2.below HI.out.below) j hlt
      have HNX : Hid (insAll eA (m.take (j + 1)) = insE (insAll eA (m.take j)) m[j].1 m[j].2) := insAll_take eA m j hlt
      obtain ⟨⟨k, v⟩, hkv⟩ : ∃ e, e = m[j] := ⟨_, rfl⟩
      rw [← hkv] at c0 c1 hsz HNX
      clear hkv
      simp only at c0 c1 hsz HNX
      have hel := HI.out.hB.len
      simp only at hel
      obtain ⟨eN, heN⟩ : ∃ es, es = insAll eA (m.take j) := ⟨_, rfl⟩
      rw [← heN] at HI HNX hel
      clear heN
      obtain ⟨w7, HW7⟩ : ∃ w7, Hid (w7 = wr.alloc (.cells #[.string k, .int .i64 v] 35)) := ⟨_, rfl⟩
      have hb7 : Below wr.heap.size wr w7 := by rw [HW7.out]; exact (Below.refl _ _).alloc (Nat.le_refl _) _
      have q7 : w7.heap[wr.heap.size]? = some (.cells #[.string k, .int .i64 v] 35) := by rw [HW7.out]; exact heap_alloc_new _ _
      have HI7 : Hid (LdI w bm bk bn A C ⟨tbB, TB, neB, l.length + j, eN, dN, psN⟩ w7 ∧ w7.heap[wr.heap.size]? = some (.cells #[.string k, .int .i64 v] 35)) := ⟨HI.out.keep hb7, q7⟩
      have HIN := insW_calls tbB TB neB (l.length + j) eN w w7 HI7.out.1.hB.held k v hsz (by omega)
      clear hb7 q7 HI
      go_wp2_with fail
      rw [← HW7.out]
      clear HW7 c0 c1
      refine HIN.mono ?_
      clear HIN
      rintro e w8 ⟨tb8, T8, ne8, r1, r2, rfl, hb8, hH8⟩
      have q8 := (hb8.block _ (lt_of_heap HI7.out.2)).trans HI7.out.2
      have e0 : w8.cell? ⟨wr.heap.size, 0, none⟩ = some (.string k) := by rw [cell_of_blk q8]; rfl
      have e1 : w8.cell? ⟨wr.heap.size, 1, none⟩ = some (.int .i64 v) := by rw [cell_of_blk q8]; rfl
      have HI8 : Hid (LdI w bm bk bn A C ⟨tbB, TB, neB, l.length + j, eN, dN, psN⟩ w8 ∧ Held w w8 tb8 T8 ne8 (l.length + j + 1) (insE eN k v)) := ⟨HI7.out.1.keep hb8, hH8⟩
      have b8 := HI8.out.1.bB
      have m0 : w8.cell? ⟨bn, 0, none⟩ = some (.slice dN.k.ao eN.length dN.k.cap) := by rw [cell_of_blk b8]; rfl
      have m1 : w8.cell? ⟨bn, 1, none⟩ = some (.slice dN.v.ao eN.length dN.v.cap) := by rw [cell_of_blk b8]; rfl
      have m2 : w8.cell? ⟨bn, 2, none⟩ = some (.slice dN.l.ao eN.length dN.l.cap) := by rw [cell_of_blk b8]; rfl
      have m3 : w8.cell? ⟨bn, 3, none⟩ = some (.slice dN.p.ao psN.length dN.p.cap) := by rw [cell_of_blk b8]; rfl
      have m4 : w8.cell? ⟨bn, 4, none⟩ = some (.slice dN.m.ao psN.length dN.m.cap) := by rw [cell_of_blk b8]; rfl
      have HR := insertD_calls dN eN psN k v 0 w8 HI8.out.1.hB.doc hsz (by omega)
      obtain ⟨es2, hes2⟩ : ∃ e, e = insE eN k v := ⟨_, rfl⟩
      rw [← hes2] at HR HI8 HNX
      obtain ⟨ps2, hps2⟩ : ∃ e, e = pathsN (keysOf es2) es2.length := ⟨_, rfl⟩
      rw [← hps2] at HR
      clear hes2 hps2 hb8 hH8 q8 b8 HI7
      unfold Dv.cells at HR
      go_wp2_with fail
      refine HR.mono ?_
      clear HR
      rintro e w9 ⟨d2, z2, rfl, hd9, hb9⟩
      have HI9 : Hid (LdI w bm bk bn A C ⟨tbB, TB, neB, l.length + j, eN, dN, psN⟩ w9 ∧ Tw.At w w9 ⟨tb8, T8, ne8, l.length + (j + 1), es2, d2, ps2⟩) := ⟨HI8.out.1.keep hb9, HI8.out.2.keep hb9, hd9⟩
      have b9 := HI9.out.1.bB
      have f0 : w9.cell? ⟨bn, 0, none⟩ = some (.slice dN.k.ao eN.length dN.k.cap) := by rw [cell_of_blk b9]; rfl
      have f1 : w9.cell? ⟨bn, 1, none⟩ = some (.slice dN.v.ao eN.length dN.v.cap) := by rw [cell_of_blk b9]; rfl
      have f2 : w9.cell? ⟨bn, 2, none⟩ = some (.slice dN.l.ao eN.length dN.l.cap) := by rw [cell_of_blk b9]; rfl
      have f3 : w9.cell? ⟨bn, 3, none⟩ = some (.slice dN.p.ao psN.length dN.p.cap) := by rw [cell_of_blk b9]; rfl
      have f4 : w9.cell? ⟨bn, 4, none⟩ = some (.slice dN.m.ao psN.length dN.m.cap) := by rw [cell_of_blk b9]; rfl
      have g0 : w9.frozen? ⟨bn, 0, none⟩ = false := frozen_of_blk b9
      have g1 : w9.frozen? ⟨bn, 1, none⟩ = false := frozen_of_blk b9
      have g2 : w9.frozen? ⟨bn, 2, none⟩ = false := frozen_of_blk b9
      have g3 : w9.frozen? ⟨bn, 3, none⟩ = false := frozen_of_blk b9
      have g4 : w9.frozen? ⟨bn, 4, none⟩ = false := frozen_of_blk b9
      obtain ⟨wz, HWZ⟩ : ∃ wz, Hid (wz = ((((w9.setCell ⟨bn, 0, none⟩ (.slice d2.k.ao es2.length d2.k.cap)).setCell ⟨bn, 1, none⟩ (.slice d2.v.ao es2.length d2.v.cap)).setCell ⟨bn, 2, none⟩ (.slice d2.l.ao es2.length d2.l.cap)).setCell ⟨bn, 3, none⟩ (.slice d2.p.ao ps2.length d2.p.cap)).setCell ⟨bn, 4, none⟩ (.slice d2.m.ao ps2.length d2.m.cap)) := ⟨_, rfl⟩
      have HIZ : Hid (LdI w bm bk bn A C ⟨tb8, T8, ne8, l.length + (j + 1), insAll eA (m.take (j + 1)), d2, ps2⟩ wz) := by
        show LdI _ _ _ _ _ _ _ _
        rw [HNX.out, HWZ.out]
        exact HI9.out.1.put HI9.out.2
      clear hd9 hb9 b9 HI8 HI9 m0 m1 m2 m3 m4 e0 e1 HNX
      go_wp2_with fail
      rw [← HWZ.out]
      go_roundw
      case rel => exact ⟨j + 1, tb8, T8, _, d2, ps2, by omega, rfl, by go_num, HIZ⟩
      case measure => simp [intOf]; omega
    · have hjl : j = m.length := by omega
      subst hjl
      rw [List.take_length] at HI
      obtain ⟨wq, hwq⟩ : ∃ wq, wq = wr := ⟨_, rfl⟩
      subst hwq
      have hel := HI.out.hB.len
      simp only at hel
      obtain ⟨eN, heN⟩ : ∃ es, es = insAll eA m := ⟨_, rfl⟩
      rw [← heN] at HI hel
      clear heN
      have HTR := trim_calls tbB TB neB (l.length + m.length) eN w wq HI.out.hB.held gone hg (by omega) (by omega)
      clear HL
      go_wp2_with fail
      refine HTR.mono ?_
      clear HTR
      rintro e w7 ⟨tb7, T7, ne7, rfl, hb7, hH7, -⟩
      have HI7 : Hid (LdI w bm bk bn A C ⟨tbB, TB, neB, l.length + m.length, eN, dN, psN⟩ w7 ∧ Held w w7 tb7 T7 ne7 (l.length + m.length) (leftE gone eN)) := ⟨HI.out.keep hb7, hH7.rebase (HI.out.below.trans (hb7.mono HI.out.below.size))⟩
      have b7 := HI7.out.1.bB
      have m0 : w7.cell? ⟨bn, 0, none⟩ = some (.slice dN.k.ao eN.length dN.k.cap) := by rw [cell_of_blk b7]; rfl
      have m1 : w7.cell? ⟨bn, 1, none⟩ = some (.slice dN.v.ao eN.length dN.v.cap) := by rw [cell_of_blk b7]; rfl
      have m2 : w7.cell? ⟨bn, 2, none⟩ = some (.slice dN.l.ao eN.length dN.l.cap) := by rw [cell_of_blk b7]; rfl
      have m3 : w7.cell? ⟨bn, 3, none⟩ = some (.slice dN.p.ao psN.length dN.p.cap) := by rw [cell_of_blk b7]; rfl
      have m4 : w7.cell? ⟨bn, 4, none⟩ = some (.slice dN.m.ao psN.length dN.m.cap) := by rw [cell_of_blk b7]; rfl
      have HRT := refTrim_calls dN eN psN gone 0 w7 HI7.out.1.hB.doc hg (by omega)
      obtain ⟨gc, hgc⟩ : ∃ g, g = (eN.filter (beg gone)).length := ⟨_, rfl⟩
      rw [← hgc] at HRT ⊢
      obtain ⟨eB, heB⟩ : ∃ es, es = leftE gone eN := ⟨_, rfl⟩
      rw [← heB] at HRT HI7
      clear hgc heB hb7 hH7 b7 HI
      unfold Dv.cells at HRT
      go_wp2_with fail
      refine HRT.mono ?_
      clear HRT
      rintro e w8 ⟨d8, ps8, z8, rfl, hD8, hb8⟩
      have HI8 : Hid (LdI w bm bk bn A C ⟨tbB, TB, neB, l.length + m.length, eN, dN, psN⟩ w8 ∧ Tw.At w w8 ⟨tb7, T7, ne7, l.length + m.length, eB, d8, ps8⟩) := ⟨HI7.out.1.keep hb8, HI7.out.2.keep hb8, hD8⟩
      have b8 := HI8.out.1.bB
      have f0 : w8.cell? ⟨bn, 0, none⟩ = some (.slice dN.k.ao eN.length dN.k.cap) := by rw [cell_of_blk b8]; rfl
      have f1 : w8.cell? ⟨bn, 1, none⟩ = some (.slice dN.v.ao eN.length dN.v.cap) := by rw [cell_of_blk b8]; rfl
      have f2 : w8.cell? ⟨bn, 2, none⟩ = some (.slice dN.l.ao eN.length dN.l.cap) := by rw [cell_of_blk b8]; rfl
      have f3 : w8.cell? ⟨bn, 3, none⟩ = some (.slice dN.p.ao psN.length dN.p.cap) := by rw [cell_of_blk b8]; rfl
      have f4 : w8.cell? ⟨bn, 4, none⟩ = some (.slice dN.m.ao psN.length dN.m.cap) := by rw [cell_of_blk b8]; rfl
      have g0 : w8.frozen? ⟨bn, 0, none⟩ = false := frozen_of_blk b8
      have g1 : w8.frozen? ⟨bn, 1, none⟩ = false := frozen_of_blk b8
      have g2 : w8.frozen? ⟨bn, 2, none⟩ = false := frozen_of_blk b8
      have g3 : w8.frozen? ⟨bn, 3, none⟩ = false := frozen_of_blk b8
      have g4 : w8.frozen? ⟨bn, 4, none⟩ = false := frozen_of_blk b8
      obtain ⟨w9, HW9⟩ : ∃ wz, Hid (wz = ((((w8.setCell ⟨bn, 0, none⟩ (.slice d8.k.ao eB.length d8.k.cap)).setCell ⟨bn, 1, none⟩ (.slice d8.v.ao eB.length d8.v.cap)).setCell ⟨bn, 2, none⟩ (.slice d8.l.ao eB.length d8.l.cap)).setCell ⟨bn, 3, none⟩ (.slice d8.p.ao ps8.length d8.p.cap)).setCell ⟨bn, 4, none⟩ (.slice d8.m.ao ps8.length d8.m.cap)) := ⟨_, rfl⟩
      have HI9 : Hid (LdI w bm bk bn ⟨tbA, TA, neA, l.length, eA, dA, psA⟩ ⟨tbC, TC, neC, m.length, eC, dC, psC⟩ ⟨tb7, T7, ne7, l.length + m.length, eB, d8, ps8⟩ w9) := by
        show LdI _ _ _ _ _ _ _ _
        rw [HW9.out, ← HAC.out.1, ← HAC.out.2]
        exact HI8.out.1.put HI8.out.2
      clear hD8 hb8 b8 HI7 HI8 HAC m0 m1 m2 m3 m4
      have lA := HI9.out.hA.len
      have lB := HI9.out.hB.len
      have lC := HI9.out.hC.len
      simp only at lA lB lC
      -- Diff(a, a)
      have hAA := HI9.out.hA.held.at HI9.out.hA.held.good.tree
      have HDA := diff_calls tbA TA neA l.length eA tbA TA neA l.length eA w9 hAA hAA (by omega) (by rw [diffE_same hAA.sorted]; simp)
      rw [diffE_same hAA.sorted] at HDA
      clear hAA
      go_wp2_with fail
      rw [← HW9.out]
      clear HW9 f0 f1 f2 f3 f4 g0 g1 g2 g3 g4
      refine HDA.mono ?_
      clear HDA
      rintro e wa ⟨v, rfl, hba, hva⟩
      obtain ⟨va, vc, hve, -⟩ := hva.changesC
      subst hve
      rw [List.length_nil]
      have HIA := HI9.out.keep hba
      clear hva hba HI9
      -- d, again
      obtain ⟨L1, hL1⟩ : ∃ L, L = diffE eA eB := ⟨_, rfl⟩
      have hl1 : L1.length ≤ 4194304 := by rw [hL1, diffE_merge]; have := merge_len eA eB; omega
      have HDD := diff_calls tbA TA neA l.length eA tb7 T7 ne7 (l.length + m.length) eB wa (HIA.hA.held.at HIA.hA.held.good.tree) (HIA.hB.held.at HIA.hB.held.good.tree) (by omega) (by rw [← hL1]; omega)
      rw [← hL1] at HDD
      have HIA : Hid (LdI w bm bk bn ⟨tbA, TA, neA, l.length, eA, dA, psA⟩ ⟨tbC, TC, neC, m.length, eC, dC, psC⟩ ⟨tb7, T7, ne7, l.length + m.length, eB, d8, ps8⟩ wa) := HIA
      go_wp2_with fail
      refine HDD.mono ?_
      clear HDD
      rintro e w10 ⟨vd, rfl, hb10, hvd⟩
      have hI10 := HIA.out.keep hb10
      have HDE := diff_calls tbA TA neA l.length eA tb7 T7 ne7 (l.length + m.length) eB w10 (hI10.hA.held.at hI10.hA.held.good.tree) (hI10.hB.held.at hI10.hB.held.good.tree) (by omega) (by rw [← hL1]; omega)
      rw [← hL1] at HDE
      have HL1 : Hid (L1 = diffE eA eB) := hL1
      have HVD : Hid (OwnG cgCells 50 2 w10 wa.heap.size vd L1 ∧ Below wa.heap.size wa w10) := ⟨hvd, hb10⟩
      clear hb10 hvd hI10 hL1
      go_wp2_with fail
      refine HDE.mono ?_
      clear HDE
      rintro e w11 ⟨vg, rfl, hb11, hvg⟩
      obtain ⟨ag, cg, hvge, hCg⟩ := hvg.changesC
      subst hvge
      have hDd : DdI wa w10 w11 vd L1.length w11 := ⟨HVD.out.2.trans (hb11.mono HVD.out.2.size), fun b _ _ => rfl, ⟨_, World.ownsRow.kept (row := none) HVD.out.1 ⟨hb11.os, hb11.tape, hb11.output, hb11.size, fun k hk _ => hb11.block k hk⟩ (Classical.em _)⟩, fun g hgb => .inl (World.ownsRow.lt HVD.out.1 g hgb).2, Nat.le_refl _⟩
      have HAG : Hid (∀ W, (∀ b, w10.heap.size ≤ b → b < w11.heap.size → W.heap[b]? = w11.heap[b]?) → CgAt W ag L1) := fun W hW i hi => by
        obtain ⟨b, off, ha, c0, c1⟩ := hCg i hi
        have hlt := World.block_lt_of_cell? w11 _ c0
        have hge : w10.heap.size ≤ b := (World.ownsRow.lt hvg b (by rw [ha]; rfl)).1
        exact ⟨b, off, ha, (World.cell?_of_block (w := w11) (a := ⟨b, off + i * 2, none⟩) (hW b hge hlt)).trans c0, (World.cell?_of_block (w := w11) (a := ⟨b, off + i * 2 + 1, none⟩) (hW b hge hlt)).trans c1⟩
      obtain ⟨ad, cd, hvde, -⟩ := HVD.out.1.changesC
      subst hvde
      have hwa : wa.heap.size ≤ w11.heap.size := hDd.below.size
      have HDD : Hid (DdI wa w10 w11 (.slice ad L1.length cd) L1.length w11) := hDd
      clear hb11 hvg hCg hDd HVD
      go_wp2_with fail
      go_loopw [105] (fun i w2 => ∃ q : Nat, q ≤ L1.length ∧ i = .int .i64 q ∧ Hid (DdI wa w10 w11 (.slice ad L1.length cd) L1.length w2)) (fun i _ => L1.length - (intOf i).toNat)
      case atStart => exact ⟨0, Nat.zero_le _, rfl, HDD⟩
      case round =>
        obtain ⟨q, hq, rfl, HI⟩ := hrel
        clear HDD
        by_cases hql : q < L1.length
        · obtain ⟨xs, hxs⟩ := HI.out.own
          obtain ⟨g, rfl⟩ : ∃ g, ad = some ⟨g, 0, none⟩ := by
            rcases hxs.2 with ⟨h0, h1⟩ | ⟨g, cap', cur, h0, -⟩
            · omega
            · simp only [Value.slice.injEq] at h0; exact ⟨g, h0.1⟩
          obtain ⟨⟨x0, y0⟩, z0⟩ := HI.out.cell (q * 2) (by omega)
          obtain ⟨⟨x1, y1⟩, z1⟩ := HI.out.cell (q * 2 + 1) (by omega)
          have i1 : (0 : Int) ≤ (q : Int) ∧ (q : Int) < (L1.length : Int) := by omega
          have HI6 : Hid (DdI wa w10 w11 (.slice (some ⟨g, 0, none⟩) L1.length cd) L1.length ((wr.setCell ⟨g, q * 2, none⟩ (.string ⟨#[109, 97, 114, 107]⟩)).setCell ⟨g, q * 2 + 1, none⟩ (.int .i64 9))) := (HI.out.set _).set _
          clear hxs HI
          go_wp2_with fail
          go_roundw
          case rel => exact ⟨q + 1, by omega, by go_num, HI6⟩
          case measure => simp [intOf]; omega
        · have hqe : q = L1.length := by omega
          subst hqe
          clear hlt hq
          obtain ⟨i0, hi, hz0, hz1, hz2⟩ := infoOf infoCg
          obtain ⟨wy, hwy⟩ : ∃ wy, wy = wr := ⟨_, rfl⟩
          subst hwy
          have HD0 : Hid (DdI wa w10 w11 (.slice ad L1.length cd) (L1.length + 0) wy) := HI.out
          clear HI
          go_wp2_with fail
          go_loopw [15, 18] (fun v i w2 => ∃ q : Nat, q ≤ 9 ∧ i = .int .i64 q ∧ Hid (DdI wa w10 w11 v (L1.length + q) w2)) (fun _ i _ => 9 - (intOf i).toNat)
          case atStart => exact ⟨0, by omega, rfl, HD0⟩
          case round =>
            obtain ⟨q, hq, rfl, HI⟩ := hrel
            clear HD0
            obtain ⟨v, hv⟩ : ∃ v, v = u15 := ⟨_, rfl⟩
            subst hv
            by_cases hq9 : q < 9
            · obtain ⟨xs, hxs⟩ := HI.out.own
              have dq : decide ((q : Int) < 9) = true := decide_eq_true (by omega)
              have hbs := HI.out.below.size
              have HX : Hid (wr.ownsRow wa.heap.size 50 2 v (L1.length + q) xs) := hxs
              clear hxs
              go_wp2_with (at_builtin; refine wpList_append_grew _ rfl (.tmp 117) (.tmp 120) 47 rfl wa.heap.size 50 i0 (.agg #[.string ⟨#[]⟩, .int .i64 0]) 2 24 Try.underlying47 hi hz0 hz1 hz2 rfl (by decide) v (L1.length + q) xs rfl (World.ownsRow.alloc HX.out _) ⟨wr.heap.size, 0, none⟩ 1 1 [.string ⟨#[]⟩, .int .i64 q] rfl rfl (cells_new wr [.string ⟨#[]⟩, .int .i64 q] 50) (by simp [Value.oneCell']) (by unfold maxLen; omega) (by omega) (by simp; omega) ?_)
              intro v8 w8 ho8 hg8 _
              have HI8 : Hid (DdI wa w10 w11 v8 (L1.length + (q + 1)) w8) := HI.out.app hwa ho8 hg8.ofAlloc
              clear ho8 hg8 HX HI
              go_wp2_with fail
              go_roundw
              case rel => exact ⟨q + 1, by omega, by go_num, HI8⟩
              case measure => simp [intOf]; omega
            · have hq' : q = 9 := by omega
              subst hq'
              have HF : Hid (LdI w bm bk bn ⟨tbA, TA, neA, l.length, eA, dA, psA⟩ ⟨tbC, TC, neC, m.length, eC, dC, psC⟩ ⟨tb7, T7, ne7, l.length + m.length, eB, d8, ps8⟩ wr ∧ CgAt wr ag L1) := ⟨HIA.out.keep HI.out.below, HAG.out wr HI.out.keep⟩
              clear HI HIA HAG hq
              obtain ⟨L2, hL2⟩ : ∃ L, L = diffE eB eA := ⟨_, rfl⟩
              have hl2 : L2.length ≤ 4194304 := by rw [hL2, diffE_merge]; have := merge_len eB eA; omega
              obtain ⟨L3, hL3⟩ : ∃ L, L = diffE eA eC := ⟨_, rfl⟩
              have hl3 : L3.length ≤ 4194304 := by rw [hL3, diffE_merge]; have := merge_len eA eC; omega
              have HLL : Hid (L1 = mergeD eA eB ∧ L2 = mergeD eB eA ∧ L3 = mergeD eA eC ∧ L2 = diffE eB eA ∧ L3 = diffE eA eC) := ⟨by rw [HL1.out, diffE_merge], by rw [hL2, diffE_merge], by rw [hL3, diffE_merge], hL2, hL3⟩
              clear hL2 hL3
              go_wp2_with fail
              refine wp_region_invG 23 (fun i v W => match i with
              | 0 => v = .slice ag L1.length cg ∧ CgAt W ag L1
              | 1 => v = .agg #[.slice dA.k.ao eA.length dA.k.cap, .slice dA.v.ao eA.length dA.v.cap, .slice dA.l.ao eA.length dA.l.cap, .slice dA.p.ao psA.length dA.p.cap, .slice dA.m.ao psA.length dA.m.cap]
              | 2 => v = .agg #[.slice d8.k.ao eB.length d8.k.cap, .slice d8.v.ao eB.length d8.v.cap, .slice d8.l.ao eB.length d8.l.cap, .slice d8.p.ao ps8.length d8.p.cap, .slice d8.m.ao ps8.length d8.m.cap]
              | 3 => ∃ x c, v = .slice x L1.length c ∧ CgAt W x L1
              | 4 => v = .bool true
              | 5 => v = .bool true
              | 6 => v = .pointer (some ⟨tb7, 0, none⟩)
              | 7 => v = .pointer (some ⟨tbA, 0, none⟩)
              | 8 => ∃ x c, v = .slice x L2.length c ∧ CgAt W x L2
              | 9 => v = .agg #[.slice d8.k.ao eB.length d8.k.cap, .slice d8.v.ao eB.length d8.v.cap, .slice d8.l.ao eB.length d8.l.cap, .slice d8.p.ao ps8.length d8.p.cap, .slice d8.m.ao ps8.length d8.m.cap]
              | 10 => v = .agg #[.slice dA.k.ao eA.length dA.k.cap, .slice dA.v.ao eA.length dA.v.cap, .slice dA.l.ao eA.length dA.l.cap, .slice dA.p.ao psA.length dA.p.cap, .slice dA.m.ao psA.length dA.m.cap]
              | 11 => ∃ x c, v = .slice x L2.length c ∧ CgAt W x L2
              | 12 => v = .bool true
              | 13 => v = .bool true
              | 14 => v = .bool true
              | 15 => v = .pointer (some ⟨tbA, 0, none⟩)
              | 16 => v = .pointer (some ⟨tbC, 0, none⟩)
              | 17 => ∃ x c, v = .slice x L3.length c ∧ CgAt W x L3
              | 18 => v = .agg #[.slice dA.k.ao eA.length dA.k.cap, .slice dA.v.ao eA.length dA.v.cap, .slice dA.l.ao eA.length dA.l.cap, .slice dA.p.ao psA.length dA.p.cap, .slice dA.m.ao psA.length dA.m.cap]
              | 19 => v = .agg #[.slice dC.k.ao eC.length dC.k.cap, .slice dC.v.ao eC.length dC.v.cap, .slice dC.l.ao eC.length dC.l.cap, .slice dC.p.ao psC.length dC.p.cap, .slice dC.m.ao psC.length dC.m.cap]
              | 20 => ∃ x c, v = .slice x L3.length c ∧ CgAt W x L3
              | 21 => v = .bool true
              | 22 => v = .bool true
              | _ => False) (fun _ => false) (by kernel_rfl) (by kernel_rfl) (by kernel_rfl) [some 122, some 123, some 124, some 125, some 126, some 127, some 128, some 129, some 130, some 131, some 132, some 133, some 134, some 135, some 136, some 137, some 138, some 139, some 140, some 141, some 142, some 143, some 144] (by kernel_rfl) ?mono ?hop ?tail
              case mono =>
                intro i v W W' h hb
                match i, h with
                | 0, ⟨h1, h2⟩ => exact ⟨h1, h2.below hb⟩
                | 1, h => exact h
                | 2, h => exact h
                | 3, ⟨x, c, h1, h2⟩ => exact ⟨x, c, h1, h2.below hb⟩
                | 4, h => exact h
                | 5, h => exact h
                | 6, h => exact h
                | 7, h => exact h
                | 8, ⟨x, c, h1, h2⟩ => exact ⟨x, c, h1, h2.below hb⟩
                | 9, h => exact h
                | 10, h => exact h
                | 11, ⟨x, c, h1, h2⟩ => exact ⟨x, c, h1, h2.below hb⟩
                | 12, h => exact h
                | 13, h => exact h
                | 14, h => exact h
                | 15, h => exact h
                | 16, h => exact h
                | 17, ⟨x, c, h1, h2⟩ => exact ⟨x, c, h1, h2.below hb⟩
                | 18, h => exact h
                | 19, h => exact h
                | 20, ⟨x, c, h1, h2⟩ => exact ⟨x, c, h1, h2.below hb⟩
                | 21, h => exact h
                | 22, h => exact h
              case hop =>
                intro i o hi ho a W hB0 hs hd
                have hF := HF.out.1.keep hB0
                have hG := HF.out.2.below hB0
                match i, hi, ho, hd with
                | 0, _, ho, hd =>
                  obtain rfl := Option.some.inj ho
                  refine ⟨.inl rfl, ?_⟩
                  exact f_move rfl ((hs 16 (by kernel_rfl)).trans rfl) ⟨_, rfl, ⟨rfl, hG⟩, Below.refl _ _, fun e => by cases e⟩
                | 1, _, ho, hd =>
                  obtain rfl := Option.some.inj ho
                  refine ⟨.inl rfl, ?_⟩
                  exact f_loadTree rfl ((hs 8 (by kernel_rfl)).trans rfl) hF.bA ⟨_, rfl, rfl, Below.refl _ _, fun e => by cases e⟩
                | 2, _, ho, hd =>
                  obtain rfl := Option.some.inj ho
                  refine ⟨.inl rfl, ?_⟩
                  exact f_loadTree rfl ((hs 12 (by kernel_rfl)).trans rfl) hF.bB ⟨_, rfl, rfl, Below.refl _ _, fun e => by cases e⟩
                | 3, _, ho, hd =>
                  obtain rfl := Option.some.inj ho
                  refine ⟨.inl rfl, ?_⟩
                  have h1 : a.eval (.tmp 123) = .agg #[.slice dA.k.ao eA.length dA.k.cap, .slice dA.v.ao eA.length dA.v.cap, .slice dA.l.ao eA.length dA.l.cap, .slice dA.p.ao psA.length dA.p.cap, .slice dA.m.ao psA.length dA.m.cap] := hd 1 123 (by kernel_rfl) (by kernel_rfl)
                  have h2 : a.eval (.tmp 124) = .agg #[.slice d8.k.ao eB.length d8.k.cap, .slice d8.v.ao eB.length d8.v.cap, .slice d8.l.ao eB.length d8.l.cap, .slice d8.p.ao ps8.length d8.p.cap, .slice d8.m.ao ps8.length d8.m.cap] := hd 2 124 (by kernel_rfl) (by kernel_rfl)
                  refine wp_callF (f := 17) (vals := #[.agg #[.slice dA.k.ao eA.length dA.k.cap, .slice dA.v.ao eA.length dA.v.cap, .slice dA.l.ao eA.length dA.l.cap, .slice dA.p.ao psA.length dA.p.cap, .slice dA.m.ao psA.length dA.m.cap], .agg #[.slice d8.k.ao eB.length d8.k.cap, .slice d8.v.ao eB.length d8.v.cap, .slice d8.l.ao eB.length d8.l.cap, .slice d8.p.ao ps8.length d8.p.cap, .slice d8.m.ao ps8.length d8.m.cap]]) rfl (map2 h1 h2) (by go_simp) ?_
                  refine (refDiff_calls dA eA psA d8 eB ps8 W hF.hA.doc hF.hB.doc (by omega)).mono ?_
                  rintro e w' ⟨v, rfl, hb, hv⟩
                  rw [← HLL.out.1] at hv
                  obtain ⟨x, c, rfl, hx⟩ := hv.changesC
                  exact ⟨_, rfl, _, rfl, ⟨x, c, rfl, hx⟩, hb, fun e => by cases e⟩
                | 4, _, ho, hd =>
                  obtain rfl := Option.some.inj ho
                  refine ⟨.inl rfl, ?_⟩
                  obtain ⟨h1, k1⟩ : a.eval (.tmp 122) = .slice ag L1.length cg ∧ CgAt W ag L1 := hd 0 122 (by kernel_rfl) (by kernel_rfl)
                  obtain ⟨ya, yc, h2, k2⟩ : ∃ x c, a.eval (.tmp 125) = .slice x L1.length c ∧ CgAt W x L1 := hd 3 125 (by kernel_rfl) (by kernel_rfl)
                  refine wp_callF (f := 16) (vals := #[.slice ag L1.length cg, .slice ya L1.length yc]) rfl (map2 h1 h2) (by go_simp) ?_
                  exact (sameChanges_calls ag ya cg yc L1 W k1 k2 (by omega)).mono fun e w' ⟨he, hb⟩ => ⟨_, he, _, rfl, rfl, hb, fun e => by cases e⟩
                | 5, _, ho, hd =>
                  obtain rfl := Option.some.inj ho
                  refine ⟨.inl rfl, ?_⟩
                  have h1 : a.eval (.tmp 126) = .bool true := hd 4 126 (by kernel_rfl) (by kernel_rfl)
                  exact f_move rfl h1 ⟨_, rfl, rfl, Below.refl _ _, fun e => by cases e⟩
                | 6, _, ho, hd =>
                  obtain rfl := Option.some.inj ho
                  have hg : a.eval (.tmp 127) = .bool true := hd 5 127 (by kernel_rfl) (by kernel_rfl)
                  refine ⟨.inr ⟨5, true, 127, rfl, by kernel_rfl, hg⟩, ?_⟩
                  exact f_move rfl ((hs 11 (by kernel_rfl)).trans rfl) ⟨_, rfl, rfl, Below.refl _ _, fun e => by cases e⟩
                | 7, _, ho, hd =>
                  obtain rfl := Option.some.inj ho
                  have hg : a.eval (.tmp 127) = .bool true := hd 5 127 (by kernel_rfl) (by kernel_rfl)
                  refine ⟨.inr ⟨5, true, 127, rfl, by kernel_rfl, hg⟩, ?_⟩
                  exact f_move rfl ((hs 7 (by kernel_rfl)).trans rfl) ⟨_, rfl, rfl, Below.refl _ _, fun e => by cases e⟩
                | 8, _, ho, hd =>
                  obtain rfl := Option.some.inj ho
                  have hg : a.eval (.tmp 127) = .bool true := hd 5 127 (by kernel_rfl) (by kernel_rfl)
                  refine ⟨.inr ⟨5, true, 127, rfl, by kernel_rfl, hg⟩, ?_⟩
                  have h1 : a.eval (.tmp 128) = .pointer (some ⟨tb7, 0, none⟩) := hd 6 128 (by kernel_rfl) (by kernel_rfl)
                  have h2 : a.eval (.tmp 129) = .pointer (some ⟨tbA, 0, none⟩) := hd 7 129 (by kernel_rfl) (by kernel_rfl)
                  refine wp_callF (f := 15) (vals := #[.pointer (some ⟨tb7, 0, none⟩), .pointer (some ⟨tbA, 0, none⟩)]) rfl (map2 h1 h2) (by go_simp) ?_
                  refine (diff_calls tb7 T7 ne7 (l.length + m.length) eB tbA TA neA l.length eA W (hF.hB.held.at hF.hB.held.good.tree) (hF.hA.held.at hF.hA.held.good.tree) (by omega) (by rw [← HLL.out.2.2.2.1]; omega)).mono ?_
                  rintro e w' ⟨v, rfl, hb, hv⟩
                  rw [← HLL.out.2.2.2.1] at hv
                  obtain ⟨x, c, rfl, hx⟩ := hv.changesC
                  exact ⟨_, rfl, _, rfl, ⟨x, c, rfl, hx⟩, hb, fun e => by cases e⟩
                | 9, _, ho, hd =>
                  obtain rfl := Option.some.inj ho
                  have hg : a.eval (.tmp 127) = .bool true := hd 5 127 (by kernel_rfl) (by kernel_rfl)
                  refine ⟨.inr ⟨5, true, 127, rfl, by kernel_rfl, hg⟩, ?_⟩
                  exact f_loadTree rfl ((hs 12 (by kernel_rfl)).trans rfl) hF.bB ⟨_, rfl, rfl, Below.refl _ _, fun e => by cases e⟩
                | 10, _, ho, hd =>
                  obtain rfl := Option.some.inj ho
                  have hg : a.eval (.tmp 127) = .bool true := hd 5 127 (by kernel_rfl) (by kernel_rfl)
                  refine ⟨.inr ⟨5, true, 127, rfl, by kernel_rfl, hg⟩, ?_⟩
                  exact f_loadTree rfl ((hs 8 (by kernel_rfl)).trans rfl) hF.bA ⟨_, rfl, rfl, Below.refl _ _, fun e => by cases e⟩
                | 11, _, ho, hd =>
                  obtain rfl := Option.some.inj ho
                  have hg : a.eval (.tmp 127) = .bool true := hd 5 127 (by kernel_rfl) (by kernel_rfl)
                  refine ⟨.inr ⟨5, true, 127, rfl, by kernel_rfl, hg⟩, ?_⟩
                  have h1 : a.eval (.tmp 131) = .agg #[.slice d8.k.ao eB.length d8.k.cap, .slice d8.v.ao eB.length d8.v.cap, .slice d8.l.ao eB.length d8.l.cap, .slice d8.p.ao ps8.length d8.p.cap, .slice d8.m.ao ps8.length d8.m.cap] := hd 9 131 (by kernel_rfl) (by kernel_rfl)
                  have h2 : a.eval (.tmp 132) = .agg #[.slice dA.k.ao eA.length dA.k.cap, .slice dA.v.ao eA.length dA.v.cap, .slice dA.l.ao eA.length dA.l.cap, .slice dA.p.ao psA.length dA.p.cap, .slice dA.m.ao psA.length dA.m.cap] := hd 10 132 (by kernel_rfl) (by kernel_rfl)
                  refine wp_callF (f := 17) (vals := #[.agg #[.slice d8.k.ao eB.length d8.k.cap, .slice d8.v.ao eB.length d8.v.cap, .slice d8.l.ao eB.length d8.l.cap, .slice d8.p.ao ps8.length d8.p.cap, .slice d8.m.ao ps8.length d8.m.cap], .agg #[.slice dA.k.ao eA.length dA.k.cap, .slice dA.v.ao eA.length dA.v.cap, .slice dA.l.ao eA.length dA.l.cap, .slice dA.p.ao psA.length dA.p.cap, .slice dA.m.ao psA.length dA.m.cap]]) rfl (map2 h1 h2) (by go_simp) ?_
                  refine (refDiff_calls d8 eB ps8 dA eA psA W hF.hB.doc hF.hA.doc (by omega)).mono ?_
                  rintro e w' ⟨v, rfl, hb, hv⟩
                  rw [← HLL.out.2.1] at hv
                  obtain ⟨x, c, rfl, hx⟩ := hv.changesC
                  exact ⟨_, rfl, _, rfl, ⟨x, c, rfl, hx⟩, hb, fun e => by cases e⟩
                | 12, _, ho, hd =>
                  obtain rfl := Option.some.inj ho
                  have hg : a.eval (.tmp 127) = .bool true := hd 5 127 (by kernel_rfl) (by kernel_rfl)
                  refine ⟨.inr ⟨5, true, 127, rfl, by kernel_rfl, hg⟩, ?_⟩
                  obtain ⟨xa, xc, h1, k1⟩ : ∃ x c, a.eval (.tmp 130) = .slice x L2.length c ∧ CgAt W x L2 := hd 8 130 (by kernel_rfl) (by kernel_rfl)
                  obtain ⟨ya, yc, h2, k2⟩ : ∃ x c, a.eval (.tmp 133) = .slice x L2.length c ∧ CgAt W x L2 := hd 11 133 (by kernel_rfl) (by kernel_rfl)
                  refine wp_callF (f := 16) (vals := #[.slice xa L2.length xc, .slice ya L2.length yc]) rfl (map2 h1 h2) (by go_simp) ?_
                  exact (sameChanges_calls xa ya xc yc L2 W k1 k2 (by omega)).mono fun e w' ⟨he, hb⟩ => ⟨_, he, _, rfl, rfl, hb, fun e => by cases e⟩
                | 13, _, ho, hd =>
                  obtain rfl := Option.some.inj ho
                  refine ⟨.inl rfl, ?_⟩
                  have h1 : a.eval (.tmp 127) = .bool true := hd 5 127 (by kernel_rfl) (by kernel_rfl)
                  have h2 : a.eval (.tmp 134) = .bool true := hd 12 134 (by kernel_rfl) (by kernel_rfl)
                  exact f_pick rfl h1 h2 ⟨_, rfl, rfl, Below.refl _ _, fun e => by cases e⟩
                | 14, _, ho, hd =>
                  obtain rfl := Option.some.inj ho
                  refine ⟨.inl rfl, ?_⟩
                  have h1 : a.eval (.tmp 135) = .bool true := hd 13 135 (by kernel_rfl) (by kernel_rfl)
                  exact f_move rfl h1 ⟨_, rfl, rfl, Below.refl _ _, fun e => by cases e⟩
                | 15, _, ho, hd =>
                  obtain rfl := Option.some.inj ho
                  have hg : a.eval (.tmp 136) = .bool true := hd 14 136 (by kernel_rfl) (by kernel_rfl)
                  refine ⟨.inr ⟨14, true, 136, rfl, by kernel_rfl, hg⟩, ?_⟩
                  exact f_move rfl ((hs 7 (by kernel_rfl)).trans rfl) ⟨_, rfl, rfl, Below.refl _ _, fun e => by cases e⟩
                | 16, _, ho, hd =>
                  obtain rfl := Option.some.inj ho
                  have hg : a.eval (.tmp 136) = .bool true := hd 14 136 (by kernel_rfl) (by kernel_rfl)
                  refine ⟨.inr ⟨14, true, 136, rfl, by kernel_rfl, hg⟩, ?_⟩
                  exact f_move rfl ((hs 9 (by kernel_rfl)).trans rfl) ⟨_, rfl, rfl, Below.refl _ _, fun e => by cases e⟩
                | 17, _, ho, hd =>
                  obtain rfl := Option.some.inj ho
                  have hg : a.eval (.tmp 136) = .bool true := hd 14 136 (by kernel_rfl) (by kernel_rfl)
                  refine ⟨.inr ⟨14, true, 136, rfl, by kernel_rfl, hg⟩, ?_⟩
                  have h1 : a.eval (.tmp 137) = .pointer (some ⟨tbA, 0, none⟩) := hd 15 137 (by kernel_rfl) (by kernel_rfl)
                  have h2 : a.eval (.tmp 138) = .pointer (some ⟨tbC, 0, none⟩) := hd 16 138 (by kernel_rfl) (by kernel_rfl)
                  refine wp_callF (f := 15) (vals := #[.pointer (some ⟨tbA, 0, none⟩), .pointer (some ⟨tbC, 0, none⟩)]) rfl (map2 h1 h2) (by go_simp) ?_
                  refine (diff_calls tbA TA neA l.length eA tbC TC neC m.length eC W (hF.hA.held.at hF.hA.held.good.tree) (hF.hC.held.at hF.hC.held.good.tree) (by omega) (by rw [← HLL.out.2.2.2.2]; omega)).mono ?_
                  rintro e w' ⟨v, rfl, hb, hv⟩
                  rw [← HLL.out.2.2.2.2] at hv
                  obtain ⟨x, c, rfl, hx⟩ := hv.changesC
                  exact ⟨_, rfl, _, rfl, ⟨x, c, rfl, hx⟩, hb, fun e => by cases e⟩
                | 18, _, ho, hd =>
                  obtain rfl := Option.some.inj ho
                  have hg : a.eval (.tmp 136) = .bool true := hd 14 136 (by kernel_rfl) (by kernel_rfl)
                  refine ⟨.inr ⟨14, true, 136, rfl, by kernel_rfl, hg⟩, ?_⟩
                  exact f_loadTree rfl ((hs 8 (by kernel_rfl)).trans rfl) hF.bA ⟨_, rfl, rfl, Below.refl _ _, fun e => by cases e⟩
                | 19, _, ho, hd =>
                  obtain rfl := Option.some.inj ho
                  have hg : a.eval (.tmp 136) = .bool true := hd 14 136 (by kernel_rfl) (by kernel_rfl)
                  refine ⟨.inr ⟨14, true, 136, rfl, by kernel_rfl, hg⟩, ?_⟩
                  exact f_loadTree rfl ((hs 10 (by kernel_rfl)).trans rfl) hF.bC ⟨_, rfl, rfl, Below.refl _ _, fun e => by cases e⟩
                | 20, _, ho, hd =>
                  obtain rfl := Option.some.inj ho
                  have hg : a.eval (.tmp 136) = .bool true := hd 14 136 (by kernel_rfl) (by kernel_rfl)
                  refine ⟨.inr ⟨14, true, 136, rfl, by kernel_rfl, hg⟩, ?_⟩
                  have h1 : a.eval (.tmp 140) = .agg #[.slice dA.k.ao eA.length dA.k.cap, .slice dA.v.ao eA.length dA.v.cap, .slice dA.l.ao eA.length dA.l.cap, .slice dA.p.ao psA.length dA.p.cap, .slice dA.m.ao psA.length dA.m.cap] := hd 18 140 (by kernel_rfl) (by kernel_rfl)
                  have h2 : a.eval (.tmp 141) = .agg #[.slice dC.k.ao eC.length dC.k.cap, .slice dC.v.ao eC.length dC.v.cap, .slice dC.l.ao eC.length dC.l.cap, .slice dC.p.ao psC.length dC.p.cap, .slice dC.m.ao psC.length dC.m.cap] := hd 19 141 (by kernel_rfl) (by kernel_rfl)
                  refine wp_callF (f := 17) (vals := #[.agg #[.slice dA.k.ao eA.length dA.k.cap, .slice dA.v.ao eA.length dA.v.cap, .slice dA.l.ao eA.length dA.l.cap, .slice dA.p.ao psA.length dA.p.cap, .slice dA.m.ao psA.length dA.m.cap], .agg #[.slice dC.k.ao eC.length dC.k.cap, .slice dC.v.ao eC.length dC.v.cap, .slice dC.l.ao eC.length dC.l.cap, .slice dC.p.ao psC.length dC.p.cap, .slice dC.m.ao psC.length dC.m.cap]]) rfl (map2 h1 h2) (by go_simp) ?_
                  refine (refDiff_calls dA eA psA dC eC psC W hF.hA.doc hF.hC.doc (by omega)).mono ?_
                  rintro e w' ⟨v, rfl, hb, hv⟩
                  rw [← HLL.out.2.2.1] at hv
                  obtain ⟨x, c, rfl, hx⟩ := hv.changesC
                  exact ⟨_, rfl, _, rfl, ⟨x, c, rfl, hx⟩, hb, fun e => by cases e⟩
                | 21, _, ho, hd =>
                  obtain rfl := Option.some.inj ho
                  have hg : a.eval (.tmp 136) = .bool true := hd 14 136 (by kernel_rfl) (by kernel_rfl)
                  refine ⟨.inr ⟨14, true, 136, rfl, by kernel_rfl, hg⟩, ?_⟩
                  obtain ⟨xa, xc, h1, k1⟩ : ∃ x c, a.eval (.tmp 139) = .slice x L3.length c ∧ CgAt W x L3 := hd 17 139 (by kernel_rfl) (by kernel_rfl)
                  obtain ⟨ya, yc, h2, k2⟩ : ∃ x c, a.eval (.tmp 142) = .slice x L3.length c ∧ CgAt W x L3 := hd 20 142 (by kernel_rfl) (by kernel_rfl)
                  refine wp_callF (f := 16) (vals := #[.slice xa L3.length xc, .slice ya L3.length yc]) rfl (map2 h1 h2) (by go_simp) ?_
                  exact (sameChanges_calls xa ya xc yc L3 W k1 k2 (by omega)).mono fun e w' ⟨he, hb⟩ => ⟨_, he, _, rfl, rfl, hb, fun e => by cases e⟩
                | 22, _, ho, hd =>
                  obtain rfl := Option.some.inj ho
                  refine ⟨.inl rfl, ?_⟩
                  have h1 : a.eval (.tmp 136) = .bool true := hd 14 136 (by kernel_rfl) (by kernel_rfl)
                  have h2 : a.eval (.tmp 143) = .bool true := hd 21 143 (by kernel_rfl) (by kernel_rfl)
                  exact f_pick rfl h1 h2 ⟨_, rfl, rfl, Below.refl _ _, fun e => by cases e⟩
                | n + 23, hi, _, _ => exact absurd hi (by omega)
              case tail =>
                intro vs W hB hR _
                have r22 : vs 22 = .bool true := hR 22 (by decide)
                have BF : Hid (Below w.heap.size w W) := HF.out.1.below.trans (hB.mono HF.out.1.below.size)
                clear hR hB
                simp only [putL, put_lit, List.setIfInBounds_toArray, List.set_cons_succ, List.set_cons_zero, List.drop_succ_cons, List.drop_zero]
                rw [r22]
                clear r22
                go_wp2
                go_ret
                exact ⟨rfl, BF.out⟩
end Go.Proofs.Ytnmndjplbcpglaa
