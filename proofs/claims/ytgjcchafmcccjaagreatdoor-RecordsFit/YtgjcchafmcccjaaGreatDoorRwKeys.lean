/- Layer 7 (rows): indexKeys. -/
import Derived.Test.YtgjcchafmcccjaaGreatDoorRwLists2
import Derived.Test.YtgjcchafmcccjaaGreatDoorKEncode
import Derived.Test.YtgjcchafmcccjaaGreatDoorRwSort
namespace Go.Proofs.YtgjcchafmcccjaaGreatDoor
open Go.RowKit
set_option linter.unusedVariables false
attribute [local go_sem] Oper.semAt_some

def keyOf (ps : List Pt) : List UInt8 := (encAns false ps).1
def badB (ps : List Pt) : Bool := (encAns false ps).2 != 0
def sortedK (ls : List (List Pt)) : List (List UInt8) := Lib.compact ((ls.map keyOf).mergeSort fun x y => decide (x ≤ y))
def indexP (t : Tb) (x : Ix) (cs : List CV) : List (List UInt8) × Int :=
  if wholeB t x cs = false ∧ x.s = false then ([], 73) else if (listsP t x cs).any badB then ([], 74) else (sortedK (listsP t x cs), 0)

/-- A slice of keys of the call's own. -/
def KeysAt (w : World) (B : Nat) (v : Value) (ks : List (List UInt8)) : Prop := w.ownsRow B 9 1 v ks.length (ks.map encS)
theorem lists_grew {w w' : World} {B : Nat} {v u u' : Value} {ls : List LV} {n : Nat} {l : List Value} {B' : Nat} (h : Lists w B v ls) (hu : w.ownsRow B' 9 1 u n l) (hg : Grew w w' u u') : Lists w' B v ls :=
  ⟨row_grew h.row hg (rows_ne h.row hu (by decide)), fun x hx => row_grew (h.each x hx) hg (rows_ne (h.each x hx) hu (by decide)), h.wf⟩
def kRow (ls : List LV) (k : Nat) : List Value := (((ls.map LV.ps).take k).map keyOf).map encS
theorem keys_take (ls : List LV) (k : Nat) (hk : k < ls.length) : ((ls.map LV.ps).take (k + 1)).map keyOf = ((ls.map LV.ps).take k).map keyOf ++ [keyOf ls[k].ps] := by
  rw [List.take_succ_eq_append_getElem (by simpa using hk), List.map_append]
  simp

theorem kRow_succ (ls : List LV) (k : Nat) (hk : k < ls.length) : kRow ls (k + 1) = kRow ls k ++ [.string ⟨(keyOf ls[k].ps).toArray⟩] := by
  unfold kRow
  rw [keys_take ls k hk, List.map_append]
  rfl
/-- What indexKeys answers. -/
def IxAns (w : World) (t : Tb) (x : Ix) (cs : List CV) (e : Ending) (w' : World) : Prop :=
  ∃ v, e = .returned (.tuple #[v, .int .i64 (indexP t x cs).2]) ∧ KeysAt w' w.heap.size v (indexP t x cs).1 ∧ Below w.heap.size w w'

set_option maxRecDepth 100000 in
set_option maxHeartbeats 2000000 in
theorem indexKeys_calls (t : TV) (x : XV) (ca : Option Addr) (cc : Nat) (cs : List CV) (w : World) (hk : KlOk w t x ca cs) :
    Calls Tryz.prog 21 #[.agg #[.string t.n, t.fv, t.xv], .agg #[.string x.x.n, .slice x.va x.x.ov.length x.vc, .bool x.x.u, .bool x.x.l, .bool x.x.s], .slice ca cs.length cc] w fun e w' => IxAns w t.tb x.x cs e w' := by
  have hfew := hk.few
  obtain ⟨w2, hw2⟩ : ∃ w2, w2 = (w.alloc (.cells #[.string t.n, t.fv, t.xv] 42)).alloc (.cells #[.string x.x.n, .slice x.va x.x.ov.length x.vc, .bool x.x.u, .bool x.x.l, .bool x.x.s] 67) := ⟨_, rfl⟩
  have hb2 : Below w.heap.size w w2 := by rw [hw2]; exact ((Below.refl _ _).alloc (Nat.le_refl _) _).alloc (by simp only [World.size_alloc]; omega) _
  have HX2 : Hid (w2.heap[w.heap.size + 1]? = some (.cells #[.string x.x.n, .slice x.va x.x.ov.length x.vc, .bool x.x.u, .bool x.x.l, .bool x.x.s] 67)) := by
    rw [Hid, hw2]
    have := new_blk (w.alloc (.cells #[.string t.n, t.fv, t.xv] 42)) (.cells #[.string x.x.n, .slice x.va x.x.ov.length x.vc, .bool x.x.u, .bool x.x.l, .bool x.x.s] 67)
    rw [World.size_alloc] at this
    exact this
  have HKL : Hid (Calls Tryz.prog 38 #[.agg #[.string t.n, t.fv, t.xv], .agg #[.string x.x.n, .slice x.va x.x.ov.length x.vc, .bool x.x.u, .bool x.x.l, .bool x.x.s], .slice ca cs.length cc] w2 fun e w' => (∃ a c ls, e = .returned (.tuple #[.slice a ls.length c, .bool (wholeB t.tb x.x cs)]) ∧ Lists w' w2.heap.size (.slice a ls.length c) ls ∧ ls.map LV.ps = listsP t.tb x.x cs) ∧ Below w2.heap.size w2 w') := keyLists_calls t x ca cc cs w2 (hk.below hb2)
  have HLL : Hid ((listsP t.tb x.x cs).length ≤ 32) := Nat.le_trans (List.length_filterMap_le _ _) hfew
  have HIP : Hid (indexP t.tb x.x cs = if wholeB t.tb x.x cs = false ∧ x.x.s = false then ([], 73) else if (listsP t.tb x.x cs).any badB then ([], 74) else (sortedK (listsP t.tb x.x cs), 0)) := rfl
  have HB2 : Hid (Below w.heap.size w w2) := hb2
  clear hk hfew hb2
  obtain ⟨tn, fs, fa, fc, xs, xa, xc⟩ := t
  obtain ⟨⟨xn, ov, u, l, s⟩, va, vc⟩ := x
  dsimp only [TV.fv, TV.xv] at *
  generalize wholeB (TV.mk tn fs fa fc xs xa xc).tb ⟨xn, ov, u, l, s⟩ cs = wh at *
  go_enter Tryz.func21, Tryz.ntmps21
  go_wp2_with fail
  rw [← hw2]
  clear hw2
  refine HKL.out.mono ?_
  clear HKL
  rintro e w3 ⟨⟨a, c, ls, rfl, hls, hlp⟩, hb3⟩
  have HLS : Hid (Lists w3 w.heap.size (.slice a ls.length c) ls) := ⟨row_mono hls.row HB2.out.size, fun x hx => OwnP.mono (hls.each x hx) HB2.out.size, hls.wf⟩
  have HLP : Hid (ls.map LV.ps = listsP (TV.mk tn fs fa fc xs xa xc).tb ⟨xn, ov, u, l, s⟩ cs) := hlp
  have HB3 : Hid (Below w.heap.size w w3) := HB2.out.trans (hb3.mono HB2.out.size)
  have x4 : w3.cell? ⟨w.heap.size + 1, 4, none⟩ = some (.bool s) := by rw [cell_blk ((hb3.block _ (lt_blk HX2.out)).trans HX2.out)]; rfl
  have hl32 : ls.length ≤ 32 := by have := HLL.out; rw [← HLP.out, List.length_map] at this; exact this
  rw [← HLP.out] at HIP
  clear hls hlp hb3 HX2 HB2 HLL
  by_cases hbad : wh = false ∧ s = false
  · obtain ⟨rfl, rfl⟩ := hbad
    rw [if_pos ⟨rfl, rfl⟩] at HIP
    go_wp2
    go_ret2
    refine ⟨.slice none 0 0, ?_, ?_, HB3.out⟩
    · rw [HIP.out]; rfl
    · rw [HIP.out]; exact World.ownsRow_nil _ _ _ _
  have HIP2 : Hid (indexP (TV.mk tn fs fa fc xs xa xc).tb ⟨xn, ov, u, l, s⟩ cs = if (ls.map LV.ps).any badB then ([], 74) else (sortedK (ls.map LV.ps), 0)) := by rw [Hid, HIP.out, if_neg hbad]
  clear HIP
  have hor : wh = true ∨ (wh = false ∧ s = true) := by revert hbad; cases wh <;> cases s <;> simp
  clear hbad
  rcases hor with rfl | ⟨rfl, rfl⟩
  · go_upto_region 4 with fail
    go_wp2
    go_loopw [10, 12, 13, 14, 31] (fun v10 a12 a13 a14 i wr => ∃ (k : Nat) (a10 : Option Addr) (c10 : Nat), k ≤ ls.length ∧ i = .int .i64 k ∧ v10 = .slice a10 k c10 ∧ Hid (noneTo badB (ls.map LV.ps) k) ∧ Hid (wr.ownsRow w.heap.size 9 1 (.slice a10 k c10) k (kRow ls k)) ∧ Hid (Lists wr w.heap.size (.slice a ls.length c) ls) ∧ Hid (Below w.heap.size w wr)) (fun _ _ _ _ i _ => ls.length - (intOf i).toNat)
    case atStart => exact ⟨0, none, 0, Nat.zero_le _, rfl, rfl, noneTo.zero _ _, World.ownsRow_nil _ _ _ _, HLS, HB3⟩
    case round =>
      obtain ⟨k, a10, c10, hk, rfl, rfl, HN, HR, HL, HB⟩ := hrel
      clear HLS HB3
      by_cases hlt : k < ls.length
      · have hmem := List.getElem_mem hlt
        have hrw := row_cells HL.out.row
        obtain ⟨lb, lo, rfl, c0⟩ : ∃ b off, a = some ⟨b, off, none⟩ ∧ wr.cell? ⟨b, off + k, none⟩ = some (.slice ls[k].a ls[k].ps.length ls[k].c) := by
          obtain ⟨b, off, ha, hc⟩ := hrw (by intro e; have := congrArg List.length e; rw [List.length_map, List.length_nil] at this; omega)
          exact ⟨b, off, ha, hc _ _ (by simp [hlt])⟩
        have HEC : Hid (Calls Tryz.prog 39 #[.slice ls[k].a ls[k].ps.length ls[k].c] wr fun e w' => e = .returned (.tuple #[.string ⟨(encAns false ls[k].ps).1.toArray⟩, .int .i64 (encAns false ls[k].ps).2]) ∧ Below wr.heap.size wr w') := encode_calls ls[k].a ls[k].c ls[k].ps wr (by have := (HL.out.wf _ hmem).2; omega) ((HL.out.each _ hmem).parts (HL.out.wf _ hmem).1)
        have HKT : Hid (kRow ls (k + 1) = kRow ls k ++ [.string ⟨((encAns false ls[k].ps).1).toArray⟩]) := kRow_succ ls k hlt
        have HBD : Hid (badB ls[k].ps = ((encAns false ls[k].ps).2 != 0)) := rfl
        have hps : (ls.map LV.ps)[k]'(by simpa using hlt) = ls[k].ps := by simp
        have HAN : Hid (badB ls[k].ps = true → (ls.map LV.ps).any badB = true) := fun h => List.any_eq_true.2 ⟨_, List.mem_map_of_mem hmem, h⟩
        have HSU : Hid (badB ls[k].ps = false → noneTo badB (ls.map LV.ps) (k + 1)) := fun h => HN.out.succ (by simpa using hlt) (by rw [hps]; exact h)
        generalize encAns false ls[k].ps = E at *
        obtain ⟨E1, E2⟩ := E
        dsimp only at *
        clear hmem hrw hps
        go_wp2_with fail
        refine HEC.out.mono ?_
        clear HEC
        rintro e w4 ⟨rfl, hb4⟩
        have HB4 : Hid (Below w.heap.size w w4) := HB.out.trans (hb4.mono HB.out.size)
        have HL4 : Hid (Lists w4 w.heap.size (.slice (some ⟨lb, lo, none⟩) ls.length c) ls) := HL.out.below hb4
        have hr4 := row_below HR.out hb4
        clear hb4 c0
        by_cases hE : E2 = 0
        · subst hE
          have HN2 : Hid (noneTo badB (ls.map LV.ps) (k + 1)) := HSU.out (by rw [HBD.out]; rfl)
          have hB4 : w.heap.size ≤ w4.heap.size := HB4.out.size
          clear HAN HSU HBD
          go_wp2_with (at_builtin; refine append_row _ rfl (.tmp 42) (.tmp 44) _ 9 _ 1 16 Tryz.underlying22 info_str rfl (by decide) rfl w.heap.size _ k _ rfl [.string ⟨E1.toArray⟩] rfl (by simp [Value.oneCell']) _ _ rfl rfl rfl hr4 (by omega) (by omega) hB4 ?_)
          intro v5 w5 hr5 hg5
          have HL5 : Hid (Lists w5 w.heap.size (.slice (some ⟨lb, lo, none⟩) ls.length c) ls) := lists_grew HL4.out hr4 hg5
          have HB5 : Hid (Below w.heap.size w w5) := HB4.out.trans (hg5.toBelow hB4 fun j hj => (World.ownsRow.lt hr4 j hj).1)
          have HR5 : Hid (w5.ownsRow w.heap.size 9 1 v5 (k + 1) (kRow ls (k + 1))) := by rw [Hid, HKT.out]; exact hr5
          obtain ⟨a5, c5, rfl, -⟩ := row_forms hr5
          clear hr5 hg5 hr4
          go_wp2
          go_roundw
          case rel => exact ⟨k + 1, a5, c5, by omega, by go_num, rfl, HN2, HR5, HL5, HB5⟩
          case measure => simp [intOf]; omega
        · have HO : Hid (indexP (TV.mk tn fs fa fc xs xa xc).tb ⟨xn, ov, u, l, s⟩ cs = ([], 74)) := by rw [Hid, HIP2.out, if_pos (HAN.out (by rw [HBD.out]; simpa using hE))]
          have q5 : (E2 == 0) = false := by simpa using hE
          clear HAN HSU HBD hE hr4
          go_wp2
          go_ret2
          refine ⟨.slice none 0 0, ?_, ?_, HB4.out⟩
          · rw [HO.out]; rfl
          · rw [HO.out]; exact World.ownsRow_nil _ _ _ _
      · obtain rfl : k = ls.length := by omega
        have HNO : Hid ((ls.map LV.ps).any badB = false) := (HN.out.any (by simp)).symm
        have HO : Hid (indexP (TV.mk tn fs fa fc xs xa xc).tb ⟨xn, ov, u, l, s⟩ cs = (sortedK (ls.map LV.ps), 0)) := by rw [Hid, HIP2.out, HNO.out, if_neg (by simp)]
        have HTK : Hid (kRow ls ls.length = ((ls.map LV.ps).map keyOf).map encS) := by unfold kRow; rw [Hid, List.take_of_length_le (by simp)]
        rw [HTK.out] at HR
        obtain ⟨ks, hks⟩ : ∃ ks, ks = (ls.map LV.ps).map keyOf := ⟨_, rfl⟩
        have HKS : Hid (sortedK (ls.map LV.ps) = Lib.compact (ks.mergeSort fun x y => decide (x ≤ y))) := by rw [Hid, hks]; rfl
        have hkl : ks.length = ls.length := by rw [hks]; simp
        rw [← hks, ← hkl] at HR
        rw [← hkl]
        have hk32 : ks.length ≤ 32 := by omega
        clear hks hkl HN HL HNO HTK HIP2
        by_cases h0 : ks.length = 0
        · have hk0 : ks = [] := List.length_eq_zero_iff.1 h0
          subst hk0
          have HKS0 : Hid (sortedK (ls.map LV.ps) = []) := by
            rw [Hid, HKS.out]
            exact List.length_eq_zero_iff.1 (Nat.le_zero.1 (by have := compact_le (([] : List (List UInt8)).mergeSort fun x y => decide (x ≤ y)); rw [List.length_mergeSort] at this; exact this))
          have HC1 : Hid (Calls Tryz.prog 40 #[.slice a10 0 c10] wr fun e w' => e = .returned (.tuple #[]) ∧ w' = wr) := Tryz.slices_Sort_string_none a10 c10 wr
          have HC2 : Hid (Calls Tryz.prog 41 #[.slice a10 0 c10] wr fun e w' => e = .returned (.slice a10 0 c10) ∧ w' = wr) := Tryz.slices_Compact_string_empty a10 c10 wr
          have HR0 : Hid (wr.ownsRow w.heap.size 9 1 (.slice a10 0 c10) 0 []) := HR.out
          clear HR h0
          go_wp2_with fail
          refine HC1.out.mono ?_
          rintro e w5 ⟨rfl, hw5⟩
          rw [hw5]
          clear hw5 HC1
          go_wp2_with fail
          refine HC2.out.mono ?_
          rintro e w5 ⟨rfl, hw5⟩
          rw [hw5]
          clear hw5 HC2
          go_wp2
          go_ret2
          refine ⟨.slice a10 0 c10, ?_, ?_, HB.out⟩
          · rw [HO.out]; rfl
          · rw [HO.out, HKS0.out]; exact HR0.out
        · obtain ⟨g, rfl⟩ : ∃ g, a10 = some ⟨g, 0, none⟩ := by
            obtain ⟨_, _, he, hh⟩ := row_forms HR.out
            simp only [Value.slice.injEq] at he
            obtain ⟨rfl, _, rfl⟩ := he
            exact hh (by omega)
          have HC1 : Hid (Calls Tryz.prog 40 #[.slice (some ⟨g, 0, none⟩) ks.length c10] wr fun e w' => e = .returned (.tuple #[]) ∧ w'.ownsRow w.heap.size 9 1 (.slice (some ⟨g, 0, none⟩) ks.length c10) ks.length ((ks.mergeSort fun x y => decide (x ≤ y)).map encS) ∧ Grew wr w' (.slice (some ⟨g, 0, none⟩) ks.length c10) (.slice (some ⟨g, 0, none⟩) ks.length c10)) := sort_calls g c10 w.heap.size ks wr (by omega) HR.out
          have hgB := (World.ownsRow.lt HR.out g rfl).1
          go_wp2_with fail
          refine HC1.out.mono ?_
          clear HC1
          rintro e w5 ⟨rfl, hr5, hg5⟩
          obtain ⟨zs, hzs⟩ : ∃ zs, zs = ks.mergeSort fun x y => decide (x ≤ y) := ⟨_, rfl⟩
          rw [← hzs] at hr5 HKS
          have hzl : zs.length = ks.length := by rw [hzs]; simp
          have HB5 : Hid (Below w.heap.size w w5) := HB.out.trans (hg5.toBelow HB.out.size fun j hj => by simp [Value.ownBlock] at hj; omega)
          clear hg5 hzs HR HB
          rw [← hzl] at hr5 ⊢
          have HC2 : Hid (Calls Tryz.prog 41 #[.slice (some ⟨g, 0, none⟩) zs.length c10] w5 fun e w' => e = .returned (.slice (some ⟨g, 0, none⟩) (Lib.compact zs).length c10) ∧ w'.ownsRow w.heap.size 9 1 (.slice (some ⟨g, 0, none⟩) (Lib.compact zs).length c10) (Lib.compact zs).length ((Lib.compact zs).map encS) ∧ Grew w5 w' (.slice (some ⟨g, 0, none⟩) zs.length c10) (.slice (some ⟨g, 0, none⟩) zs.length c10)) := compact_calls g c10 w.heap.size zs w5 (by omega) hr5
          clear hr5 h0 hzl
          go_wp2_with fail
          refine HC2.out.mono ?_
          clear HC2
          rintro e w6 ⟨rfl, hr6, hg6⟩
          have HB6 : Hid (Below w.heap.size w w6) := HB5.out.trans (hg6.toBelow HB5.out.size fun j hj => by simp [Value.ownBlock] at hj; omega)
          have HR6 : Hid (w6.ownsRow w.heap.size 9 1 (.slice (some ⟨g, 0, none⟩) (Lib.compact zs).length c10) (Lib.compact zs).length ((Lib.compact zs).map encS)) := hr6
          clear hr6 hg6
          go_wp2
          go_ret2
          refine ⟨.slice (some ⟨g, 0, none⟩) (Lib.compact zs).length c10, ?_, ?_, HB6.out⟩
          · rw [HO.out]; rfl
          · rw [HO.out, HKS.out]; exact HR6.out
  · go_upto_region 4 with fail
    go_wp2
    go_loopw [10, 12, 13, 14, 31] (fun v10 a12 a13 a14 i wr => ∃ (k : Nat) (a10 : Option Addr) (c10 : Nat), k ≤ ls.length ∧ i = .int .i64 k ∧ v10 = .slice a10 k c10 ∧ Hid (noneTo badB (ls.map LV.ps) k) ∧ Hid (wr.ownsRow w.heap.size 9 1 (.slice a10 k c10) k (kRow ls k)) ∧ Hid (Lists wr w.heap.size (.slice a ls.length c) ls) ∧ Hid (Below w.heap.size w wr)) (fun _ _ _ _ i _ => ls.length - (intOf i).toNat)
    case atStart => exact ⟨0, none, 0, Nat.zero_le _, rfl, rfl, noneTo.zero _ _, World.ownsRow_nil _ _ _ _, HLS, HB3⟩
    case round =>
      obtain ⟨k, a10, c10, hk, rfl, rfl, HN, HR, HL, HB⟩ := hrel
      clear HLS HB3
      by_cases hlt : k < ls.length
      · have hmem := List.getElem_mem hlt
        have hrw := row_cells HL.out.row
        obtain ⟨lb, lo, rfl, c0⟩ : ∃ b off, a = some ⟨b, off, none⟩ ∧ wr.cell? ⟨b, off + k, none⟩ = some (.slice ls[k].a ls[k].ps.length ls[k].c) := by
          obtain ⟨b, off, ha, hc⟩ := hrw (by intro e; have := congrArg List.length e; rw [List.length_map, List.length_nil] at this; omega)
          exact ⟨b, off, ha, hc _ _ (by simp [hlt])⟩
        have HEC : Hid (Calls Tryz.prog 39 #[.slice ls[k].a ls[k].ps.length ls[k].c] wr fun e w' => e = .returned (.tuple #[.string ⟨(encAns false ls[k].ps).1.toArray⟩, .int .i64 (encAns false ls[k].ps).2]) ∧ Below wr.heap.size wr w') := encode_calls ls[k].a ls[k].c ls[k].ps wr (by have := (HL.out.wf _ hmem).2; omega) ((HL.out.each _ hmem).parts (HL.out.wf _ hmem).1)
        have HKT : Hid (kRow ls (k + 1) = kRow ls k ++ [.string ⟨((encAns false ls[k].ps).1).toArray⟩]) := kRow_succ ls k hlt
        have HBD : Hid (badB ls[k].ps = ((encAns false ls[k].ps).2 != 0)) := rfl
        have hps : (ls.map LV.ps)[k]'(by simpa using hlt) = ls[k].ps := by simp
        have HAN : Hid (badB ls[k].ps = true → (ls.map LV.ps).any badB = true) := fun h => List.any_eq_true.2 ⟨_, List.mem_map_of_mem hmem, h⟩
        have HSU : Hid (badB ls[k].ps = false → noneTo badB (ls.map LV.ps) (k + 1)) := fun h => HN.out.succ (by simpa using hlt) (by rw [hps]; exact h)
        generalize encAns false ls[k].ps = E at *
        obtain ⟨E1, E2⟩ := E
        dsimp only at *
        clear hmem hrw hps
        go_wp2_with fail
        refine HEC.out.mono ?_
        clear HEC
        rintro e w4 ⟨rfl, hb4⟩
        have HB4 : Hid (Below w.heap.size w w4) := HB.out.trans (hb4.mono HB.out.size)
        have HL4 : Hid (Lists w4 w.heap.size (.slice (some ⟨lb, lo, none⟩) ls.length c) ls) := HL.out.below hb4
        have hr4 := row_below HR.out hb4
        clear hb4 c0
        by_cases hE : E2 = 0
        · subst hE
          have HN2 : Hid (noneTo badB (ls.map LV.ps) (k + 1)) := HSU.out (by rw [HBD.out]; rfl)
          have hB4 : w.heap.size ≤ w4.heap.size := HB4.out.size
          clear HAN HSU HBD
          go_wp2_with (at_builtin; refine append_row _ rfl (.tmp 42) (.tmp 44) _ 9 _ 1 16 Tryz.underlying22 info_str rfl (by decide) rfl w.heap.size _ k _ rfl [.string ⟨E1.toArray⟩] rfl (by simp [Value.oneCell']) _ _ rfl rfl rfl hr4 (by omega) (by omega) hB4 ?_)
          intro v5 w5 hr5 hg5
          have HL5 : Hid (Lists w5 w.heap.size (.slice (some ⟨lb, lo, none⟩) ls.length c) ls) := lists_grew HL4.out hr4 hg5
          have HB5 : Hid (Below w.heap.size w w5) := HB4.out.trans (hg5.toBelow hB4 fun j hj => (World.ownsRow.lt hr4 j hj).1)
          have HR5 : Hid (w5.ownsRow w.heap.size 9 1 v5 (k + 1) (kRow ls (k + 1))) := by rw [Hid, HKT.out]; exact hr5
          obtain ⟨a5, c5, rfl, -⟩ := row_forms hr5
          clear hr5 hg5 hr4
          go_wp2
          go_roundw
          case rel => exact ⟨k + 1, a5, c5, by omega, by go_num, rfl, HN2, HR5, HL5, HB5⟩
          case measure => simp [intOf]; omega
        · have HO : Hid (indexP (TV.mk tn fs fa fc xs xa xc).tb ⟨xn, ov, u, l, true⟩ cs = ([], 74)) := by rw [Hid, HIP2.out, if_pos (HAN.out (by rw [HBD.out]; simpa using hE))]
          have q5 : (E2 == 0) = false := by simpa using hE
          clear HAN HSU HBD hE hr4
          go_wp2
          go_ret2
          refine ⟨.slice none 0 0, ?_, ?_, HB4.out⟩
          · rw [HO.out]; rfl
          · rw [HO.out]; exact World.ownsRow_nil _ _ _ _
      · obtain rfl : k = ls.length := by omega
        have HNO : Hid ((ls.map LV.ps).any badB = false) := (HN.out.any (by simp)).symm
        have HO : Hid (indexP (TV.mk tn fs fa fc xs xa xc).tb ⟨xn, ov, u, l, true⟩ cs = (sortedK (ls.map LV.ps), 0)) := by rw [Hid, HIP2.out, HNO.out, if_neg (by simp)]
        have HTK : Hid (kRow ls ls.length = ((ls.map LV.ps).map keyOf).map encS) := by unfold kRow; rw [Hid, List.take_of_length_le (by simp)]
        rw [HTK.out] at HR
        obtain ⟨ks, hks⟩ : ∃ ks, ks = (ls.map LV.ps).map keyOf := ⟨_, rfl⟩
        have HKS : Hid (sortedK (ls.map LV.ps) = Lib.compact (ks.mergeSort fun x y => decide (x ≤ y))) := by rw [Hid, hks]; rfl
        have hkl : ks.length = ls.length := by rw [hks]; simp
        rw [← hks, ← hkl] at HR
        rw [← hkl]
        have hk32 : ks.length ≤ 32 := by omega
        clear hks hkl HN HL HNO HTK HIP2
        by_cases h0 : ks.length = 0
        · have hk0 : ks = [] := List.length_eq_zero_iff.1 h0
          subst hk0
          have HKS0 : Hid (sortedK (ls.map LV.ps) = []) := by
            rw [Hid, HKS.out]
            exact List.length_eq_zero_iff.1 (Nat.le_zero.1 (by have := compact_le (([] : List (List UInt8)).mergeSort fun x y => decide (x ≤ y)); rw [List.length_mergeSort] at this; exact this))
          have HC1 : Hid (Calls Tryz.prog 40 #[.slice a10 0 c10] wr fun e w' => e = .returned (.tuple #[]) ∧ w' = wr) := Tryz.slices_Sort_string_none a10 c10 wr
          have HC2 : Hid (Calls Tryz.prog 41 #[.slice a10 0 c10] wr fun e w' => e = .returned (.slice a10 0 c10) ∧ w' = wr) := Tryz.slices_Compact_string_empty a10 c10 wr
          have HR0 : Hid (wr.ownsRow w.heap.size 9 1 (.slice a10 0 c10) 0 []) := HR.out
          clear HR h0
          go_wp2_with fail
          refine HC1.out.mono ?_
          rintro e w5 ⟨rfl, hw5⟩
          rw [hw5]
          clear hw5 HC1
          go_wp2_with fail
          refine HC2.out.mono ?_
          rintro e w5 ⟨rfl, hw5⟩
          rw [hw5]
          clear hw5 HC2
          go_wp2
          go_ret2
          refine ⟨.slice a10 0 c10, ?_, ?_, HB.out⟩
          · rw [HO.out]; rfl
          · rw [HO.out, HKS0.out]; exact HR0.out
        · obtain ⟨g, rfl⟩ : ∃ g, a10 = some ⟨g, 0, none⟩ := by
            obtain ⟨_, _, he, hh⟩ := row_forms HR.out
            simp only [Value.slice.injEq] at he
            obtain ⟨rfl, _, rfl⟩ := he
            exact hh (by omega)
          have HC1 : Hid (Calls Tryz.prog 40 #[.slice (some ⟨g, 0, none⟩) ks.length c10] wr fun e w' => e = .returned (.tuple #[]) ∧ w'.ownsRow w.heap.size 9 1 (.slice (some ⟨g, 0, none⟩) ks.length c10) ks.length ((ks.mergeSort fun x y => decide (x ≤ y)).map encS) ∧ Grew wr w' (.slice (some ⟨g, 0, none⟩) ks.length c10) (.slice (some ⟨g, 0, none⟩) ks.length c10)) := sort_calls g c10 w.heap.size ks wr (by omega) HR.out
          have hgB := (World.ownsRow.lt HR.out g rfl).1
          go_wp2_with fail
          refine HC1.out.mono ?_
          clear HC1
          rintro e w5 ⟨rfl, hr5, hg5⟩
          obtain ⟨zs, hzs⟩ : ∃ zs, zs = ks.mergeSort fun x y => decide (x ≤ y) := ⟨_, rfl⟩
          rw [← hzs] at hr5 HKS
          have hzl : zs.length = ks.length := by rw [hzs]; simp
          have HB5 : Hid (Below w.heap.size w w5) := HB.out.trans (hg5.toBelow HB.out.size fun j hj => by simp [Value.ownBlock] at hj; omega)
          clear hg5 hzs HR HB
          rw [← hzl] at hr5 ⊢
          have HC2 : Hid (Calls Tryz.prog 41 #[.slice (some ⟨g, 0, none⟩) zs.length c10] w5 fun e w' => e = .returned (.slice (some ⟨g, 0, none⟩) (Lib.compact zs).length c10) ∧ w'.ownsRow w.heap.size 9 1 (.slice (some ⟨g, 0, none⟩) (Lib.compact zs).length c10) (Lib.compact zs).length ((Lib.compact zs).map encS) ∧ Grew w5 w' (.slice (some ⟨g, 0, none⟩) zs.length c10) (.slice (some ⟨g, 0, none⟩) zs.length c10)) := compact_calls g c10 w.heap.size zs w5 (by omega) hr5
          clear hr5 h0 hzl
          go_wp2_with fail
          refine HC2.out.mono ?_
          clear HC2
          rintro e w6 ⟨rfl, hr6, hg6⟩
          have HB6 : Hid (Below w.heap.size w w6) := HB5.out.trans (hg6.toBelow HB5.out.size fun j hj => by simp [Value.ownBlock] at hj; omega)
          have HR6 : Hid (w6.ownsRow w.heap.size 9 1 (.slice (some ⟨g, 0, none⟩) (Lib.compact zs).length c10) (Lib.compact zs).length ((Lib.compact zs).map encS)) := hr6
          clear hr6 hg6
          go_wp2
          go_ret2
          refine ⟨.slice (some ⟨g, 0, none⟩) (Lib.compact zs).length c10, ?_, ?_, HB6.out⟩
          · rw [HO.out]; rfl
          · rw [HO.out, HKS.out]; exact HR6.out
end Go.Proofs.YtgjcchafmcccjaaGreatDoor
