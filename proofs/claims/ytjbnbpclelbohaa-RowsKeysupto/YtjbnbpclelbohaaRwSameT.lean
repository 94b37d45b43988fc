/- Layer 7 (rows): the document's SameTexts, SameRow, of what is alike. -/
import Derived.Test.YtjbnbpclelbohaaRwCopyM
import Derived.Deep.QuietTactic
import Derived.BigQuiet
import Derived.Lib.QuietBelow
namespace Go.Proofs.Ytjbnbpclelbohaa
open Go.RowKit Go.Sort
set_option linter.unusedVariables false
attribute [local go_sem] Oper.semAt_some

set_option maxRecDepth 100000 in
set_option maxHeartbeats 1000000 in
theorem sameTexts_calls (ao bo : Option Addr) (c d : Nat) (xs : List ByteArray) (w : World) (hl : xs.length ≤ 8796093022208) (ha : CellsAt w ao (xs.map Value.string)) (hb : CellsAt w bo (xs.map Value.string)) :
    Calls Try.prog 14 #[.slice ao xs.length c, .slice bo xs.length d] w fun e w' => e = .returned (.bool true) ∧ Below w.heap.size w w' := by
  have HA : Hid (CellsAt w ao (xs.map Value.string)) := ha
  have HC : Hid (CellsAt w bo (xs.map Value.string)) := hb
  clear ha hb
  obtain ⟨n, hn⟩ : ∃ n, n = xs.length := ⟨_, rfl⟩
  have HN : Hid (n = xs.length) := hn
  rw [← hn] at hl ⊢
  clear hn
  have q1 : ((n : Int) == (n : Int)) = true := beq_self_eq_true _
  go_enter Try.func14, Try.ntmps14
  go_wp2
  go_loopw [5] (fun i wr => ∃ k : Nat, k ≤ n ∧ i = .int .i64 k ∧ Hid (Below w.heap.size w wr)) (fun i _ => n - (intOf i).toNat)
  case atStart => exact ⟨0, Nat.zero_le _, rfl, Below.refl _ _⟩
  case round =>
    obtain ⟨k, hk, rfl, HB⟩ := hrel
    by_cases hlt : k < n
    · have hlt' : k < xs.length := by rw [← HN.out]; exact hlt
      obtain ⟨ab, af, rfl, c0⟩ := (HA.out.below HB.out).str k hlt'
      obtain ⟨bb, bf, rfl, c1⟩ := (HC.out.below HB.out).str k hlt'
      have hi1 : (k : Int) < (n : Int) := by omega
      have hi0 : (0 : Int) ≤ (k : Int) := by omega
      have hi2 : (0 : Int) ≤ (k : Int) ∧ (k : Int) < (n : Int) := ⟨hi0, hi1⟩
      generalize xs[k] = x at *
      have q2 : (x.toList == x.toList) = true := beq_self_eq_true _
      go_wp2
      go_quiet (fail)
      go_wp2
      go_roundw
      case rel => exact ⟨k + 1, by omega, by go_num, by first | exact HB | exact below_drewN HB.out _⟩
      case measure => simp [intOf]; omega
    · go_wp2
      go_ret
      exact ⟨rfl, HB.out⟩

set_option maxRecDepth 100000 in
set_option maxHeartbeats 4000000 in
theorem sameRow_calls (ca cb : Option Addr) (cc cd : Nat) (xs ys : List CV) (w : World) (hl : xs.length ≤ 4398046511104) (hal : Alike xs ys) (ha : RowAt w ca xs) (hb : RowAt w cb ys) :
    Calls Try.prog 15 #[.agg #[.slice ca xs.length cc], .agg #[.slice cb ys.length cd]] w fun e w' => e = .returned (.bool true) ∧ Below w.heap.size w w' := by
  have HA : Hid (RowAt w ca xs) := ha
  have HC : Hid (RowAt w cb ys) := hb
  have HAL : Hid (Alike xs ys) := hal
  obtain ⟨n, hn⟩ : ∃ n, n = xs.length := ⟨_, rfl⟩
  have HN : Hid (n = xs.length) := hn
  have HM : Hid (n = ys.length) := hn.trans hal.len
  rw [← hal.len, ← hn]
  rw [← hn] at hl
  clear ha hb hal hn
  have q1 : ((n : Int) == (n : Int)) = true := beq_self_eq_true _
  obtain ⟨w2, hw2⟩ : ∃ w2, w2 = (w.alloc (.cells #[.slice ca n cc] 24)).alloc (.cells #[.slice cb n cd] 24) := ⟨_, rfl⟩
  have HB2 : Hid (Below w.heap.size w w2) := by rw [hw2]; exact ((Below.refl _ _).alloc (Nat.le_refl _) _).alloc (by simp only [World.size_alloc]; omega) _
  have HX2 : Hid (w2.heap[w.heap.size]? = some (.cells #[.slice ca n cc] 24)) := by rw [Hid, hw2]; exact old_blk (new_blk _ _) _
  have HY2 : Hid (w2.heap[w.heap.size + 1]? = some (.cells #[.slice cb n cd] 24)) := by
    rw [Hid, hw2]
    have := new_blk (w.alloc (.cells #[.slice ca n cc] 24)) (.cells #[.slice cb n cd] 24)
    rw [World.size_alloc] at this
    exact this
  have a0 : w2.cell? ⟨w.heap.size, 0, none⟩ = some (.slice ca n cc) := by rw [cell_blk HX2.out]; rfl
  have b0 : w2.cell? ⟨w.heap.size + 1, 0, none⟩ = some (.slice cb n cd) := by rw [cell_blk HY2.out]; rfl
  go_enter Try.func15, Try.ntmps15
  go_upto_region 1 with fail
  rw [← hw2]
  clear hw2
  go_wp2
  go_loopw [5] (fun i wr => ∃ k : Nat, k ≤ n ∧ i = .int .i64 k ∧ Hid (Below w2.heap.size w2 wr)) (fun i _ => n - (intOf i).toNat)
  case atStart => exact ⟨0, Nat.zero_le _, rfl, Below.refl _ _⟩
  case round =>
    obtain ⟨k, hk, rfl, HB⟩ := hrel
    clear a0 b0
    have HBw : Hid (Below w.heap.size w wr) := HB2.out.trans (HB.out.mono HB2.out.size)
    have HXr : Hid (wr.heap[w.heap.size]? = some (.cells #[.slice ca n cc] 24)) := (HB.out.block _ (lt_blk HX2.out)).trans HX2.out
    have HYr : Hid (wr.heap[w.heap.size + 1]? = some (.cells #[.slice cb n cd] 24)) := (HB.out.block _ (lt_blk HY2.out)).trans HY2.out
    have a0 : wr.cell? ⟨w.heap.size, 0, none⟩ = some (.slice ca n cc) := by rw [cell_blk HXr.out]; rfl
    have b0 : wr.cell? ⟨w.heap.size + 1, 0, none⟩ = some (.slice cb n cd) := by rw [cell_blk HYr.out]; rfl
    by_cases hlt : k < n
    · have hlt' : k < xs.length := by rw [← HN.out]; exact hlt
      have hlt2 : k < ys.length := by rw [← HM.out]; exact hlt
      obtain ⟨ab, af, rfl, c0, c1, c2⟩ := ((HA.out.below HBw.out).row).cel k hlt'
      obtain ⟨bb, bf, rfl, d0, d1, d2⟩ := ((HC.out.below HBw.out).row).cel k hlt2
      have hll := (HA.out.wf _ (List.getElem_mem hlt')).2.2.2
      have hcore : xs[k].core = ys[k].core := by
        have := HAL.out.getD k
        rw [List.getD_eq_getElem?_getD, List.getD_eq_getElem?_getD, List.getElem?_eq_getElem hlt', List.getElem?_eq_getElem hlt2] at this
        exact this
      have ht : xs[k].t = ys[k].t := congrArg Prod.fst hcore
      have hnn : xs[k].n = ys[k].n := congrArg (fun x => x.2.1) hcore
      have hlq : xs[k].l = ys[k].l := congrArg (fun x => x.2.2) hcore
      have HLX : Hid (CellsAt wr xs[k].la (xs[k].l.map Value.string)) := (HA.out.below HBw.out).lst _ (List.getElem_mem hlt')
      have HLY : Hid (CellsAt wr ys[k].la (ys[k].l.map Value.string)) := (HC.out.below HBw.out).lst _ (List.getElem_mem hlt2)
      rw [← ht] at d0
      rw [← hnn] at d1
      rw [← hlq] at d2 HLY
      have cS := fun d os => Calls.regrown_of (sameTexts_calls xs[k].la ys[k].la xs[k].lc ys[k].lc xs[k].l (grow (redrawn wr d) os) hll (HLX.out.below (below_regrown wr d os)) (HLY.out.below (below_regrown wr d os)))
      have q2 : (xs[k].t.toList == xs[k].t.toList) = true := beq_self_eq_true _
      have q3 : (xs[k].n == xs[k].n) = true := beq_self_eq_true _
      have hi1 : (k : Int) < (n : Int) := by omega
      have hi0 : (0 : Int) ≤ (k : Int) := by omega
      have hi2 : (0 : Int) ≤ (k : Int) ∧ (k : Int) < (n : Int) := ⟨hi0, hi1⟩
      clear hcore ht hnn hlq HLX HLY
      generalize xs[k].t = xt at *
      generalize xs[k].n = xn at *
      generalize xs[k].l.length = ll at *
      generalize xs[k].la = xa at *
      generalize xs[k].lc = xc at *
      generalize ys[k].la = ya at *
      generalize ys[k].lc = yc at *
      go_upto_region 6 with fail
      have j0 := cell_regrown a0
      have j1 := cell_regrown b0
      have j2 := cell_regrown c0
      have j3 := cell_regrown c1
      have j4 := cell_regrown c2
      have j5 := cell_regrown d0
      have j6 := cell_regrown d1
      have j7 := cell_regrown d2
      clear a0 b0 c0 c1 c2 d0 d1 d2
      refine wp_region_quiet_below (by kernel_rfl) (by kernel_rfl) ?_
      repeat (quiet_step (exact cS _ _))
      refine wpQuiet_nil ?_
      intro w7 hw'
      obtain ⟨⟨dq, osq⟩, hw7⟩ := hw'
      have HB7 : Hid (Below w2.heap.size w2 w7) := HB.out.trans ((by rw [hw7]; exact below_regrown wr dq osq : Below wr.heap.size wr w7).mono HB.out.size)
      clear hw7 cS j0 j1 j2 j3 j4 j5 j6 j7
      go_wp2
      go_roundw
      case rel => exact ⟨k + 1, by omega, by go_num, HB7⟩
      case measure => simp [intOf]; omega
    · go_wp2
      go_ret
      exact ⟨rfl, HBw.out⟩
end Go.Proofs.Ytjbnbpclelbohaa
