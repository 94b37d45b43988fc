/- Layer 7 (rows): slices.Contains over parts. -/
import Derived.Test.YtindefkngcelnaaRwParts
import Derived.Test.YtindefkngcelnaaKSame
namespace Go.Proofs.Ytindefkngcelnaa
open Go.RowKit
set_option linter.unusedVariables false

def idxPt (q : Pt) (ps : List Pt) : Int := match ps.findIdx? (ptEq q) with | some i => (i : Int) | none => -1
theorem idxPt_hit {q : Pt} {ps : List Pt} {k : Nat} (hk : k < ps.length) (h : ptEq q ps[k] = true) (hb : noneTo (ptEq q) ps k) : (k : Int) = idxPt q ps := by
  have : ps.findIdx? (ptEq q) = some k := by
    rw [List.findIdx?_eq_some_iff_getElem]
    exact ⟨hk, h, fun j hj => by simp [hb j (by omega) hj]⟩
  simp [idxPt, this]
theorem idxPt_none {q : Pt} {ps : List Pt} {k : Nat} (hk : ps.length ≤ k) (hb : noneTo (ptEq q) ps k) : -1 = idxPt q ps := by
  have : ps.findIdx? (ptEq q) = none := by
    rw [List.findIdx?_eq_none_iff]
    intro x hx
    obtain ⟨j, hj, rfl⟩ := List.getElem_of_mem hx
    exact hb j hj (by omega)
  simp [idxPt, this]
theorem idxPt_any (q : Pt) (ps : List Pt) : decide (0 ≤ idxPt q ps) = ps.any (ptEq q) := by
  unfold idxPt
  cases h : ps.findIdx? (ptEq q) with
  | none =>
    have : ps.any (ptEq q) = false := by
      rw [List.any_eq_false]
      intro x hx
      rw [List.findIdx?_eq_none_iff] at h
      simp [h x hx]
    rw [this]; rfl
  | some i =>
    have : ps.any (ptEq q) = true := by
      rw [List.findIdx?_eq_some_iff_getElem] at h
      obtain ⟨hi, h1, _⟩ := h
      exact List.any_eq_true.2 ⟨_, List.getElem_mem hi, h1⟩
    rw [this]
    simp

set_option maxHeartbeats 1000000 in
theorem index_calls (ao : Option Addr) (cap : Nat) (ps : List Pt) (q : Pt) (w : World) (hl : ps.length ≤ 4398046511103) (hp : PartsAt w ao ps) :
    Calls Try.prog 69 #[.slice ao ps.length cap, .agg #[.int .i64 q.k, .string q.t, .int .u64 q.n]] w fun e w' => e = .returned (.int .i64 (idxPt q ps)) ∧ Below w.heap.size w w' := by
  have HP : Hid (PartsAt w ao ps) := hp
  clear hp
  go_enter Try.func69, Try.ntmps69
  go_wp2
  go_loopw [5, 8] (fun a5 x wr => ∃ k : Nat, k ≤ ps.length ∧ x = .int .i64 k ∧ Hid (noneTo (ptEq q) ps k) ∧ Hid (Below w.heap.size w wr ∧ wr.heap[w.heap.size]? = some (.cells #[.int .i64 q.k, .string q.t, .int .u64 q.n] 65))) (fun _ x _ => ps.length - (intOf x).toNat)
  case atStart => exact ⟨0, Nat.zero_le _, rfl, noneTo.zero _ _, (Below.refl _ _).alloc (Nat.le_refl _) _, new_blk _ _⟩
  case round =>
    obtain ⟨k, hk, rfl, HK, HB⟩ := hrel
    by_cases hlt : k < ps.length
    · obtain ⟨b, off, rfl, c0, c1, c2, -⟩ := (HP.out.below HB.out.1) k _ (List.getElem?_eq_getElem hlt)
      have d0 : wr.cell? ⟨w.heap.size, 0, none⟩ = some (.int .i64 q.k) := by rw [cell_blk HB.out.2]; rfl
      have d1 : wr.cell? ⟨w.heap.size, 1, none⟩ = some (.string q.t) := by rw [cell_blk HB.out.2]; rfl
      have d2 : wr.cell? ⟨w.heap.size, 2, none⟩ = some (.int .u64 q.n) := by rw [cell_blk HB.out.2]; rfl
      have hpe : ∀ W : World, (binOp .eql 65 (.agg #[.int .i64 q.k, .string q.t, .int .u64 q.n]) (.agg #[.int .i64 ps[k].k, .string ps[k].t, .int .u64 ps[k].n])).run Try.prog W = .ok (.bool (ptEq q ps[k])) W := fun W => run_eql_part _ _ _ _ _ _ W
      have hgp := guard_part
      cases e1 : ptEq q ps[k] with
      | true =>
        have HE : Hid ((k : Int) = idxPt q ps) := idxPt_hit hlt e1 HK.out
        rw [e1] at hpe
        clear e1
        go_wp2
        go_quiet (fail)
        go_wp2
        go_ret
        exact ⟨ret_num HE.out, HB.out.1.trans ((below_draws _ _).mono HB.out.1.size)⟩
      | false =>
        have HE : Hid (ptEq q ps[k] = false) := e1
        rw [e1] at hpe
        clear e1
        go_wp2
        go_quiet (fail)
        go_wp2
        go_roundw
        case rel => exact ⟨k + 1, by omega, by go_num, HK.out.succ hlt HE.out, HB.out.1.trans ((below_draws _ _).mono HB.out.1.size), HB.out.2⟩
        case measure => simp [intOf]; omega
    · go_wp2
      go_ret
      exact ⟨ret_num (idxPt_none (by omega) HK.out), HB.out.1⟩

set_option maxHeartbeats 1000000 in
theorem contains_calls (ao : Option Addr) (cap : Nat) (ps : List Pt) (q : Pt) (w : World) (hl : ps.length ≤ 4398046511103) (hp : PartsAt w ao ps) :
    Calls Try.prog 59 #[.slice ao ps.length cap, .agg #[.int .i64 q.k, .string q.t, .int .u64 q.n]] w fun e w' => e = .returned (.bool (ps.any (ptEq q))) ∧ Below w.heap.size w w' := by
  have hb0 : Below w.heap.size w (w.alloc (.cells #[.int .i64 q.k, .string q.t, .int .u64 q.n] 65)) := (Below.refl _ _).alloc (Nat.le_refl _) _
  have HC := index_calls ao cap ps q (w.alloc (.cells #[.int .i64 q.k, .string q.t, .int .u64 q.n] 65)) hl (hp.below hb0)
  have HC : Hid (Calls Try.prog 69 #[.slice ao ps.length cap, .agg #[.int .i64 q.k, .string q.t, .int .u64 q.n]] (w.alloc (.cells #[.int .i64 q.k, .string q.t, .int .u64 q.n] 65)) fun e w' => e = .returned (.int .i64 (idxPt q ps)) ∧ Below (w.alloc (.cells #[.int .i64 q.k, .string q.t, .int .u64 q.n] 65)).heap.size (w.alloc (.cells #[.int .i64 q.k, .string q.t, .int .u64 q.n] 65)) w') := HC
  clear hp
  go_enter Try.func59, Try.ntmps59
  go_wp2_with fail
  refine HC.out.mono ?_
  rintro e w1 ⟨rfl, hb1⟩
  clear HC
  go_wp2
  go_ret
  exact ⟨ret_bool (idxPt_any q ps), hb0.trans (hb1.mono hb0.size)⟩
end Go.Proofs.Ytindefkngcelnaa
