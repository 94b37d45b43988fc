import Derived.Test.YtjbnbpclelbohaaKPartsG
import Derived.Deep.QuietTactic
import Derived.BigQuiet
import Derived.Laws.StructEq
import Derived.Test.YtjbnbpclelbohaaRwParts
/- The walk of SameParts. -/
namespace Go.Proofs.Ytjbnbpclelbohaa
open Go.RowKit
set_option linter.unusedVariables false

def ptEq (p q : Pt) : Bool := p.k == q.k && (p.t.toList == q.t.toList && p.n == q.n)

theorem ptEq_iff (p q : Pt) : ptEq p q = true ↔ p = q := by
  obtain ⟨k, t, n⟩ := p
  obtain ⟨k', t', n'⟩ := q
  simp only [ptEq, Bool.and_eq_true, beq_iff_eq, Pt.mk.injEq]
  constructor
  · rintro ⟨h1, h2, h3⟩
    refine ⟨h1, ?_, h3⟩
    rw [ByteArray.toList_eq, ByteArray.toList_eq] at h2
    cases t; cases t'
    simpa using Array.toList_inj.1 h2
  · rintro ⟨rfl, rfl, rfl⟩; exact ⟨rfl, rfl, rfl⟩

theorem run_equal_part (k n k' n' : Int) (t t' : ByteArray) (w : World) :
    (Op.equalIn 10000 57 (.agg #[.int .i64 k, .string t, .int .u64 n]) (.agg #[.int .i64 k', .string t', .int .u64 n'])).run Try.prog w = .ok (ptEq ⟨k, t, n⟩ ⟨k', t', n'⟩) w := by
  have u3 := Try.underlying3
  have a3 := Try.isAgg3
  have u9 := Try.underlying9
  have a9 := Try.isAgg9
  have u42 := Try.underlying53
  have a42 := Try.isAgg53
  have hS : Try.prog.underlying 57 = some (.struct (Try.prog.fieldsOf 57)) := by kernel_rfl
  have hp : Try.prog.stoodInHeld 57 = false := by kernel_rfl
  rw [show (10000 : Nat) = 9999 + 1 from rfl, run_equalIn_agg w 9999 57 _ _ hS hp]
  simp only [Program.fieldsOf, Try.underlying57]
  go_simp
  by_cases h1 : k = k' <;> by_cases h2 : t.toList = t'.toList <;> by_cases h3 : n = n' <;> simp [h1, h2, h3, ptEq]

theorem run_neq_part (k n k' n' : Int) (t t' : ByteArray) (w : World) :
    (binOp .neq 57 (.agg #[.int .i64 k, .string t, .int .u64 n]) (.agg #[.int .i64 k', .string t', .int .u64 n'])).run Try.prog w = .ok (.bool (!ptEq ⟨k, t, n⟩ ⟨k', t', n'⟩)) w := by
  rw [run_neq_struct, run_equal_part]; rfl
theorem run_eql_part (k n k' n' : Int) (t t' : ByteArray) (w : World) :
    (binOp .eql 57 (.agg #[.int .i64 k, .string t, .int .u64 n]) (.agg #[.int .i64 k', .string t', .int .u64 n'])).run Try.prog w = .ok (.bool (ptEq ⟨k, t, n⟩ ⟨k', t', n'⟩)) w := by
  rw [run_eql_struct, run_equal_part]; rfl
theorem guard_part : Try.prog.eqGuardType Try.prog.depth 57 = false := by kernel_rfl

def sameB : List Pt → List Pt → Bool
  | [], [] => true
  | p :: ps, q :: qs => ptEq p q && sameB ps qs
  | _, _ => false
theorem sameB_iff (ps qs : List Pt) : sameB ps qs = true ↔ ps = qs := by
  induction ps generalizing qs with
  | nil => cases qs <;> simp [sameB]
  | cons p ps ih =>
    cases qs with
    | nil => simp [sameB]
    | cons q qs => simp only [sameB, Bool.and_eq_true, ptEq_iff, ih, List.cons.injEq]
theorem sameB_ne {ps qs : List Pt} (h : ¬ ps = qs) : false = sameB ps qs := by
  cases he : sameB ps qs with
  | false => rfl
  | true => exact absurd ((sameB_iff _ _).1 he) h
theorem sameB_eq {ps qs : List Pt} (h : ps = qs) : true = sameB ps qs := ((sameB_iff _ _).2 h).symm

set_option maxHeartbeats 400000 in
theorem same_calls (ao bo : Option Addr) (cap cap2 : Nat) (ps qs : List Pt) (w : World) (hl : ps.length ≤ 4398046511104) (hl2 : qs.length ≤ 4398046511104) (hp : PartsAt w ao ps) (hq : PartsAt w bo qs) :
    Calls Try.prog 19 #[.slice ao ps.length cap, .slice bo qs.length cap2] w fun e w' => e = .returned (.bool (sameB ps qs)) ∧ Below w.heap.size w w' := by
  by_cases hle : ps.length = qs.length
  · have hne : ((ps.length : Int) != (qs.length : Int)) = false := by simp; omega
    have HE : Hid (ps.length = qs.length) := hle
    clear hle
    go_enter Try.func19, Try.ntmps19
    go_wp2
    go_loopw [5] (fun i wr => ∃ k : Nat, k ≤ ps.length ∧ i = .int .i64 k ∧ Hid (ps.take k = qs.take k) ∧ Below w.heap.size w wr) (fun i _ => ps.length - (intOf i).toNat)
    case atStart => exact ⟨0, Nat.zero_le _, rfl, by simp [Hid], Below.refl _ _⟩
    case round =>
      obtain ⟨k, hk, rfl, HT, hb⟩ := hrel
      by_cases hlt : k < ps.length
      · have hlt2 : k < qs.length := by have := HE.out; omega
        obtain ⟨b, off, rfl, h0, h1, h2, hwf⟩ := (hp.below hb) k ps[k] (by simp [hlt])
        obtain ⟨b', off', rfl, h0', h1', h2', hwf'⟩ := (hq.below hb) k qs[k] (by simp [hlt2])
        have hli : (k : Int) < (ps.length : Int) := by omega
        have hli2 : (k : Int) < (qs.length : Int) := by omega
        have hrun := run_neq_part ps[k].k ps[k].n qs[k].k qs[k].n ps[k].t qs[k].t
        have hgd := guard_part
        go_wp2
        go_quiet (fail)
        clear hrun hgd
        generalize hbq : ptEq ⟨ps[k].k, ps[k].t, ps[k].n⟩ ⟨qs[k].k, qs[k].t, qs[k].n⟩ = bq
        have HB : Hid (ptEq ps[k] qs[k] = bq) := hbq
        clear hbq
        cases bq with
        | true =>
          have HT2 : Hid (ps.take (k + 1) = qs.take (k + 1)) := by
            show _ = _
            rw [List.take_succ_eq_append_getElem hlt, List.take_succ_eq_append_getElem hlt2, HT.out, (ptEq_iff _ _).1 HB.out]
          go_wp2
          go_light
          exact ⟨⟨k + 1, by omega, by go_num, HT2, below_drewN hb _⟩, by simp [intOf]; omega⟩
        | false =>
          have HN : Hid (¬ ps = qs) := fun h => by
            have h2 := HB.out
            subst h
            rw [(ptEq_iff _ _).2 rfl] at h2
            exact absurd h2 (by decide)
          go_wp2
          go_light
          go_ret
          exact ⟨ret_bool (sameB_ne HN.out), below_drewN hb _⟩
      · have HN : Hid (ps = qs) := by
          show _ = _
          have := HT.out
          rwa [List.take_of_length_le (by omega), List.take_of_length_le (by have := HE.out; omega)] at this
        go_wp2
        go_ret
        exact ⟨ret_bool (sameB_eq HN.out), hb⟩
  · have hne : ((ps.length : Int) != (qs.length : Int)) = true := by simp; omega
    have HN : Hid (¬ ps = qs) := fun h => hle (by rw [h])
    clear hle
    go_enter Try.func19, Try.ntmps19
    go_wp2
    go_ret
    exact ⟨ret_bool (sameB_ne HN.out), Below.refl _ _⟩
end Go.Proofs.Ytjbnbpclelbohaa

/- Layer 7 (rows): slices.Contains over parts. -/
namespace Go.Proofs.Ytjbnbpclelbohaa
open Go.RowKit
set_option linter.unusedVariables false

def idxPt (q : Pt) (ps : List Pt) : Int := match ps.findIdx? (ptEq q) with | some i => (i : Int) | none => -1
theorem idxPt_hit {q : Pt} {ps : List Pt} {k : Nat} (hk : k < ps.length) (h : ptEq q ps[k] = true) (hb : noneTo (ptEq q) ps k) : (k : Int) = idxPt q ps := by
  have : ps.findIdx? (ptEq q) = some k := by
    rw [List.findIdx?_eq_some_iff_getElem]
    exact ⟨hk, h, fun j hj => by simp [hb j (by omega) hj]⟩
  simp [idxPt, this]
theorem idxPt_none {q : Pt} {ps : List Pt} {k : Nat} (hk : ps.length ≤ k) (hb : noneTo (ptEq q) ps k) : -1 = idxPt q ps := by
  have : ps.findIdx? (ptEq q) = none := by
    rw [List.findIdx?_eq_none_iff]
    intro x hx
    obtain ⟨j, hj, rfl⟩ := List.getElem_of_mem hx
    exact hb j hj (by omega)
  simp [idxPt, this]
theorem idxPt_any (q : Pt) (ps : List Pt) : decide (0 ≤ idxPt q ps) = ps.any (ptEq q) := by
  unfold idxPt
  cases h : ps.findIdx? (ptEq q) with
  | none =>
    have : ps.any (ptEq q) = false := by
      rw [List.any_eq_false]
      intro x hx
      rw [List.findIdx?_eq_none_iff] at h
      simp [h x hx]
    rw [this]; rfl
  | some i =>
    have : ps.any (ptEq q) = true := by
      rw [List.findIdx?_eq_some_iff_getElem] at h
      obtain ⟨hi, h1, _⟩ := h
      exact List.any_eq_true.2 ⟨_, List.getElem_mem hi, h1⟩
    rw [this]
    simp

set_option maxHeartbeats 1000000 in
theorem index_calls (ao : Option Addr) (cap : Nat) (ps : List Pt) (q : Pt) (w : World) (hl : ps.length ≤ 4398046511103) (hp : PartsAt w ao ps) :
    Calls Try.prog 65 #[.slice ao ps.length cap, .agg #[.int .i64 q.k, .string q.t, .int .u64 q.n]] w fun e w' => e = .returned (.int .i64 (idxPt q ps)) ∧ Below w.heap.size w w' := by
  have HP : Hid (PartsAt w ao ps) := hp
  clear hp
  go_enter Try.func65, Try.ntmps65
  go_wp2
  go_loopw [5, 8] (fun a5 x wr => ∃ k : Nat, k ≤ ps.length ∧ x = .int .i64 k ∧ Hid (noneTo (ptEq q) ps k) ∧ Hid (Below w.heap.size w wr ∧ wr.heap[w.heap.size]? = some (.cells #[.int .i64 q.k, .string q.t, .int .u64 q.n] 57))) (fun _ x _ => ps.length - (intOf x).toNat)
  case atStart => exact ⟨0, Nat.zero_le _, rfl, noneTo.zero _ _, (Below.refl _ _).alloc (Nat.le_refl _) _, new_blk _ _⟩
  case round =>
    obtain ⟨k, hk, rfl, HK, HB⟩ := hrel
    by_cases hlt : k < ps.length
    · obtain ⟨b, off, rfl, c0, c1, c2, -⟩ := (HP.out.below HB.out.1) k _ (List.getElem?_eq_getElem hlt)
      have d0 : wr.cell? ⟨w.heap.size, 0, none⟩ = some (.int .i64 q.k) := by rw [cell_blk HB.out.2]; rfl
      have d1 : wr.cell? ⟨w.heap.size, 1, none⟩ = some (.string q.t) := by rw [cell_blk HB.out.2]; rfl
      have d2 : wr.cell? ⟨w.heap.size, 2, none⟩ = some (.int .u64 q.n) := by rw [cell_blk HB.out.2]; rfl
      have hpe : ∀ W : World, (binOp .eql 57 (.agg #[.int .i64 q.k, .string q.t, .int .u64 q.n]) (.agg #[.int .i64 ps[k].k, .string ps[k].t, .int .u64 ps[k].n])).run Try.prog W = .ok (.bool (ptEq q ps[k])) W := fun W => run_eql_part _ _ _ _ _ _ W
      have hgp := guard_part
      cases e1 : ptEq q ps[k] with
      | true =>
        have HE : Hid ((k : Int) = idxPt q ps) := idxPt_hit hlt e1 HK.out
        rw [e1] at hpe
        clear e1
        go_wp2
        go_quiet (fail)
        go_wp2
        go_ret
        exact ⟨ret_num HE.out, HB.out.1.trans ((below_draws _ _).mono HB.out.1.size)⟩
      | false =>
        have HE : Hid (ptEq q ps[k] = false) := e1
        rw [e1] at hpe
        clear e1
        go_wp2
        go_quiet (fail)
        go_wp2
        go_roundw
        case rel => exact ⟨k + 1, by omega, by go_num, HK.out.succ hlt HE.out, HB.out.1.trans ((below_draws _ _).mono HB.out.1.size), HB.out.2⟩
        case measure => simp [intOf]; omega
    · go_wp2
      go_ret
      exact ⟨ret_num (idxPt_none (by omega) HK.out), HB.out.1⟩

set_option maxHeartbeats 1000000 in
theorem contains_calls (ao : Option Addr) (cap : Nat) (ps : List Pt) (q : Pt) (w : World) (hl : ps.length ≤ 4398046511103) (hp : PartsAt w ao ps) :
    Calls Try.prog 53 #[.slice ao ps.length cap, .agg #[.int .i64 q.k, .string q.t, .int .u64 q.n]] w fun e w' => e = .returned (.bool (ps.any (ptEq q))) ∧ Below w.heap.size w w' := by
  have hb0 : Below w.heap.size w (w.alloc (.cells #[.int .i64 q.k, .string q.t, .int .u64 q.n] 57)) := (Below.refl _ _).alloc (Nat.le_refl _) _
  have HC := index_calls ao cap ps q (w.alloc (.cells #[.int .i64 q.k, .string q.t, .int .u64 q.n] 57)) hl (hp.below hb0)
  have HC : Hid (Calls Try.prog 65 #[.slice ao ps.length cap, .agg #[.int .i64 q.k, .string q.t, .int .u64 q.n]] (w.alloc (.cells #[.int .i64 q.k, .string q.t, .int .u64 q.n] 57)) fun e w' => e = .returned (.int .i64 (idxPt q ps)) ∧ Below (w.alloc (.cells #[.int .i64 q.k, .string q.t, .int .u64 q.n] 57)).heap.size (w.alloc (.cells #[.int .i64 q.k, .string q.t, .int .u64 q.n] 57)) w') := HC
  clear hp
  go_enter Try.func53, Try.ntmps53
  go_wp2_with fail
  refine HC.out.mono ?_
  rintro e w1 ⟨rfl, hb1⟩
  clear HC
  go_wp2
  go_ret
  exact ⟨ret_bool (idxPt_any q ps), hb0.trans (hb1.mono hb0.size)⟩
end Go.Proofs.Ytjbnbpclelbohaa
