/- The walk of SameParts. -/
import Derived.Test.YtindefkngcelnaaKPartsG
import Derived.Deep.QuietTactic
import Derived.BigQuiet
import Derived.Laws.StructEq
namespace Go.Proofs.Ytindefkngcelnaa
open Go.RowKit
set_option linter.unusedVariables false

def ptEq (p q : Pt) : Bool := p.k == q.k && (p.t.toList == q.t.toList && p.n == q.n)

theorem ptEq_iff (p q : Pt) : ptEq p q = true ↔ p = q := by
  obtain ⟨k, t, n⟩ := p
  obtain ⟨k', t', n'⟩ := q
  simp only [ptEq, Bool.and_eq_true, beq_iff_eq, Pt.mk.injEq]
  constructor
  · rintro ⟨h1, h2, h3⟩
    refine ⟨h1, ?_, h3⟩
    rw [ByteArray.toList_eq, ByteArray.toList_eq] at h2
    cases t; cases t'
    simpa using Array.toList_inj.1 h2
  · rintro ⟨rfl, rfl, rfl⟩; exact ⟨rfl, rfl, rfl⟩

theorem run_equal_part (k n k' n' : Int) (t t' : ByteArray) (w : World) :
    (Op.equalIn 10000 65 (.agg #[.int .i64 k, .string t, .int .u64 n]) (.agg #[.int .i64 k', .string t', .int .u64 n'])).run Try.prog w = .ok (ptEq ⟨k, t, n⟩ ⟨k', t', n'⟩) w := by
  have u3 := Try.underlying3
  have a3 := Try.isAgg3
  have u9 := Try.underlying9
  have a9 := Try.isAgg9
  have u42 := Try.underlying61
  have a42 := Try.isAgg61
  have hS : Try.prog.underlying 65 = some (.struct (Try.prog.fieldsOf 65)) := by kernel_rfl
  have hp : Try.prog.stoodInHeld 65 = false := by kernel_rfl
  rw [show (10000 : Nat) = 9999 + 1 from rfl, run_equalIn_agg w 9999 65 _ _ hS hp]
  simp only [Program.fieldsOf, Try.underlying65]
  go_simp
  by_cases h1 : k = k' <;> by_cases h2 : t.toList = t'.toList <;> by_cases h3 : n = n' <;> simp [h1, h2, h3, ptEq]

theorem run_neq_part (k n k' n' : Int) (t t' : ByteArray) (w : World) :
    (binOp .neq 65 (.agg #[.int .i64 k, .string t, .int .u64 n]) (.agg #[.int .i64 k', .string t', .int .u64 n'])).run Try.prog w = .ok (.bool (!ptEq ⟨k, t, n⟩ ⟨k', t', n'⟩)) w := by
  rw [run_neq_struct, run_equal_part]; rfl
theorem run_eql_part (k n k' n' : Int) (t t' : ByteArray) (w : World) :
    (binOp .eql 65 (.agg #[.int .i64 k, .string t, .int .u64 n]) (.agg #[.int .i64 k', .string t', .int .u64 n'])).run Try.prog w = .ok (.bool (ptEq ⟨k, t, n⟩ ⟨k', t', n'⟩)) w := by
  rw [run_eql_struct, run_equal_part]; rfl
theorem guard_part : Try.prog.eqGuardType Try.prog.depth 65 = false := by kernel_rfl

def sameB : List Pt → List Pt → Bool
  | [], [] => true
  | p :: ps, q :: qs => ptEq p q && sameB ps qs
  | _, _ => false
theorem sameB_iff (ps qs : List Pt) : sameB ps qs = true ↔ ps = qs := by
  induction ps generalizing qs with
  | nil => cases qs <;> simp [sameB]
  | cons p ps ih =>
    cases qs with
    | nil => simp [sameB]
    | cons q qs => simp only [sameB, Bool.and_eq_true, ptEq_iff, ih, List.cons.injEq]
theorem sameB_ne {ps qs : List Pt} (h : ¬ ps = qs) : false = sameB ps qs := by
  cases he : sameB ps qs with
  | false => rfl
  | true => exact absurd ((sameB_iff _ _).1 he) h
theorem sameB_eq {ps qs : List Pt} (h : ps = qs) : true = sameB ps qs := ((sameB_iff _ _).2 h).symm

set_option maxHeartbeats 400000 in
theorem same_calls (ao bo : Option Addr) (cap cap2 : Nat) (ps qs : List Pt) (w : World) (hl : ps.length ≤ 4398046511104) (hl2 : qs.length ≤ 4398046511104) (hp : PartsAt w ao ps) (hq : PartsAt w bo qs) :
    Calls Try.prog 20 #[.slice ao ps.length cap, .slice bo qs.length cap2] w fun e w' => e = .returned (.bool (sameB ps qs)) ∧ Below w.heap.size w w' := by
  by_cases hle : ps.length = qs.length
  · have hne : ((ps.length : Int) != (qs.length : Int)) = false := by simp; omega
    have HE : Hid (ps.length = qs.length) := hle
    clear hle
    go_enter Try.func20, Try.ntmps20
    go_wp2
    go_loopw [5] (fun i wr => ∃ k : Nat, k ≤ ps.length ∧ i = .int .i64 k ∧ Hid (ps.take k = qs.take k) ∧ Below w.heap.size w wr) (fun i _ => ps.length - (intOf i).toNat)
    case atStart => exact ⟨0, Nat.zero_le _, rfl, by simp [Hid], Below.refl _ _⟩
    case round =>
      obtain ⟨k, hk, rfl, HT, hb⟩ := hrel
      by_cases hlt : k < ps.length
      · have hlt2 : k < qs.length := by have := HE.out; omega
        obtain ⟨b, off, rfl, h0, h1, h2, hwf⟩ := (hp.below hb) k ps[k] (by simp [hlt])
        obtain ⟨b', off', rfl, h0', h1', h2', hwf'⟩ := (hq.below hb) k qs[k] (by simp [hlt2])
        have hli : (k : Int) < (ps.length : Int) := by omega
        have hli2 : (k : Int) < (qs.length : Int) := by omega
        have hrun := run_neq_part ps[k].k ps[k].n qs[k].k qs[k].n ps[k].t qs[k].t
        have hgd := guard_part
        go_wp2
        go_quiet (fail)
        clear hrun hgd
        generalize hbq : ptEq ⟨ps[k].k, ps[k].t, ps[k].n⟩ ⟨qs[k].k, qs[k].t, qs[k].n⟩ = bq
        have HB : Hid (ptEq ps[k] qs[k] = bq) := hbq
        clear hbq
        cases bq with
        | true =>
          have HT2 : Hid (ps.take (k + 1) = qs.take (k + 1)) := by
            show _ = _
            rw [List.take_succ_eq_append_getElem hlt, List.take_succ_eq_append_getElem hlt2, HT.out, (ptEq_iff _ _).1 HB.out]
          go_wp2
          go_light
          exact ⟨⟨k + 1, by omega, by go_num, HT2, below_drewN hb _⟩, by simp [intOf]; omega⟩
        | false =>
          have HN : Hid (¬ ps = qs) := fun h => by
            have h2 := HB.out
            subst h
            rw [(ptEq_iff _ _).2 rfl] at h2
            exact absurd h2 (by decide)
          go_wp2
          go_light
          go_ret
          exact ⟨ret_bool (sameB_ne HN.out), below_drewN hb _⟩
      · have HN : Hid (ps = qs) := by
          show _ = _
          have := HT.out
          rwa [List.take_of_length_le (by omega), List.take_of_length_le (by have := HE.out; omega)] at this
        go_wp2
        go_ret
        exact ⟨ret_bool (sameB_eq HN.out), hb⟩
  · have hne : ((ps.length : Int) != (qs.length : Int)) = true := by simp; omega
    have HN : Hid (¬ ps = qs) := fun h => hle (by rw [h])
    clear hle
    go_enter Try.func20, Try.ntmps20
    go_wp2
    go_ret
    exact ⟨ret_bool (sameB_ne HN.out), Below.refl _ _⟩
end Go.Proofs.Ytindefkngcelnaa
