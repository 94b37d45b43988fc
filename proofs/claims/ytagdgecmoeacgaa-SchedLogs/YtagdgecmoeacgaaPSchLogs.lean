/- SchedLogs answers true and leaves its arguments as they were, for every game and first number: running a log's workers is a play. No condition. -/
import Derived.Test.YtagdgecmoeacgaaRows
import Derived.Test.YtagdgecmoeacgaaScLogsL
import Derived.ChangeSame
import Derived.JoinedOf
import Derived.JoinedAt
import Derived.RowKit3
import Derived.OpenShut
namespace Go.Proofs.Ytagdgecmoeacgaa
open Go.ChangeShapes Go.WideShapes Go.ChangeAt Go.RowKit
set_option linter.unusedVariables false

namespace PSchLogs
theorem own : ownKnob Try.prog.godebug = none := by kernel_rfl
theorem laidOut : laidOutB Try.prog = true := by kernel_rfl

set_option maxRecDepth 100000 in
theorem lifted (os : Os) (started : os.Started) (H : Type) (enc : TypeId × Value → H) :
    ReturnsInHanded {} Try.checked os 4 .any (Rows.schedLogsSpec.pre6 enc Try.prog Try.f4 Rows.schedLogsRow.domain false) (Rows.schedLogsSpec.post enc Try.prog Try.f4 false true false false) := by
  refine returnsInHanded_of_change_sized (C := Try.checked) own started (by kernel_rfl) Try.func4
    (ChangeSpec.witness6 (enc := enc) (C := Try.checked) false ⟨#[], #[.agg #[.slice none 0 0, .slice none 0 0, .int .i64 0, .int .i64 0], .int .i64 0], []⟩ 8 (by kernel_rfl) (by kernel_rfl) (by kernel_rfl) (by kernel_rfl)) ?_
  intro W base args ds gs before hval0 hW _ hsz0 _
  have hsz : (DataW.weightsEach Try.prog (Try.f4.params.toList ++ Rows.schedLogsSpec.plain.varTypes Try.prog) (ds ++ gs)).all (· ≤ reachBytes) = true := hsz0
  have hval : ∀ (j : Nat) t v, Try.f4.params[j]? = some t → args[j]? = some v → Value.okWide Try.prog W .any base t v := hval0
  have hW' := hW
  obtain ⟨p, q, hA0, hV, rfl, hfz, hnd⟩ := hW
  have hA : DataW.TrodAll enc Try.prog W 0 (fun _ => true) true Try.f4.params.toList args.toList ds p := hA0
  rw [Try.params4] at hA hval hsz
  obtain ⟨v0, v1, d0, d1, p0, p1, rfl, rfl, rfl, h0, h1⟩ := trodAll_two hA
  obtain ⟨rfl, rfl⟩ := trodVars_none hV
  obtain ⟨cs, rfl, hcs⟩ := okWide_struct Try.underlying25 (hval 0 25 v0 rfl rfl)
  rw [cells_game] at hcs
  obtain ⟨c0, c1, c2, c3, rfl⟩ := four_cells hcs
  have k1 := h1
  obtain ⟨first, rfl, rfl, rfl, hx⟩ := open_int Try.underlying3 (hval 1 3 v1 rfl rfl) h1
  have k0 := h0
  obtain ⟨fuel0, hf0⟩ := h0
  clear hA0 hval hval0 hsz0
  simp only [List.append_nil] at hW'
  have hlt0 : ∀ x ∈ p0, x.block < W.heap.size := fun x hx => by simpa using hW'.lt x (by simp [hx])
  obtain ⟨jo, jn, jc, ao, pn, pc, m, n, y0, y1, y2, y3, fk, rfl, rfl, rfl, rfl, hm, hn, hd, g0, g1⟩ := open_game (by simpa [Value.cells] using hf0)
  simp only at hd
  have hcap := slice_cap Try.underlying23 g1
  obtain ⟨js, spare0, rfl, hd0, hja⟩ := open_jobs g0
  obtain ⟨ps, spare, rfl, hd1, hpa, hnil, hpr⟩ := open_ints g1
  have hw : ∀ n ∈ d0.weights Try.prog 25, n ≤ reachBytes := fun n hn => of_decide_eq_true (List.all_eq_true.1 hsz _ (DataW.weights_mem_each (j := 0) rfl rfl n hn))
  rw [hd] at hw
  simp only [DataW.weights, Try.underlying25] at hw
  have hr0 := jobs_reach hd0 fun n hn => hw n (DataW.weights_mem_each (j := 0) rfl rfl n hn)
  have hr1 := ints_reach hd1 fun n hn => hw n (DataW.weights_mem_each (j := 1) rfl rfl n hn)
  refine (schedLogs_calls jo js.length jc js ao ps.length pc ps m n first W hja rfl (by omega) hpa rfl (by omega) hcap hnil hpr hm.2).mono fun e W' ⟨he, hg⟩ => ?_
  subst he
  exact ⟨_, rfl, _, _, _, [], _, [], hW', trodAll_mk1 (shut_bool Try.underlying4 _), trodAll_mk2 (Below.trod laidOut (by kernel_rfl) (of_decide_eq_true (by kernel_rfl)) k0 hg hlt0) (Below.trod laidOut (by kernel_rfl) (of_decide_eq_true (by kernel_rfl)) k1 hg (by simp)), rfl, hg.frame _, fun h => by cases h⟩
end PSchLogs

theorem schedLogs_holds : Rows.SchedLogsSaid :=
  OpenClaim.holds_of_wide 4 Try.f4 rfl rfl rfl rfl rfl rfl rfl ⟨rfl, rfl, rfl, rfl, rfl⟩ rfl rfl rfl rfl rfl (by kernel_rfl) Try.func4 (by kernel_rfl)
    (of_decide_eq_true (by kernel_rfl)) (by unfold Func.isWrapper; first | (rw [if_pos (by decide +kernel)]; kernel_rfl) | (rw [if_neg (by decide +kernel)]; exact ⟨rfl, rfl⟩))
    (fun os started H enc _ => PSchLogs.lifted os started H enc)

#print axioms schedLogs_holds
end Go.Proofs.Ytagdgecmoeacgaa
