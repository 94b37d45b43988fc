/- WatchOnce answers true and leaves its argument as it was, for every list of calls. No condition. -/
import Derived.Test.YtppkomnpcpmcmaaRows
import Derived.Test.YtppkomnpcpmcmaaWLift
import Derived.Test.YtppkomnpcpmcmaaWOnce
import Derived.Test.YtppkomnpcpmcmaaWArgs
namespace Go.Proofs.Ytppkomnpcpmcmaa
open Go.ChangeShapes Go.WideShapes Go.ChangeAt Go.RowKit
set_option linter.unusedVariables false

namespace PWOnce
theorem own : ownKnob Try.prog.godebug = none := by kernel_rfl
theorem laidOut : laidOutB Try.prog = true := by kernel_rfl

set_option maxRecDepth 100000 in
theorem lifted (os : Os) (started : os.Started) (H : Type) (enc : TypeId × Value → H) (F : Stop.Interp) :
    ReturnsInLeavingWide Rows.watchOnceRow.assume Try.checked os 5 .any (Rows.watchOnceSpec.pre6 enc Try.prog Try.f5 Rows.watchOnceRow.domain false) ((OpenSpec.ofChange Rows.watchOnceSpec).postWith enc Try.prog Try.f5 F (outsideKept [.timePasses]) false true false) := by
  refine returnsLeavingTime_of_calls (C := Try.checked) own started (by kernel_rfl) Try.func5
    (ChangeSpec.witness6c (enc := enc) (C := Try.checked) ⟨#[], #[.slice none 0 0], []⟩ 8 (by kernel_rfl) (by kernel_rfl) (by kernel_rfl) (by kernel_rfl)) ?_
  intro W base args ds gs before hval0 hW hcnd hsz _
  have hval : ∀ (j : Nat) t v, Try.f5.params[j]? = some t → args[j]? = some v → Value.okWide Try.prog W .any base t v := hval0
  have hW' := hW
  obtain ⟨p, q, hA0, hV, rfl, hfz, hnd⟩ := hW
  have hA : DataW.TrodAll enc Try.prog W 0 (fun _ => true) true Try.f5.params.toList args.toList ds p := hA0
  rw [Try.params5] at hA hval
  obtain ⟨v0, d0, rfl, rfl, h0⟩ := trodAll_one hA
  obtain ⟨rfl, rfl⟩ := trodVars_none hV
  obtain ⟨ao, len, cap, rfl⟩ := okWide_slice Try.underlying25 (hval 0 25 v0 rfl rfl)
  have h0k := h0
  obtain ⟨fuel, hf⟩ := h0
  clear hA0 hval hval0 hsz
  simp only [List.append_nil] at hW'
  have hlt : ∀ x ∈ p, x.block < W.heap.size := fun x hx => by simpa using hW'.lt x (by simp [hx])
  obtain ⟨bs, hbl, hl, hbs⟩ : ∃ bs : List Bool, bs.length = len ∧ bs.length ≤ 9223372036854775807 ∧ BoolsAt W ao bs := by
    rcases Go.Deep.open_bools Try.underlying25 Try.underlying4 (by kernel_rfl) (by simpa [Value.cells] using hf) with ⟨hc, hx⟩ | ⟨a, len', cap', B, hc, hb, hl, hm, hx, hel⟩
    · simp at hc
      obtain ⟨rfl, rfl, rfl⟩ := hc
      exact ⟨[], rfl, by simp, fun i hi => by simp at hi⟩
    · simp at hc
      obtain ⟨rfl, rfl, rfl⟩ := hc
      refine ⟨(List.range len).map B, by simp, by simp [maxLen] at hm ⊢; omega, fun i hi => ?_⟩
      have hi' : i < len := by simpa using hi
      obtain ⟨b, off, rfl, hcell⟩ := cell_add (hel 0 (by omega)) (hel i (by omega))
      exact ⟨b, off, rfl, by simpa using hcell⟩
  subst hbl
  refine (once_walk ao cap bs W hl hbs).mono fun e W' ⟨he, hg⟩ => ?_
  subst he
  exact ⟨_, rfl, hg.os, _, _, _, [], _, [], hW', trodAll_mk1 (shut_bool Try.underlying4 _), trodAll_mk1 (Below.trod laidOut (by kernel_rfl) (of_decide_eq_true (by kernel_rfl)) h0k hg hlt), rfl, hg.frame _, fun h => by cases h⟩
end PWOnce

theorem watchOnce_holds : Rows.WatchOnceSaid :=
  OpenClaim.holds_of_wide_leaving_time 5 Try.f5 rfl rfl rfl rfl rfl rfl rfl ⟨rfl, rfl, rfl, rfl, rfl⟩ rfl rfl rfl rfl rfl (by kernel_rfl) Try.func5 (by kernel_rfl)
    (of_decide_eq_true (by kernel_rfl)) (by unfold Func.isWrapper; first | (rw [if_pos (by decide +kernel)]; kernel_rfl) | (rw [if_neg (by decide +kernel)]; exact ⟨rfl, rfl⟩))
    (fun os started H enc _ F => PWOnce.lifted os started H enc F)

#print axioms watchOnce_holds
end Go.Proofs.Ytppkomnpcpmcmaa
