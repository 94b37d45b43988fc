/- WatchFirst answers true and leaves its arguments as they were, for every number and every list of numbers. No condition. -/
import Derived.Test.YtppkomnpcpmcmaaRows
import Derived.Test.YtppkomnpcpmcmaaWLift
import Derived.Test.YtppkomnpcpmcmaaWFirst
import Derived.Test.YtppkomnpcpmcmaaWArgs
namespace Go.Proofs.Ytppkomnpcpmcmaa
open Go.ChangeShapes Go.WideShapes Go.ChangeAt Go.RowKit
set_option linter.unusedVariables false

/-- A slice of numbers that came in. -/
theorem open_numbers {H : Type} {enc : TypeId × Value → H} {W : World} {fuel : Nat} {ao : Option Addr} {len cap : Nat} {x : DataW H × List MemPlace}
    (h : DataW.trod enc Try.prog W 0 (fun _ => true) true fuel 36 [.slice ao len cap] = some x) : ∃ zs : List Int, zs.length = len ∧ zs.length ≤ 9223372036854775807 ∧ IntsAt W ao zs := by
  rcases open_ints Try.underlying36 Try.underlying3 (by kernel_rfl) h with ⟨hc, hx⟩ | ⟨a, len', cap', zs, hc, hb, hl, hm, hzl, hx, hel, hwf⟩
  · simp at hc
    obtain ⟨rfl, rfl, rfl⟩ := hc
    exact ⟨[], rfl, by simp, fun i hi => by simp at hi⟩
  · simp at hc
    obtain ⟨rfl, rfl, rfl⟩ := hc
    simp only [if_true] at hzl
    refine ⟨zs.take len, by simp; omega, by simp [maxLen] at hm ⊢; omega, fun i hi => ?_⟩
    have hi' : i < len := by simp at hi; omega
    obtain ⟨b, off, rfl, hcell⟩ := cell_add (hel 0 (by omega)) (hel i (by omega))
    refine ⟨b, off, rfl, ?_⟩
    rw [hcell, List.getElem_take]
    simp [show i < zs.length by omega]

namespace PWFirst
theorem own : ownKnob Try.prog.godebug = none := by kernel_rfl
theorem laidOut : laidOutB Try.prog = true := by kernel_rfl

set_option maxRecDepth 100000 in
theorem lifted (os : Os) (started : os.Started) (H : Type) (enc : TypeId × Value → H) (F : Stop.Interp) :
    ReturnsInLeavingWide Rows.watchFirstRow.assume Try.checked os 6 .any (Rows.watchFirstSpec.pre6 enc Try.prog Try.f6 Rows.watchFirstRow.domain false) ((OpenSpec.ofChange Rows.watchFirstSpec).postWith enc Try.prog Try.f6 F (outsideKept [.timePasses]) false true false) := by
  refine returnsLeavingTime_of_calls (C := Try.checked) own started (by kernel_rfl) Try.func6
    (ChangeSpec.witness6c (enc := enc) (C := Try.checked) ⟨#[], #[.int .i64 0, .slice none 0 0], []⟩ 8 (by kernel_rfl) (by kernel_rfl) (by kernel_rfl) (by kernel_rfl)) ?_
  intro W base args ds gs before hval0 hW hcnd hsz _
  have hval : ∀ (j : Nat) t v, Try.f6.params[j]? = some t → args[j]? = some v → Value.okWide Try.prog W .any base t v := hval0
  have hW' := hW
  obtain ⟨p, q, hA0, hV, rfl, hfz, hnd⟩ := hW
  have hA : DataW.TrodAll enc Try.prog W 0 (fun _ => true) true Try.f6.params.toList args.toList ds p := hA0
  rw [Try.params6] at hA hval
  obtain ⟨v0, v1, d0, d1, p0, p1, rfl, rfl, rfl, h0, h1⟩ := trodAll_two hA
  obtain ⟨rfl, rfl⟩ := trodVars_none hV
  obtain ⟨n, rfl, rfl, rfl, hnw⟩ := open_int Try.underlying3 (hval 0 3 v0 rfl rfl) h0
  obtain ⟨ao, len, cap, rfl⟩ := okWide_slice Try.underlying36 (hval 1 36 v1 rfl rfl)
  have h1k := h1
  obtain ⟨fuel, hf⟩ := h1
  clear hA0 hval hval0 hsz
  simp only [List.append_nil] at hW'
  have hlt : ∀ x ∈ p1, x.block < W.heap.size := fun x hx => by simpa using hW'.lt x (by simp [hx])
  obtain ⟨zs, hzl, hl, hzs⟩ := open_numbers (by simpa [Value.cells] using hf)
  subst hzl
  refine (first_walk n ao cap zs W hl hzs).mono fun e W' ⟨he, hg⟩ => ?_
  subst he
  exact ⟨_, rfl, hg.os, _, _, _, [], _, [], hW', trodAll_mk1 (shut_bool Try.underlying4 _), trodAll_mk2 (shut_int Try.underlying3 hnw) (Below.trod laidOut (by kernel_rfl) (of_decide_eq_true (by kernel_rfl)) h1k hg hlt), rfl, hg.frame _, fun h => by cases h⟩
end PWFirst

theorem watchFirst_holds : Rows.WatchFirstSaid :=
  OpenClaim.holds_of_wide_leaving_time 6 Try.f6 rfl rfl rfl rfl rfl rfl rfl ⟨rfl, rfl, rfl, rfl, rfl⟩ rfl rfl rfl rfl rfl (by kernel_rfl) Try.func6 (by kernel_rfl)
    (of_decide_eq_true (by kernel_rfl)) (by unfold Func.isWrapper; first | (rw [if_pos (by decide +kernel)]; kernel_rfl) | (rw [if_neg (by decide +kernel)]; exact ⟨rfl, rfl⟩))
    (fun os started H enc _ F => PWFirst.lifted os started H enc F)

#print axioms watchFirst_holds
end Go.Proofs.Ytppkomnpcpmcmaa
