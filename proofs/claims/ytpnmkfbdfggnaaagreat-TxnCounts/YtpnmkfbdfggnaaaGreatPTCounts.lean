/- TxnCounts answers true and leaves its arguments as they were, for every list of keys and every list of choices: the version counts the commits that touch a key. No condition. -/
import Derived.Test.YtpnmkfbdfggnaaaGreatRows
import Derived.Test.YtpnmkfbdfggnaaaGreatWArgs
import Derived.Test.YtpnmkfbdfggnaaaGreatTCounts
import Derived.OpenShut
namespace Go.Proofs.YtpnmkfbdfggnaaaGreat
open Go.ChangeShapes Go.WideShapes Go.ChangeAt Go.RowKit
open Go.ChangeMaps (open_string shut_string)
set_option linter.unusedVariables false

namespace PTCounts
theorem own : ownKnob Tryz.prog.godebug = none := by kernel_rfl
theorem laidOut : laidOutB Tryz.prog = true := by kernel_rfl

set_option maxRecDepth 100000 in
theorem lifted (os : Os) (started : os.Started) (H : Type) (enc : TypeId × Value → H) :
    ReturnsInHanded {} Tryz.checked os 8 .any (Rows.txnCountsSpec.pre6 enc Tryz.prog Tryz.f8 Rows.txnCountsRow.domain false) (Rows.txnCountsSpec.post enc Tryz.prog Tryz.f8 false true false false) := by
  refine returnsInHanded_of_change_sized (C := Tryz.checked) own started (by kernel_rfl) Tryz.func8
    (ChangeSpec.witness6 (enc := enc) (C := Tryz.checked) false ⟨#[], #[.slice none 0 0, .slice none 0 0], []⟩ 8 (by kernel_rfl) (by kernel_rfl) (by kernel_rfl) (by kernel_rfl)) ?_
  intro W base args ds gs before hval0 hW _ hsz0 _
  have hsz : (DataW.weightsEach Tryz.prog (Tryz.f8.params.toList ++ Rows.txnCountsSpec.plain.varTypes Tryz.prog) (ds ++ gs)).all (· ≤ reachBytes) = true := hsz0
  have hval : ∀ (j : Nat) t v, Tryz.f8.params[j]? = some t → args[j]? = some v → Value.okWide Tryz.prog W .any base t v := hval0
  have hW' := hW
  obtain ⟨p, q, hA0, hV, rfl, hfz, hnd⟩ := hW
  have hA : DataW.TrodAll enc Tryz.prog W 0 (fun _ => true) true Tryz.f8.params.toList args.toList ds p := hA0
  rw [Tryz.params8] at hA hval hsz
  obtain ⟨v0, v1, d0, d1, p0, p1, rfl, rfl, rfl, h0, h1⟩ := trodAll_two hA
  obtain ⟨rfl, rfl⟩ := trodVars_none hV
  obtain ⟨ao, len, cap, rfl⟩ := okWide_slice Tryz.underlying26 (hval 0 26 v0 rfl rfl)
  obtain ⟨ao', len', cap', rfl⟩ := okWide_slice Tryz.underlying83 (hval 1 83 v1 rfl rfl)
  have h0k := h0
  have h1k := h1
  obtain ⟨fuel, hf⟩ := h0
  obtain ⟨fuel', hf'⟩ := h1
  clear hA0 hval hval0 hsz0
  simp only [List.append_nil] at hW'
  have hlt0 : ∀ x ∈ p0, x.block < W.heap.size := fun x hx => by simpa using hW'.lt x (by simp [hx])
  have hlt1 : ∀ x ∈ p1, x.block < W.heap.size := fun x hx => by simpa using hW'.lt x (by simp [hx])
  obtain ⟨ps, spare, rfl, hd, hpa⟩ := open_strs (by simpa [Value.cells] using hf)
  obtain ⟨bs, hbl, hl, hbs⟩ : ∃ bs : List Bool, bs.length = len' ∧ bs.length ≤ 9223372036854775807 ∧ BoolsAt W ao' bs := by
    rcases Go.Deep.open_bools Tryz.underlying83 Tryz.underlying4 (by kernel_rfl) (by simpa [Value.cells] using hf') with ⟨hc, hx⟩ | ⟨a, len', cap', B, hc, hb, hl, hm, hx, hel⟩
    · simp at hc
      obtain ⟨rfl, rfl, rfl⟩ := hc
      exact ⟨[], rfl, by simp, fun i hi => by simp at hi⟩
    · simp at hc
      obtain ⟨rfl, rfl, rfl⟩ := hc
      refine ⟨(List.range len').map B, by simp, by simp [maxLen] at hm ⊢; omega, fun i hi => ?_⟩
      have hi' : i < len' := by simpa using hi
      obtain ⟨b, off, rfl, hcell⟩ := cell_add (hel 0 (by omega)) (hel i (by omega))
      exact ⟨b, off, rfl, by simpa using hcell⟩
  subst hbl
  simp only at hd
  obtain ⟨hr1, hr2⟩ := strs_reach hd fun n hn => of_decide_eq_true (List.all_eq_true.1 hsz _ (DataW.weights_mem_each (j := 0) rfl rfl n hn))
  refine (txnCounts_calls ao ao' cap cap' ps bs W (hpa hr2) hbs (by omega) (by omega)).mono fun e W' ⟨he, hg⟩ => ?_
  subst he
  exact ⟨_, rfl, _, _, _, [], _, [], hW', trodAll_mk1 (shut_bool Tryz.underlying4 _), trodAll_mk2 (Below.trod laidOut (by kernel_rfl) (of_decide_eq_true (by kernel_rfl)) h0k hg hlt0) (Below.trod laidOut (by kernel_rfl) (of_decide_eq_true (by kernel_rfl)) h1k hg hlt1), rfl, hg.frame _, fun h => by cases h⟩
end PTCounts

theorem txnCounts_holds : Rows.TxnCountsSaid :=
  OpenClaim.holds_of_wide 8 Tryz.f8 rfl rfl rfl rfl rfl rfl rfl ⟨rfl, rfl, rfl, rfl, rfl⟩ rfl rfl rfl rfl rfl (by kernel_rfl) Tryz.func8 (by kernel_rfl)
    (of_decide_eq_true (by kernel_rfl)) (by unfold Func.isWrapper; first | (rw [if_pos (by decide +kernel)]; kernel_rfl) | (rw [if_neg (by decide +kernel)]; exact ⟨rfl, rfl⟩))
    (fun os started H enc _ => PTCounts.lifted os started H enc)

#print axioms txnCounts_holds
end Go.Proofs.YtpnmkfbdfggnaaaGreat
