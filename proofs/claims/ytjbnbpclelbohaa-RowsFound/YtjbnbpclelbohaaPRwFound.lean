/- RowsFound answers true and leaves its arguments as they were, for every text, place and two rows. No condition. -/
import Derived.Test.YtjbnbpclelbohaaRows
import Derived.Test.YtjbnbpclelbohaaRwArgs
import Derived.Test.YtjbnbpclelbohaaRwLawQ
import Derived.OpenShut
namespace Go.Proofs.Ytjbnbpclelbohaa
open Go.ChangeShapes Go.WideShapes Go.ChangeAt Go.RowKit
open Go.ChangeMaps (open_string shut_string)
set_option linter.unusedVariables false

namespace PRwFound
theorem own : ownKnob Try.prog.godebug = none := by kernel_rfl
theorem laidOut : laidOutB Try.prog = true := by kernel_rfl
theorem und_two : Try.prog.underlying 47 = some (.array 2 24) := by kernel_rfl
theorem cells_two : Try.prog.cellsOf 47 = 2 := by kernel_rfl
set_option maxRecDepth 100000 in
theorem okWide_two {W : World} {r : Reach} {base : Nat} {v : Value} (h : Value.okWide Try.prog W r base 47 v) : ∃ c0 c1, v = .agg #[c0, c1] := by
  simp only [Value.okWide, und_two] at h
  obtain ⟨cs, h1, h2, _⟩ := h
  rw [cells_two] at h2
  match cs, h2 with
  | ⟨[c0, c1]⟩, _ => exact ⟨c0, c1, h1⟩
set_option maxRecDepth 100000 in
theorem open_two {H : Type} {enc : TypeId × Value → H} {W : World} {fuel : Nat} {c0 c1 : Value} {x : DataW H × List MemPlace}
    (h : DataW.trod enc Try.prog W 0 (fun _ => true) true fuel 47 [c0, c1] = some x) :
    ∃ (y0 y1 : DataW H × List MemPlace) (k : Nat), x.1 = .agg [y0.1, y1.1] ∧ DataW.trod enc Try.prog W 0 (fun _ => true) true k 24 [c0] = some y0 ∧ DataW.trod enc Try.prog W 0 (fun _ => true) true k 24 [c1] = some y1 := by
  obtain ⟨xs, k, hk, hxy, _, hxl, hf⟩ := DataW.trod_array und_two h
  match xs, hxl with
  | [y0, y1], _ =>
    have g0 := hf 0 (by decide)
    have g1 := hf 1 (by decide)
    simp [cells_row] at g0 g1
    exact ⟨y0, y1, k, by rw [hxy]; rfl, g0, g1⟩

set_option maxRecDepth 100000 in
theorem lifted (os : Os) (started : os.Started) (H : Type) (enc : TypeId × Value → H) :
    ReturnsInHanded {} Try.checked os 5 .any (Rows.rowsFoundSpec.pre6 enc Try.prog Try.f5 Rows.rowsFoundRow.domain false) (Rows.rowsFoundSpec.post enc Try.prog Try.f5 false true false false) := by
  refine returnsInHanded_of_change_sized (C := Try.checked) own started (by kernel_rfl) Try.func5
    (ChangeSpec.witness6 (enc := enc) (C := Try.checked) false ⟨#[], #[.string ⟨#[]⟩, .int .i64 0, .agg #[.slice none 0 0, .slice none 0 0]], []⟩ 8 (by kernel_rfl) (by kernel_rfl) (by kernel_rfl) (by kernel_rfl)) ?_
  intro W base args ds gs before hval0 hW _ hsz0 _
  have hsz : (DataW.weightsEach Try.prog (Try.f5.params.toList ++ Rows.rowsFoundSpec.plain.varTypes Try.prog) (ds ++ gs)).all (· ≤ reachBytes) = true := hsz0
  have hval : ∀ (j : Nat) t v, Try.f5.params[j]? = some t → args[j]? = some v → Value.okWide Try.prog W .any base t v := hval0
  have hW' := hW
  obtain ⟨p, q, hA0, hV, rfl, hfz, hnd⟩ := hW
  have hA : DataW.TrodAll enc Try.prog W 0 (fun _ => true) true Try.f5.params.toList args.toList ds p := hA0
  rw [Try.params5] at hA hval hsz
  obtain ⟨v0, v1, v2, d0, d1, d2, p0, p1, p2, rfl, rfl, rfl, h0, h1, h2⟩ := trodAll_three hA
  obtain ⟨rfl, rfl⟩ := trodVars_none hV
  obtain ⟨text, rfl, rfl, rfl, hks⟩ := open_string Try.underlying9 (hval 0 9 v0 rfl rfl) h0
  obtain ⟨at', rfl, rfl, rfl, hat⟩ := open_int Try.underlying3 (hval 1 3 v1 rfl rfl) h1
  obtain ⟨c0, c1, rfl⟩ := okWide_two (hval 2 47 v2 rfl rfl)
  have h2k := h2
  obtain ⟨fuel, hf⟩ := h2
  clear hA0 hval hval0 hsz0
  simp only [List.append_nil, List.nil_append] at hW'
  have hlt : ∀ x ∈ p2, x.block < W.heap.size := fun x hx => by simpa using hW'.lt x (by simpa using hx)
  obtain ⟨y0, y1, fk, hd, hy0, hy1⟩ := open_two (by simpa [Value.cells] using hf)
  obtain ⟨ao, len, cap, z0, f0, rfl, hd0, hz0⟩ := open_row hy0
  obtain ⟨bo, len', cap', z1, f1, rfl, hd1, hz1⟩ := open_row hy1
  obtain ⟨cs, D, spare, rfl, hdp, hpa⟩ := open_cells hz0
  obtain ⟨es, D', spare', rfl, hdp', hpa'⟩ := open_cells hz1
  simp only at hd
  have htl : text.size ≤ 140737488351232 := by
    have := sized_string hsz (j := 0) (t := 9) rfl rfl
    simpa [reachBytes] using this
  have hw : ∀ n ∈ d2.weights Try.prog 47, n ≤ reachBytes := fun n hn => of_decide_eq_true (List.all_eq_true.1 hsz _ (DataW.weights_mem_each (j := 2) rfl rfl n hn))
  rw [hd, hd0, hd1] at hw
  have hw0 : ∀ n ∈ z0.1.weights Try.prog 22, n ≤ reachBytes := fun n hn => hw n (by simp [DataW.weights, DataW.weightsAll, Try.underlying24, DataW.weightsEach, hn])
  have hw1 : ∀ n ∈ z1.1.weights Try.prog 22, n ≤ reachBytes := fun n hn => hw n (by simp [DataW.weights, DataW.weightsAll, Try.underlying24, DataW.weightsEach, hn])
  obtain ⟨hr1, hr2⟩ := row_reach hdp hw0
  obtain ⟨hs1, hs2⟩ := row_reach hdp' hw1
  refine (rowsFound_calls text at' ao cap cs bo cap' es W htl (int_bounds hat) hr1 hs1 (hpa hr2) (hpa' hs2)).mono fun e W' ⟨he, hg⟩ => ?_
  subst he
  exact ⟨_, rfl, _, _, _, [], _, [], hW', trodAll_mk1 (shut_bool Try.underlying4 _), trodAll_mk3 (shut_string Try.underlying9 hks) (shut_int Try.underlying3 hat) (Below.trod laidOut (by kernel_rfl) (of_decide_eq_true (by kernel_rfl)) h2k hg hlt), rfl, hg.frame _, fun h => by cases h⟩
end PRwFound

theorem rowsFound_holds : Rows.RowsFoundSaid :=
  OpenClaim.holds_of_wide 5 Try.f5 rfl rfl rfl rfl rfl rfl rfl ⟨rfl, rfl, rfl, rfl, rfl⟩ rfl rfl rfl rfl rfl (by kernel_rfl) Try.func5 (by kernel_rfl)
    (of_decide_eq_true (by kernel_rfl)) (by unfold Func.isWrapper; first | (rw [if_pos (by decide +kernel)]; kernel_rfl) | (rw [if_neg (by decide +kernel)]; exact ⟨rfl, rfl⟩))
    (fun os started H enc _ => PRwFound.lifted os started H enc)

#print axioms rowsFound_holds
end Go.Proofs.Ytjbnbpclelbohaa
