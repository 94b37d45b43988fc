/- KeysUnder answers true and leaves its arguments as they were, for every two lists of parts and every text. Its condition: the arguments hold together at most 1048576 values and letters. -/
import Derived.Test.YtehbclliiphglabKBulk
import Derived.Test.YtehbclliiphglabKLawUnd
import Derived.OpenShut
import Derived.JoinedCond
namespace Go.Proofs.Ytehbclliiphglab
open Go.ChangeShapes Go.WideShapes Go.ChangeAt Go.RowKit
open Go.ChangeMaps (open_string shut_string)
set_option linter.unusedVariables false

namespace PUnder
theorem own : ownKnob Try.prog.godebug = none := by kernel_rfl
theorem laidOut : laidOutB Try.prog = true := by kernel_rfl

theorem contract (H : Type) (enc : TypeId × Value → H) (W : World) (base : Nat) (args : Array Value) (ds gs : List (DataW H)) (before : List MemPlace)
    (hval : ∀ (j : Nat) t v, Try.f4.params[j]? = some t → args[j]? = some v → Value.okWide Try.prog W .any base t v)
    (hW : DataW.Whole enc Try.prog Try.f4.params.toList Rows.keysUnderSpec.vars false W args.toList ds gs before) (hk : Rows.uptoSmall H (ds ++ gs) = true) :
    Calls Try.prog 4 args W fun e W' => ∃ v, e = .returned v ∧ Rows.keysUnderSpec.post enc Try.prog Try.f4 false true false false W args v W' := by
  have hW' := hW
  obtain ⟨p, q, hA0, hV, rfl, hfz, hnd⟩ := hW
  have hA : DataW.TrodAll enc Try.prog W 0 (fun _ => true) true Try.f4.params.toList args.toList ds p := hA0
  rw [Try.params4] at hA hval
  obtain ⟨v0, v1, v2, d0, d1, d2, p0, p1, p2, rfl, rfl, rfl, h0, h1, h2⟩ := trodAll_three hA
  obtain ⟨rfl, rfl⟩ := trodVars_none hV
  obtain ⟨ao, len, cap, rfl⟩ := okWide_slice Try.underlying22 (hval 0 22 v0 rfl rfl)
  obtain ⟨bo, len2, cap2, rfl⟩ := okWide_slice Try.underlying22 (hval 1 22 v1 rfl rfl)
  obtain ⟨more, rfl, rfl, rfl, hms⟩ := open_string Try.underlying9 (hval 2 9 v2 rfl rfl) h2
  have h0k := h0
  have h1k := h1
  obtain ⟨fuel, hf⟩ := h0
  obtain ⟨fuel1, hf1⟩ := h1
  clear hA0 hval
  simp only [List.append_nil] at hW'
  have hlt : ∀ x ∈ p0, x.block < W.heap.size := fun x hx => by simpa using hW'.lt x (by simp [hx])
  have hlt1 : ∀ x ∈ p1, x.block < W.heap.size := fun x hx => by simpa using hW'.lt x (by simp [hx])
  obtain ⟨hc0, _⟩ := open_cap (by simpa [Value.cells] using hf)
  obtain ⟨hc1, hnil⟩ := open_cap (by simpa [Value.cells] using hf1)
  obtain ⟨ps, spare, rfl, hd, hpa⟩ := open_parts (by simpa [Value.cells] using hf)
  obtain ⟨rs, spare1, rfl, hd1, hpa1⟩ := open_parts (by simpa [Value.cells] using hf1)
  simp only at hd hd1
  have hb : Rows.uptoBulkAll ([d0, d1, .lit (.string more.data.toList)] ++ ([] : List (DataW H))) ≤ 1048576 := of_decide_eq_true hk
  simp only [Rows.uptoBulkAll, List.append_nil, Rows.uptoBulk] at hb
  have hwt := weight_le hd
  have hpl := weight_length ps
  have hpm : ∀ p ∈ ps, p.t.size ≤ 1048576 := fun p hp => by have := weight_mem hp; omega
  have hwt1 := weight_le hd1
  have hpl1 := weight_length rs
  have hpm1 : ∀ p ∈ rs, p.t.size ≤ 1048576 := fun p hp => by have := weight_mem hp; omega
  have hmo : more.size ≤ 1048576 := by
    have : more.data.toList.length = more.size := by simp
    omega
  have hp := hpa fun p hp => by have := hpm p hp; omega
  have hq := hpa1 fun p hp => by have := hpm1 p hp; omega
  refine (under_walk ao bo cap cap2 ps rs more W (by omega) (by omega) hc0 hc1 hnil hp hq hpm hmo).mono fun e W' ⟨he, hg⟩ => ?_
  subst he
  exact ⟨_, rfl, _, _, _, [], _, [], hW', trodAll_mk1 (shut_bool Try.underlying4 _), trodAll_mk3 (Below.trod laidOut (by kernel_rfl) (of_decide_eq_true (by kernel_rfl)) h0k hg hlt) (Below.trod laidOut (by kernel_rfl) (of_decide_eq_true (by kernel_rfl)) h1k hg hlt1) (shut_string Try.underlying9 hms), rfl, hg.frame _, fun h => by cases h⟩

set_option maxRecDepth 100000 in
theorem lifted (os : Os) (started : os.Started) (H : Type) (enc : TypeId × Value → H) (F : Stop.Interp) :
    ReturnsInHanded {} Try.checked os 4 .any ((Rows.OpenSpec.upto Rows.keysUnderSpec).pre6 enc Try.prog Try.f4 Rows.keysUnderUptoRow.domain false) (((Rows.OpenSpec.upto Rows.keysUnderSpec).at F).post enc Try.prog Try.f4 false true false false) := by
  refine returnsInHanded_of_cond (C := Try.checked) (s := Rows.OpenSpec.upto Rows.keysUnderSpec) (k := Rows.uptoSmall) rfl own started (by kernel_rfl) Try.func4
    (OpenSpec.witness (enc := enc) (C := Try.checked) (s := Rows.OpenSpec.upto Rows.keysUnderSpec) (k := Rows.uptoSmall) rfl false ⟨#[], #[.slice none 0 0, .slice none 0 0, .string ⟨#[]⟩], []⟩ 8 (by kernel_rfl) (by kernel_rfl) (by kernel_rfl)
      (x := ([.nil, .nil, .lit (.string [])], [], [])) (by kernel_rfl) rfl (by kernel_rfl)) ?_
  intro W base args ds gs before hval hW _ hk _
  exact contract H enc W base args ds gs before hval hW hk
end PUnder

theorem keysUnder_holds : Rows.KeysUnderUptoSaid :=
  OpenClaim.holds_of_cond 4 Try.f4 rfl rfl rfl rfl rfl rfl rfl ⟨rfl, rfl, rfl, rfl, rfl⟩ rfl rfl rfl rfl rfl (by kernel_rfl) Try.func4 (by kernel_rfl)
    (of_decide_eq_true (by kernel_rfl)) (by unfold Func.isWrapper; first | (rw [if_pos (by decide +kernel)]; kernel_rfl) | (rw [if_neg (by decide +kernel)]; exact ⟨rfl, rfl⟩))
    (fun os started H enc _ F => PUnder.lifted os started H enc F)

#print axioms keysUnder_holds
end Go.Proofs.Ytehbclliiphglab
