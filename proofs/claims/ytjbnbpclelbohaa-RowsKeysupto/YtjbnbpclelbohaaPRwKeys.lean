/- RowsKeys answers true and leaves its arguments as they were, for every text, place and question. Its condition: the arguments hold together at most 1048576 values and letters. -/
import Derived.Test.YtjbnbpclelbohaaRwOne
import Derived.Test.YtjbnbpclelbohaaRwLawK
import Derived.OpenShut
import Derived.JoinedCond
namespace Go.Proofs.Ytjbnbpclelbohaa
open Go.ChangeShapes Go.WideShapes Go.ChangeAt Go.RowKit
open Go.ChangeMaps (open_string shut_string)
set_option linter.unusedVariables false

namespace PRwKeys
theorem own : ownKnob Try.prog.godebug = none := by kernel_rfl
theorem laidOut : laidOutB Try.prog = true := by kernel_rfl
theorem cells_ask : Try.prog.cellsOf 38 = 2 := by kernel_rfl
set_option maxRecDepth 100000 in
/-- A question: its place, its row. -/
theorem open_ask {H : Type} {enc : TypeId × Value → H} {W : World} {fuel : Nat} {c0 c1 : Value} {x : DataW H × List MemPlace}
    (h : DataW.trod enc Try.prog W 0 (fun _ => true) true fuel 38 [c0, c1] = some x) :
    ∃ (n : Int) (y0 y1 : DataW H × List MemPlace) (k : Nat), c0 = .int .i64 n ∧ (-9223372036854775808 ≤ n ∧ n ≤ 9223372036854775807) ∧ x.1 = .agg [y0.1, y1.1] ∧ DataW.trod enc Try.prog W 0 (fun _ => true) true k 24 [c1] = some y1 := by
  obtain ⟨xs, k, hk, hxy, _, hxl, hf⟩ := DataW.trod_struct Try.underlying38 h
  match xs, hxl with
  | [y0, y1], _ =>
    have g0 := hf 0 _ rfl
    have g1 := hf 1 _ rfl
    simp [cells_int, cells_row] at g0 g1
    obtain ⟨n0, q0, r0, w0⟩ := DataW.trod_int Try.underlying3 g0
    simp at q0
    subst q0
    exact ⟨n0, y0, y1, k, rfl, int_bounds w0, by rw [hxy]; rfl, g1⟩

set_option maxRecDepth 100000 in
theorem contract (H : Type) (enc : TypeId × Value → H) (W : World) (base : Nat) (args : Array Value) (ds gs : List (DataW H)) (before : List MemPlace)
    (hval : ∀ (j : Nat) t v, Try.f4.params[j]? = some t → args[j]? = some v → Value.okWide Try.prog W .any base t v)
    (hW : DataW.Whole enc Try.prog Try.f4.params.toList Rows.rowsKeysSpec.vars false W args.toList ds gs before) (hk : Rows.uptoSmall H (ds ++ gs) = true) :
    Calls Try.prog 4 args W fun e W' => ∃ v, e = .returned v ∧ Rows.rowsKeysSpec.post enc Try.prog Try.f4 false true false false W args v W' := by
  have hW' := hW
  obtain ⟨p, q, hA0, hV, rfl, hfz, hnd⟩ := hW
  have hA : DataW.TrodAll enc Try.prog W 0 (fun _ => true) true Try.f4.params.toList args.toList ds p := hA0
  rw [Try.params4] at hA hval
  obtain ⟨v0, v1, v2, d0, d1, d2, p0, p1, p2, rfl, rfl, rfl, h0, h1, h2⟩ := trodAll_three hA
  obtain ⟨rfl, rfl⟩ := trodVars_none hV
  obtain ⟨text, rfl, rfl, rfl, hks⟩ := open_string Try.underlying9 (hval 0 9 v0 rfl rfl) h0
  obtain ⟨at', rfl, rfl, rfl, hat⟩ := open_int Try.underlying3 (hval 1 3 v1 rfl rfl) h1
  obtain ⟨cs, rfl, hcs⟩ := okWide_struct Try.underlying38 (hval 2 38 v2 rfl rfl)
  rw [cells_ask] at hcs
  obtain ⟨c0, c1, rfl⟩ : ∃ c0 c1, cs = #[c0, c1] := by
    match cs, hcs with
    | ⟨[c0, c1]⟩, _ => exact ⟨c0, c1, rfl⟩
  have h2k := h2
  obtain ⟨fuel, hf⟩ := h2
  clear hA0 hval
  simp only [List.append_nil, List.nil_append] at hW'
  have hlt : ∀ x ∈ p2, x.block < W.heap.size := fun x hx => by simpa using hW'.lt x (by simpa using hx)
  obtain ⟨pl, y0, y1, fk1, rfl, hpl, hd0, hy1⟩ := open_ask (by simpa [Value.cells] using hf)
  obtain ⟨ao, len, cap, y, fk, rfl, hd, hy⟩ := open_row hy1
  obtain ⟨cs, D, spare, rfl, hdp, hpa⟩ := open_cells hy
  simp only at hd0
  have hb : Rows.uptoBulkAll ([_, _, d2] ++ ([] : List (DataW H))) ≤ 1048576 := of_decide_eq_true hk
  rw [hd0, hd] at hb
  simp only [Rows.uptoBulkAll, Rows.uptoBulk, List.append_nil] at hb
  have htz : text.data.toList.length = text.size := by rw [Array.length_toList]; rfl
  obtain ⟨hn, hsz, hsm⟩ := small_bulk hdp (by omega)
  refine (rowsKeys_calls text at' pl ao cap cs W (by omega) (int_bounds hat) hpl (by omega) (hpa hsz) hsm).mono fun e W' ⟨he, hg⟩ => ?_
  subst he
  exact ⟨_, rfl, _, _, _, [], _, [], hW', trodAll_mk1 (shut_bool Try.underlying4 _), trodAll_mk3 (shut_string Try.underlying9 hks) (shut_int Try.underlying3 hat) (Below.trod laidOut (by kernel_rfl) (of_decide_eq_true (by kernel_rfl)) h2k hg hlt), rfl, hg.frame _, fun h => by cases h⟩

set_option maxRecDepth 100000 in
theorem lifted (os : Os) (started : os.Started) (H : Type) (enc : TypeId × Value → H) (F : Stop.Interp) :
    ReturnsInHanded {} Try.checked os 4 .any ((Rows.OpenSpec.upto Rows.rowsKeysSpec).pre6 enc Try.prog Try.f4 Rows.rowsKeysUptoRow.domain false) (((Rows.OpenSpec.upto Rows.rowsKeysSpec).at F).post enc Try.prog Try.f4 false true false false) := by
  refine returnsInHanded_of_cond (C := Try.checked) (s := Rows.OpenSpec.upto Rows.rowsKeysSpec) (k := Rows.uptoSmall) rfl own started (by kernel_rfl) Try.func4
    (OpenSpec.witness (enc := enc) (C := Try.checked) (s := Rows.OpenSpec.upto Rows.rowsKeysSpec) (k := Rows.uptoSmall) rfl false ⟨#[], #[.string ⟨#[]⟩, .int .i64 0, .agg #[.int .i64 0, .slice none 0 0]], []⟩ 8 (by kernel_rfl) (by kernel_rfl) (by kernel_rfl)
      (x := ([.lit (.string []), .lit (.int .i64 0), .agg [.lit (.int .i64 0), .agg [.nil]]], [], [])) (by kernel_rfl) rfl (by kernel_rfl)) ?_
  intro W base args ds gs before hval hW _ hk _
  exact contract H enc W base args ds gs before hval hW hk
end PRwKeys

theorem rowsKeys_holds : Rows.RowsKeysUptoSaid :=
  OpenClaim.holds_of_cond 4 Try.f4 rfl rfl rfl rfl rfl rfl rfl ⟨rfl, rfl, rfl, rfl, rfl⟩ rfl rfl rfl rfl rfl (by kernel_rfl) Try.func4 (by kernel_rfl)
    (of_decide_eq_true (by kernel_rfl)) (by unfold Func.isWrapper; first | (rw [if_pos (by decide +kernel)]; kernel_rfl) | (rw [if_neg (by decide +kernel)]; exact ⟨rfl, rfl⟩))
    (fun os started H enc _ F => PRwKeys.lifted os started H enc F)

#print axioms rowsKeys_holds
end Go.Proofs.Ytjbnbpclelbohaa
