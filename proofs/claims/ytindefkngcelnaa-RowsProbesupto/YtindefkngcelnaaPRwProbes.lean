/- RowsProbes answers true and leaves its arguments as they were, for every text, place and search. Its condition: the arguments hold together at most 1048576 values and letters. -/
import Derived.Test.YtindefkngcelnaaKBulk
import Derived.Test.YtindefkngcelnaaRwLawP
import Derived.OpenShut
import Derived.JoinedCond
namespace Go.Proofs.Ytindefkngcelnaa
open Go.ChangeShapes Go.WideShapes Go.ChangeAt Go.RowKit
open Go.ChangeMaps (open_string shut_string)
set_option linter.unusedVariables false

namespace PRwProbes
theorem own : ownKnob Try.prog.godebug = none := by kernel_rfl
theorem laidOut : laidOutB Try.prog = true := by kernel_rfl
theorem cells_search : Try.prog.cellsOf 49 = 3 := by kernel_rfl
theorem cells_parts : Try.prog.cellsOf 47 = 1 := by kernel_rfl
theorem cells_bool : Try.prog.cellsOf 4 = 1 := by kernel_rfl

set_option maxRecDepth 100000 in
/-- A search: its place, its parts, its last bool. -/
theorem open_search {H : Type} {enc : TypeId × Value → H} {W : World} {fuel : Nat} {c0 c1 c2 : Value} {x : DataW H × List MemPlace}
    (h : DataW.trod enc Try.prog W 0 (fun _ => true) true fuel 49 [c0, c1, c2] = some x) :
    ∃ (n : Int) (ao : Option Addr) (len cap : Nat) (b : Bool) (y0 y1 y2 : DataW H × List MemPlace) (k : Nat), c0 = .int .i64 n ∧ (-9223372036854775808 ≤ n ∧ n ≤ 9223372036854775807) ∧ c1 = .slice ao len cap ∧ c2 = .bool b ∧ x.1 = .agg [y0.1, y1.1, y2.1] ∧ DataW.trod enc Try.prog W 0 (fun _ => true) true k 47 [.slice ao len cap] = some y1 := by
  obtain ⟨xs, k, hk, hxy, _, hxl, hf⟩ := DataW.trod_struct Try.underlying49 h
  match xs, hxl with
  | [y0, y1, y2], _ =>
    have g0 := hf 0 _ rfl
    have g1 := hf 1 _ rfl
    have g2 := hf 2 _ rfl
    simp [cells_int, cells_parts, cells_bool] at g0 g1 g2
    obtain ⟨n0, q0, r0, w0⟩ := DataW.trod_int Try.underlying3 g0
    obtain ⟨b2, q2, r2⟩ := DataW.trod_bool Try.underlying4 g2
    simp at q0 q2
    subst q0 q2
    rcases DataW.trod_slice Try.underlying47 g1 with ⟨hc, _⟩ | ⟨a, len, cap, _, _, _, _, hc, _⟩
    · simp at hc
      subst hc
      exact ⟨n0, none, 0, 0, b2, y0, y1, y2, k, rfl, int_bounds w0, rfl, rfl, by rw [hxy]; rfl, g1⟩
    · simp at hc
      subst hc
      exact ⟨n0, some a, len, cap, b2, y0, y1, y2, k, rfl, int_bounds w0, rfl, rfl, by rw [hxy]; rfl, g1⟩

set_option maxRecDepth 100000 in
theorem contract (H : Type) (enc : TypeId × Value → H) (W : World) (base : Nat) (args : Array Value) (ds gs : List (DataW H)) (before : List MemPlace)
    (hval : ∀ (j : Nat) t v, Try.f6.params[j]? = some t → args[j]? = some v → Value.okWide Try.prog W .any base t v)
    (hW : DataW.Whole enc Try.prog Try.f6.params.toList Rows.rowsProbesSpec.vars false W args.toList ds gs before) (hk : Rows.uptoSmall H (ds ++ gs) = true) :
    Calls Try.prog 6 args W fun e W' => ∃ v, e = .returned v ∧ Rows.rowsProbesSpec.post enc Try.prog Try.f6 false true false false W args v W' := by
  have hW' := hW
  obtain ⟨p, q, hA0, hV, rfl, hfz, hnd⟩ := hW
  have hA : DataW.TrodAll enc Try.prog W 0 (fun _ => true) true Try.f6.params.toList args.toList ds p := hA0
  rw [Try.params6] at hA hval
  obtain ⟨v0, v1, v2, d0, d1, d2, p0, p1, p2, rfl, rfl, rfl, h0, h1, h2⟩ := trodAll_three hA
  obtain ⟨rfl, rfl⟩ := trodVars_none hV
  obtain ⟨text, rfl, rfl, rfl, hks⟩ := open_string Try.underlying9 (hval 0 9 v0 rfl rfl) h0
  obtain ⟨at', rfl, rfl, rfl, hat⟩ := open_int Try.underlying3 (hval 1 3 v1 rfl rfl) h1
  obtain ⟨cs, rfl, hcs⟩ := okWide_struct Try.underlying49 (hval 2 49 v2 rfl rfl)
  rw [cells_search] at hcs
  obtain ⟨c0, c1, c2, rfl⟩ : ∃ c0 c1 c2, cs = #[c0, c1, c2] := by
    match cs, hcs with
    | ⟨[c0, c1, c2]⟩, _ => exact ⟨c0, c1, c2, rfl⟩
  have h2k := h2
  obtain ⟨fuel, hf⟩ := h2
  clear hA0 hval
  simp only [List.append_nil, List.nil_append] at hW'
  have hlt : ∀ x ∈ p2, x.block < W.heap.size := fun x hx => by simpa using hW'.lt x (by simpa using hx)
  obtain ⟨pl, ao, len, cap, op, y0, y1, y2, fk, rfl, hpl, rfl, rfl, hd, hy1⟩ := open_search (by simpa [Value.cells] using hf)
  have hcap := open_cap hy1
  obtain ⟨ps, spare, rfl, hdp, hpa⟩ := open_parts hy1
  simp only at hd
  have hb : Rows.uptoBulkAll ([_, _, d2] ++ ([] : List (DataW H))) ≤ 1048576 := of_decide_eq_true hk
  rw [hd] at hb
  simp only [Rows.uptoBulkAll, Rows.uptoBulk, List.append_nil] at hb
  have htz : text.data.toList.length = text.size := by rw [Array.length_toList]; rfl
  have hwt := weight_le hdp
  have hpn := weight_length ps
  have hpm : ∀ p ∈ ps, p.t.size ≤ 1048576 := fun p hp => by have := weight_mem hp; omega
  have hp := hpa fun p hp => by have := hpm p hp; omega
  have hlw : ∀ l, weight (ps.map (lowIf l)) = weight ps := fun l => by
    unfold weight
    rw [List.map_map]
    congr 1
    apply List.map_congr_left
    intro r _
    cases l
    · rfl
    · show (lowS r.t).size + 4 = _
      rw [lowS_size]
  refine (rowsProbes_calls text at' pl ao cap ps op W (by omega) (int_bounds hat) hpl (by omega) hp hcap.2 (fun l => by have := enc_weight op (ps.map (lowIf l)); rw [hlw] at this; omega) (fun r hr => by have := hpm r hr; omega)).mono fun e W' ⟨he, hg⟩ => ?_
  subst he
  exact ⟨_, rfl, _, _, _, [], _, [], hW', trodAll_mk1 (shut_bool Try.underlying4 _), trodAll_mk3 (shut_string Try.underlying9 hks) (shut_int Try.underlying3 hat) (Below.trod laidOut (by kernel_rfl) (of_decide_eq_true (by kernel_rfl)) h2k hg hlt), rfl, hg.frame _, fun h => by cases h⟩

set_option maxRecDepth 100000 in
theorem lifted (os : Os) (started : os.Started) (H : Type) (enc : TypeId × Value → H) (F : Stop.Interp) :
    ReturnsInHanded {} Try.checked os 6 .any ((Rows.OpenSpec.upto Rows.rowsProbesSpec).pre6 enc Try.prog Try.f6 Rows.rowsProbesUptoRow.domain false) (((Rows.OpenSpec.upto Rows.rowsProbesSpec).at F).post enc Try.prog Try.f6 false true false false) := by
  refine returnsInHanded_of_cond (C := Try.checked) (s := Rows.OpenSpec.upto Rows.rowsProbesSpec) (k := Rows.uptoSmall) rfl own started (by kernel_rfl) Try.func6
    (OpenSpec.witness (enc := enc) (C := Try.checked) (s := Rows.OpenSpec.upto Rows.rowsProbesSpec) (k := Rows.uptoSmall) rfl false ⟨#[], #[.string ⟨#[]⟩, .int .i64 0, .agg #[.int .i64 0, .slice none 0 0, .bool false]], []⟩ 8 (by kernel_rfl) (by kernel_rfl) (by kernel_rfl)
      (x := ([.lit (.string []), .lit (.int .i64 0), .agg [.lit (.int .i64 0), .nil, .lit (.bool false)]], [], [])) (by kernel_rfl) rfl (by kernel_rfl)) ?_
  intro W base args ds gs before hval hW _ hk _
  exact contract H enc W base args ds gs before hval hW hk
end PRwProbes

theorem rowsProbes_holds : Rows.RowsProbesUptoSaid :=
  OpenClaim.holds_of_cond 6 Try.f6 rfl rfl rfl rfl rfl rfl rfl ⟨rfl, rfl, rfl, rfl, rfl⟩ rfl rfl rfl rfl rfl (by kernel_rfl) Try.func6 (by kernel_rfl)
    (of_decide_eq_true (by kernel_rfl)) (by unfold Func.isWrapper; first | (rw [if_pos (by decide +kernel)]; kernel_rfl) | (rw [if_neg (by decide +kernel)]; exact ⟨rfl, rfl⟩))
    (fun os started H enc _ F => PRwProbes.lifted os started H enc F)

#print axioms rowsProbes_holds
end Go.Proofs.Ytindefkngcelnaa
