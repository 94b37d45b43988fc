/- SchedRuns answers true and leaves its arguments as they were, for all picks, every bound and every list of calls: every choice is the document's. Its condition: the arguments hold at most 1048576 values and letters. -/
import Derived.Test.YteckckohflnahaaRows
import Derived.Test.YteckckohflnahaaScArgsB
import Derived.Test.YteckckohflnahaaScRuns
import Derived.OpenShut
import Derived.JoinedCond
namespace Go.Proofs.Yteckckohflnahaa
open Go.ChangeShapes Go.WideShapes Go.ChangeAt Go.RowKit
set_option linter.unusedVariables false

namespace PSchRuns
theorem own : ownKnob Try.prog.godebug = none := by kernel_rfl
theorem laidOut : laidOutB Try.prog = true := by kernel_rfl
theorem bulk_pos {H : Type} (d : DataW H) : 1 ≤ Rows.uptoBulk d := by
  cases d with
  | lit l => cases l <;> simp [Rows.uptoBulk]
  | _ => simp [Rows.uptoBulk]
theorem bulk_mem {H : Type} : ∀ {l : List (DataW H)} {d : DataW H}, d ∈ l → Rows.uptoBulk d ≤ Rows.uptoBulkAll l
  | e :: l, d, h => by
    simp only [Rows.uptoBulkAll]
    rcases List.mem_cons.1 h with rfl | h
    · omega
    · have := bulk_mem h; omega
theorem bulk_len {H : Type} : ∀ l : List (DataW H), l.length ≤ Rows.uptoBulkAll l
  | [] => by simp
  | d :: l => by
    have h1 := bulk_pos d
    have h2 := bulk_len l
    simp only [Rows.uptoBulkAll, List.length_cons]
    omega
theorem ints_bulk {H : Type} {ps : List Int} {spare : List (DataW H)} {d : DataW H} (hd : d = .nil ∧ ps = [] ∨ d = .slice (ps.map intData) spare) : ps.length ≤ Rows.uptoBulk d := by
  rcases hd with ⟨_, rfl⟩ | rfl
  · simp
  · simp only [Rows.uptoBulk]
    have h1 := bulk_len (ps.map (intData (H := H)))
    rw [List.length_map] at h1
    omega
theorem bools_bulk {H : Type} {ps : List Bool} {d : DataW H} (hd : BoolsData ps d) : ps.length ≤ Rows.uptoBulk d := by
  rcases hd with ⟨_, rfl⟩ | ⟨spare, rfl⟩
  · simp
  · simp only [Rows.uptoBulk]
    have h1 := bulk_len (ps.map (boolData (H := H)))
    rw [List.length_map] at h1
    omega
theorem bls_bulk {H : Type} {ls : List Bl} {D : Nat → DataW H} {spare : List (DataW H)} {d : DataW H} (hd : d = .nil ∧ ls = [] ∨ d = .slice ((List.range ls.length).map D) spare ∧ ∀ i (h : i < ls.length), BoolsData ls[i].r (D i)) : ls.length ≤ Rows.uptoBulk d ∧ ∀ x ∈ ls, x.r.length ≤ Rows.uptoBulk d := by
  rcases hd with ⟨_, rfl⟩ | ⟨rfl, hD⟩
  · simp
  · simp only [Rows.uptoBulk]
    have h1 := bulk_len ((List.range ls.length).map D)
    rw [List.length_map, List.length_range] at h1
    refine ⟨by omega, fun x hx => ?_⟩
    obtain ⟨i, hi, rfl⟩ := List.getElem_of_mem hx
    have h2 := bools_bulk (hD i hi)
    have h3 := bulk_mem (List.mem_map_of_mem (f := D) (List.mem_range.2 hi))
    omega

theorem ints_cap {H : Type} {enc : TypeId × Value → H} {W : World} {fuel : Nat} {ao : Option Addr} {len cap : Nat} {x : DataW H × List MemPlace}
    (h : DataW.trod enc Try.prog W 0 (fun _ => true) true fuel 22 [.slice ao len cap] = some x) : len ≤ cap := by
  rcases Go.Deep.open_slice Try.underlying22 h with ⟨hc, hx⟩ | ⟨a, len', cap', m, n, D, Pl, hc, hb, hl, hm, hmm, hx, hel⟩
  · simp at hc
    omega
  · simp at hc
    obtain ⟨rfl, rfl, rfl⟩ := hc
    exact hl

set_option maxRecDepth 100000 in
theorem contract (H : Type) (enc : TypeId × Value → H) (W : World) (base : Nat) (args : Array Value) (ds gs : List (DataW H)) (before : List MemPlace)
    (hval : ∀ (j : Nat) t v, Try.f3.params[j]? = some t → args[j]? = some v → Value.okWide Try.prog W .any base t v)
    (hW : DataW.Whole enc Try.prog Try.f3.params.toList Rows.schedRunsSpec.vars false W args.toList ds gs before) (hk : Rows.uptoSmall H (ds ++ gs) = true) :
    Calls Try.prog 3 args W fun e W' => ∃ v, e = .returned v ∧ Rows.schedRunsSpec.post enc Try.prog Try.f3 false true false false W args v W' := by
  have hW' := hW
  obtain ⟨p, q, hA0, hV, rfl, hfz, hnd⟩ := hW
  have hA : DataW.TrodAll enc Try.prog W 0 (fun _ => true) true Try.f3.params.toList args.toList ds p := hA0
  rw [Try.params3] at hA hval
  obtain ⟨v0, v1, v2, d0, d1, d2, p0, p1, p2, rfl, rfl, rfl, h0, h1, h2⟩ := trodAll_three hA
  obtain ⟨rfl, rfl⟩ := trodVars_none hV
  obtain ⟨ao, len, cap, rfl⟩ := okWide_slice Try.underlying22 (hval 0 22 v0 rfl rfl)
  obtain ⟨co, cn, cc, rfl⟩ := okWide_slice Try.underlying23 (hval 2 23 v2 rfl rfl)
  have h1k := h1
  obtain ⟨x, rfl, rfl, rfl, hx⟩ := open_int Try.underlying3 (hval 1 3 v1 rfl rfl) h1
  have bx := bounds_i64 hx
  have h0k := h0
  have h2k := h2
  obtain ⟨fuel0, hf0⟩ := h0
  obtain ⟨fuel2, hf2⟩ := h2
  clear hA0 hval
  simp only [List.append_nil] at hW'
  have hlt0 : ∀ x ∈ p0, x.block < W.heap.size := fun x hx => by simpa using hW'.lt x (by simp [hx])
  have hlt2 : ∀ x ∈ p2, x.block < W.heap.size := fun x hx => by simpa using hW'.lt x (by simp [hx])
  obtain ⟨ps, spare, rfl, hd, hpa, hnil, hpr⟩ := open_ints (by simpa [Value.cells] using hf0)
  obtain ⟨ls, D, spare2, rfl, hd2, hra, hnil2, hcap2⟩ := open_bls (by simpa [Value.cells] using hf2)
  have hcap := ints_cap (by simpa [Value.cells] using hf0)
  simp only at hd hd2
  have hb : Rows.uptoBulkAll ([d0, .lit (.int .i64 x), d2] ++ ([] : List (DataW H))) ≤ 1048576 := of_decide_eq_true hk
  simp only [Rows.uptoBulkAll, List.append_nil] at hb
  have b1 := ints_bulk hd
  obtain ⟨b2, b3⟩ := bls_bulk hd2
  refine (schedRuns_calls ao ps.length cap ps x co ls.length cc ls W rfl (by omega) hnil hcap hpa hpr rfl hcap2 (by omega) hra (fun y hy => by have := b3 y hy; omega) bx.2).mono fun e W' ⟨he, hg⟩ => ?_
  subst he
  exact ⟨_, rfl, _, _, _, [], _, [], hW', trodAll_mk1 (shut_bool Try.underlying4 _), trodAll_mk3 (Below.trod laidOut (by kernel_rfl) (of_decide_eq_true (by kernel_rfl)) h0k hg hlt0) (Below.trod laidOut (by kernel_rfl) (of_decide_eq_true (by kernel_rfl)) h1k hg (by simp)) (Below.trod laidOut (by kernel_rfl) (of_decide_eq_true (by kernel_rfl)) h2k hg hlt2), rfl, hg.frame _, fun h => by cases h⟩

set_option maxRecDepth 100000 in
theorem lifted (os : Os) (started : os.Started) (H : Type) (enc : TypeId × Value → H) (F : Stop.Interp) :
    ReturnsInHanded {} Try.checked os 3 .any ((Rows.OpenSpec.upto Rows.schedRunsSpec).pre6 enc Try.prog Try.f3 Rows.schedRunsUptoRow.domain false) (((Rows.OpenSpec.upto Rows.schedRunsSpec).at F).post enc Try.prog Try.f3 false true false false) := by
  refine returnsInHanded_of_cond (C := Try.checked) (s := Rows.OpenSpec.upto Rows.schedRunsSpec) (k := Rows.uptoSmall) rfl own started (by kernel_rfl) Try.func3
    (OpenSpec.witness (enc := enc) (C := Try.checked) (s := Rows.OpenSpec.upto Rows.schedRunsSpec) (k := Rows.uptoSmall) rfl false ⟨#[], #[.slice none 0 0, .int .i64 0, .slice none 0 0], []⟩ 8 (by kernel_rfl) (by kernel_rfl) (by kernel_rfl)
      (x := ([.nil, .lit (.int .i64 0), .nil], [], [])) (by kernel_rfl) rfl (by kernel_rfl)) ?_
  intro W base args ds gs before hval hW _ hk _
  exact contract H enc W base args ds gs before hval hW hk
end PSchRuns

theorem schedRuns_holds : Rows.SchedRunsUptoSaid :=
  OpenClaim.holds_of_cond 3 Try.f3 rfl rfl rfl rfl rfl rfl rfl ⟨rfl, rfl, rfl, rfl, rfl⟩ rfl rfl rfl rfl rfl (by kernel_rfl) Try.func3 (by kernel_rfl)
    (of_decide_eq_true (by kernel_rfl)) (by unfold Func.isWrapper; first | (rw [if_pos (by decide +kernel)]; kernel_rfl) | (rw [if_neg (by decide +kernel)]; exact ⟨rfl, rfl⟩))
    (fun os started H enc _ F => PSchRuns.lifted os started H enc F)

#print axioms schedRuns_holds
end Go.Proofs.Yteckckohflnahaa
