/- WatchRuns answers true and leaves its argument as it was, for every list of calls. No condition. -/
import Derived.Test.YtochfkjpbdfddaaRows
import Derived.Test.YtochfkjpbdfddaaWRuns
import Derived.Deep.Slices
import Derived.SizedLaws
import Derived.ProofKit
import Derived.OpenShut
namespace Go.Proofs.Ytochfkjpbdfddaa
open Go.RowKit Go.Deep Go.ChangeShapes Go.WideShapes Go.ChangeAt
set_option linter.unusedVariables false

def opData {H : Type} (p : Opx) : DataW H := .agg [.lit (.int .i64 p.k), .lit (.int .i64 p.a), .lit (.int .i64 p.b)]
theorem cells_opx : Try.prog.cellsOf 29 = 3 := by kernel_rfl
theorem cells_intx : Try.prog.cellsOf 3 = 1 := by kernel_rfl
theorem bytes_opx : Try.prog.bytesOf 29 = 24 := by kernel_rfl
theorem wf_ix {n : Int} (h : (Lit.int .i64 n).wf = true) : -9223372036854775808 ≤ n ∧ n ≤ 9223372036854775807 := by
  have h1 : IntKind.i64.min ≤ n ∧ n ≤ 9223372036854775807 := by simpa [Lit.wf] using h
  exact h1

set_option maxRecDepth 100000 in
theorem open_ops {H : Type} {enc : TypeId × Value → H} {W : World} {fuel : Nat} {ao : Option Addr} {len cap : Nat} {x : DataW H × List MemPlace}
    (h : DataW.trod enc Try.prog W 0 (fun _ => true) true fuel 22 [.slice ao len cap] = some x) :
    ∃ (ps : List Opx) (spare : List (DataW H)), ps.length = len ∧ (x.1 = .nil ∧ ps = [] ∨ x.1 = .slice (ps.map opData) spare) ∧ OpsAt W ao ps := by
  rcases open_slice Try.underlying22 h with ⟨hc, hx⟩ | ⟨a, len', cap', m, n, D, Pl, hc, hb, hl, hm, hmm, hx, hel⟩
  · simp at hc
    obtain ⟨rfl, rfl, rfl⟩ := hc
    exact ⟨[], [], rfl, .inl ⟨by rw [hx], rfl⟩, fun i hp => by simp at hp⟩
  · simp at hc
    obtain ⟨rfl, rfl, rfl⟩ := hc
    simp only [if_true] at hmm
    subst hmm
    rw [cells_opx] at hel
    have each : ∀ i, i < len → ∃ p : Opx, D i = opData p ∧ W.cell? (a.add (i * 3)) = some (.int .i64 p.k) ∧ W.cell? (a.add (i * 3 + 1)) = some (.int .i64 p.a) ∧ W.cell? (a.add (i * 3 + 2)) = some (.int .i64 p.b) ∧ p.wf := by
      intro i hi
      obtain ⟨cs', h1, h2⟩ := hel i (by omega)
      obtain ⟨_, hlen, hcell⟩ := World.cells?_some h1
      obtain ⟨xs, k, hk, hxy, _, hxl, hf⟩ := DataW.trod_struct Try.underlying29 h2
      match xs, hxl, cs', hlen with
      | [y0, y1, y2], _, [v0, v1, v2], _ =>
        have g0 := hf 0 _ rfl
        have g1 := hf 1 _ rfl
        have g2 := hf 2 _ rfl
        simp [cells_intx] at g0 g1 g2
        have e0 := hcell 0 (by omega)
        have e1 := hcell 1 (by omega)
        have e2 := hcell 2 (by omega)
        rw [add_add] at e0 e1 e2
        obtain ⟨n0, q0, r0, w0⟩ := DataW.trod_int Try.underlying3 g0
        obtain ⟨n1, q1, r1, w1⟩ := DataW.trod_int Try.underlying3 g1
        obtain ⟨n2, q2, r2, w2⟩ := DataW.trod_int Try.underlying3 g2
        simp at q0 q1 q2
        subst q0 q1 q2
        simp only [Prod.mk.injEq] at hxy
        refine ⟨⟨n0, n1, n2⟩, ?_, by simpa using e0, by simpa using e1, by simpa using e2, wf_ix w1, wf_ix w2⟩
        rw [hxy.1]
        simp [opData, r0, r1, r2]
    obtain ⟨f, hf⟩ : ∃ f : Nat → Opx, ∀ i, i < len → _ := @choose_lt Opx ⟨⟨0, 0, 0⟩⟩ len _ each
    refine ⟨(List.range len).map f, (List.range (m - len)).map fun j => D (len + j), by simp, .inr ?_, ?_⟩
    · rw [hx]
      simp only [DataW.slice.injEq, and_true]
      rw [List.map_map]
      exact List.map_congr_left fun i hi => (hf i (List.mem_range.1 hi)).1
    · intro i hi
      have hi' : i < len := by simpa using hi
      obtain ⟨_, c0, c1, c2, hw⟩ := hf i hi'
      obtain ⟨b, off, spot⟩ := a
      have hspot : spot = none := by simpa [Addr.add] using World.cell?_spot (hf 0 (by omega)).2.1
      subst hspot
      refine ⟨b, off, rfl, ?_, ?_, ?_, by simpa using hw⟩
      · rw [← add_plain]; simpa using c0
      · rw [Nat.add_assoc, ← add_plain]; simpa using c1
      · rw [Nat.add_assoc, ← add_plain]; simpa using c2

/-- By the form's own reach: how long the list can be. -/
theorem ops_reach {H : Type} {ps : List Opx} {spare : List (DataW H)} {d : DataW H} (hd : d = .nil ∧ ps = [] ∨ d = .slice (ps.map opData) spare) (hw : ∀ n ∈ d.weights Try.prog 22, n ≤ reachBytes) :
    ps.length * 24 ≤ 140737488351232 := by
  rcases hd with ⟨_, rfl⟩ | rfl
  · simp
  · simp only [DataW.weights, Try.underlying22, bytes_opx] at hw
    have := hw _ (List.mem_cons_self ..)
    simp only [List.length_map, reachBytes] at this
    omega

namespace PWRuns
theorem own : ownKnob Try.prog.godebug = none := by kernel_rfl
theorem laidOut : laidOutB Try.prog = true := by kernel_rfl

set_option maxRecDepth 100000 in
theorem lifted (os : Os) (started : os.Started) (H : Type) (enc : TypeId × Value → H) :
    ReturnsInHanded {} Try.checked os 3 .any (Rows.watchRunsSpec.pre6 enc Try.prog Try.f3 Rows.watchRunsRow.domain false) (Rows.watchRunsSpec.post enc Try.prog Try.f3 false true false false) := by
  refine returnsInHanded_of_change_sized (C := Try.checked) own started (by kernel_rfl) Try.func3
    (ChangeSpec.witness6 (enc := enc) (C := Try.checked) false ⟨#[], #[.slice none 0 0], []⟩ 8 (by kernel_rfl) (by kernel_rfl) (by kernel_rfl) (by kernel_rfl)) ?_
  intro W base args ds gs before hval0 hW _ hsz0 _
  have hsz : (DataW.weightsEach Try.prog (Try.f3.params.toList ++ Rows.watchRunsSpec.plain.varTypes Try.prog) (ds ++ gs)).all (· ≤ reachBytes) = true := hsz0
  have hval : ∀ (j : Nat) t v, Try.f3.params[j]? = some t → args[j]? = some v → Value.okWide Try.prog W .any base t v := hval0
  have hW' := hW
  obtain ⟨p, q, hA0, hV, rfl, hfz, hnd⟩ := hW
  have hA : DataW.TrodAll enc Try.prog W 0 (fun _ => true) true Try.f3.params.toList args.toList ds p := hA0
  rw [Try.params3] at hA hval hsz
  obtain ⟨v0, d0, rfl, rfl, h0⟩ := trodAll_one hA
  obtain ⟨rfl, rfl⟩ := trodVars_none hV
  obtain ⟨ao, len, cap, rfl⟩ := okWide_slice Try.underlying22 (hval 0 22 v0 rfl rfl)
  have h0k := h0
  obtain ⟨fuel, hf⟩ := h0
  clear hA0 hval hval0 hsz0
  simp only [List.append_nil] at hW'
  have hlt : ∀ x ∈ p, x.block < W.heap.size := fun x hx => by simpa using hW'.lt x (by simp [hx])
  obtain ⟨ps, spare, rfl, hd, hpa⟩ := open_ops (by simpa [Value.cells] using hf)
  simp only at hd
  have hr1 := ops_reach hd fun n hn => of_decide_eq_true (List.all_eq_true.1 hsz _ (DataW.weights_mem_each (j := 0) rfl rfl n hn))
  refine (runs_walk ao cap ps W (by omega) hpa).mono fun e W' ⟨he, hg⟩ => ?_
  subst he
  exact ⟨_, rfl, _, _, _, [], _, [], hW', trodAll_mk1 (shut_bool Try.underlying4 _), trodAll_mk1 (Below.trod laidOut (by kernel_rfl) (of_decide_eq_true (by kernel_rfl)) h0k hg hlt), rfl, hg.frame _, fun h => by cases h⟩
end PWRuns

theorem watchRuns_holds : Rows.WatchRunsSaid :=
  OpenClaim.holds_of_wide 3 Try.f3 rfl rfl rfl rfl rfl rfl rfl ⟨rfl, rfl, rfl, rfl, rfl⟩ rfl rfl rfl rfl rfl (by kernel_rfl) Try.func3 (by kernel_rfl)
    (of_decide_eq_true (by kernel_rfl)) (by unfold Func.isWrapper; first | (rw [if_pos (by decide +kernel)]; kernel_rfl) | (rw [if_neg (by decide +kernel)]; exact ⟨rfl, rfl⟩))
    (fun os started H enc _ => PWRuns.lifted os started H enc)

#print axioms watchRuns_holds
end Go.Proofs.Ytochfkjpbdfddaa
