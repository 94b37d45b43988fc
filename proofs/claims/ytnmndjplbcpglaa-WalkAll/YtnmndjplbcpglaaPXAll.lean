import Derived.Test.YtnmndjplbcpglaaXGot2
import Derived.Deep.Slices
import Derived.SizedLaws
import Derived.ProofKit
import Derived.Test.YtnmndjplbcpglaaRows
import Derived.Test.YtnmndjplbcpglaaXLAll
import Derived.OpenShut
/- An argument of type []Entry, opened. -/
namespace Go.Proofs.Ytnmndjplbcpglaa
open Go.RowKit Go.Deep Go.ChangeShapes Go.WideShapes
set_option linter.unusedVariables false

def enData {H : Type} (p : En) : DataW H := .agg [.lit (.string p.1.data.toList), .lit (.int .i64 p.2)]
theorem cells_entry : Try.prog.cellsOf 35 = 2 := by kernel_rfl
theorem cells_int4 : Try.prog.cellsOf 3 = 1 := by kernel_rfl
theorem cells_str4 : Try.prog.cellsOf 9 = 1 := by kernel_rfl
theorem bytes_entry : Try.prog.bytesOf 35 = 24 := by kernel_rfl

set_option maxRecDepth 100000 in
theorem open_ents {H : Type} {enc : TypeId × Value → H} {W : World} {fuel : Nat} {ao : Option Addr} {len cap : Nat} {x : DataW H × List MemPlace}
    (h : DataW.trod enc Try.prog W 0 (fun _ => true) true fuel 22 [.slice ao len cap] = some x) :
    ∃ (ps : List En) (spare : List (DataW H)), ps.length = len ∧ (x.1 = .nil ∧ ps = [] ∨ x.1 = .slice (ps.map enData) spare) ∧ ((∀ p ∈ ps, p.1.size ≤ 140737488351296) → EntsAt W ao ps) := by
  rcases open_slice Try.underlying22 h with ⟨hc, hx⟩ | ⟨a, len', cap', m, n, D, Pl, hc, hb, hl, hm, hmm, hx, hel⟩
  · simp at hc
    obtain ⟨rfl, rfl, rfl⟩ := hc
    exact ⟨[], [], rfl, .inl ⟨by rw [hx], rfl⟩, fun _ i hp => by simp at hp⟩
  · simp at hc
    obtain ⟨rfl, rfl, rfl⟩ := hc
    simp only [if_true] at hmm
    subst hmm
    rw [cells_entry] at hel
    have each : ∀ i, i < len → ∃ p : En, D i = enData p ∧ W.cell? (a.add (i * 2)) = some (.string p.1) ∧ W.cell? (a.add (i * 2 + 1)) = some (.int .i64 p.2) := by
      intro i hi
      obtain ⟨cs', h1, h2⟩ := hel i (by omega)
      obtain ⟨_, hlen, hcell⟩ := World.cells?_some h1
      obtain ⟨xs, k, hk, hxy, _, hxl, hf⟩ := DataW.trod_struct Try.underlying35 h2
      match xs, hxl, cs', hlen with
      | [y0, y1], _, [v0, v1], _ =>
        have g0 := hf 0 _ rfl
        have g1 := hf 1 _ rfl
        simp [cells_int4, cells_str4] at g0 g1
        have e0 := hcell 0 (by omega)
        have e1 := hcell 1 (by omega)
        rw [add_add] at e0 e1
        obtain ⟨s0, q0, r0, w0⟩ := DataW.trod_string Try.underlying9 g0
        obtain ⟨n1, q1, r1, w1⟩ := DataW.trod_int Try.underlying3 g1
        simp at q0 q1
        subst q0 q1
        simp only [Prod.mk.injEq] at hxy
        refine ⟨(s0, n1), ?_, by simpa using e0, by simpa using e1⟩
        rw [hxy.1]
        simp [enData, r0, r1]
    obtain ⟨f, hf⟩ : ∃ f : Nat → En, ∀ i, i < len → _ := @choose_lt En ⟨(⟨#[]⟩, 0)⟩ len _ each
    refine ⟨(List.range len).map f, (List.range (m - len)).map fun j => D (len + j), by simp, .inr ?_, ?_⟩
    · rw [hx]
      simp only [DataW.slice.injEq, and_true]
      rw [List.map_map]
      exact List.map_congr_left fun i hi => (hf i (List.mem_range.1 hi)).1
    · intro hts i hi
      have hi' : i < len := by simpa using hi
      obtain ⟨_, c0, c1⟩ := hf i hi'
      obtain ⟨b, off, spot⟩ := a
      have hspot : spot = none := by simpa [Addr.add] using World.cell?_spot (hf 0 (by omega)).2.1
      subst hspot
      refine ⟨b, off, rfl, ?_, ?_, hts _ (List.getElem_mem hi)⟩
      · rw [← add_plain]; simpa using c0
      · rw [Nat.add_assoc, ← add_plain]; simpa using c1

theorem mem_weightsAll4 {H : Type} {P : Program} {e : TypeId} : ∀ {l : List (DataW H)} {d : DataW H}, d ∈ l → ∀ n ∈ d.weights P e, n ∈ DataW.weightsAll P e l
  | d0 :: l, d, hd, n, hn => by
    simp only [DataW.weightsAll, List.mem_append]
    rcases List.mem_cons.1 hd with rfl | h
    · exact .inl hn
    · exact .inr (mem_weightsAll4 h n hn)
  | [], _, hd, _, _ => by simp at hd

/-- By the form's own reach: how long the list and its texts can be. -/
theorem ents_reach {H : Type} {ps : List En} {spare : List (DataW H)} {d : DataW H} (hd : d = .nil ∧ ps = [] ∨ d = .slice (ps.map enData) spare) (hw : ∀ n ∈ d.weights Try.prog 22, n ≤ reachBytes) :
    ps.length * 24 ≤ 140737488351232 ∧ ∀ p ∈ ps, p.1.size ≤ 140737488351232 := by
  rcases hd with ⟨_, rfl⟩ | rfl
  · simp
  · simp only [DataW.weights, Try.underlying22, bytes_entry] at hw
    refine ⟨?_, ?_⟩
    · have := hw _ (List.mem_cons_self ..)
      simp only [List.length_map, reachBytes] at this
      omega
    · intro p hp
      have := hw p.1.data.toList.length (List.mem_cons_of_mem _ (List.mem_append_left _ (mem_weightsAll4 (List.mem_map_of_mem hp) _ (by
        simp [enData, DataW.weights, Try.underlying35, DataW.weightsEach]))))
      simpa [reachBytes] using this
end Go.Proofs.Ytnmndjplbcpglaa

/- WalkAll answers true and leaves its argument as it was, for every list of entries: All and Back give every entry, rising and falling, as often as they are asked. No condition. -/
namespace Go.Proofs.Ytnmndjplbcpglaa
open Go.ChangeShapes Go.WideShapes Go.ChangeAt Go.RowKit
set_option linter.unusedVariables false

namespace PXAll
theorem own : ownKnob Try.prog.godebug = none := by kernel_rfl
theorem laidOut : laidOutB Try.prog = true := by kernel_rfl

set_option maxRecDepth 100000 in
theorem lifted (os : Os) (started : os.Started) (H : Type) (enc : TypeId × Value → H) :
    ReturnsInHanded {} Try.checked os 3 .any (Rows.walkAllSpec.pre6 enc Try.prog Try.f3 Rows.walkAllRow.domain false) (Rows.walkAllSpec.post enc Try.prog Try.f3 false true false false) := by
  refine returnsInHanded_of_change_sized (C := Try.checked) own started (by kernel_rfl) Try.func3
    (ChangeSpec.witness6 (enc := enc) (C := Try.checked) false ⟨#[], #[.slice none 0 0], []⟩ 8 (by kernel_rfl) (by kernel_rfl) (by kernel_rfl) (by kernel_rfl)) ?_
  intro W base args ds gs before hval0 hW _ hsz0 _
  have hsz : (DataW.weightsEach Try.prog (Try.f3.params.toList ++ Rows.walkAllSpec.plain.varTypes Try.prog) (ds ++ gs)).all (· ≤ reachBytes) = true := hsz0
  have hval : ∀ (j : Nat) t v, Try.f3.params[j]? = some t → args[j]? = some v → Value.okWide Try.prog W .any base t v := hval0
  have hW' := hW
  obtain ⟨p, q, hA0, hV, rfl, hfz, hnd⟩ := hW
  have hA : DataW.TrodAll enc Try.prog W 0 (fun _ => true) true Try.f3.params.toList args.toList ds p := hA0
  rw [Try.params3] at hA hval hsz
  obtain ⟨v0, d0, rfl, rfl, h0⟩ := trodAll_one hA
  obtain ⟨rfl, rfl⟩ := trodVars_none hV
  obtain ⟨ao, len, cap, rfl⟩ := okWide_slice Try.underlying22 (hval 0 22 v0 rfl rfl)
  have h0k := h0
  obtain ⟨fuel, hf⟩ := h0
  clear hA0 hval hval0 hsz0
  simp only [List.append_nil] at hW'
  have hlt : ∀ x ∈ p, x.block < W.heap.size := fun x hx => by simpa using hW'.lt x hx
  obtain ⟨ps, spare, rfl, hd, hpa⟩ := open_ents (by simpa [Value.cells] using hf)
  simp only at hd
  obtain ⟨hr1, hr2⟩ := ents_reach hd fun n hn => of_decide_eq_true (List.all_eq_true.1 hsz _ (DataW.weights_mem_each (j := 0) rfl rfl n hn))
  refine (walkAll_walk ao cap ps W (hpa (fun e he => Nat.le_trans (hr2 e he) (by decide))) (by omega)).mono fun e W' ⟨he, hg⟩ => ?_
  subst he
  exact ⟨_, rfl, _, _, _, [], _, [], hW', trodAll_mk1 (shut_bool Try.underlying4 _), trodAll_mk1 (Below.trod laidOut (by kernel_rfl) (of_decide_eq_true (by kernel_rfl)) h0k hg hlt), rfl, hg.frame _, fun h => by cases h⟩
end PXAll

theorem walkAll_holds : Rows.WalkAllSaid :=
  OpenClaim.holds_of_wide 3 Try.f3 rfl rfl rfl rfl rfl rfl rfl ⟨rfl, rfl, rfl, rfl, rfl⟩ rfl rfl rfl rfl rfl (by kernel_rfl) Try.func3 (by kernel_rfl)
    (of_decide_eq_true (by kernel_rfl)) (by unfold Func.isWrapper; first | (rw [if_pos (by decide +kernel)]; kernel_rfl) | (rw [if_neg (by decide +kernel)]; exact ⟨rfl, rfl⟩))
    (fun os started H enc _ => PXAll.lifted os started H enc)

#print axioms walkAll_holds
end Go.Proofs.Ytnmndjplbcpglaa
