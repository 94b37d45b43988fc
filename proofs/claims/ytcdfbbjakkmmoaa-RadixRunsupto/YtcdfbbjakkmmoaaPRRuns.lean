import Derived.Test.YtcdfbbjakkmmoaaXLRuns
import Derived.Deep.Slices
import Derived.SizedLaws
import Derived.ProofKit
import Derived.Test.YtcdfbbjakkmmoaaRows
import Derived.OpenShut
import Derived.JoinedCond
/- An argument of type []Op (RadixRuns), opened. -/
namespace Go.Proofs.Ytcdfbbjakkmmoaa
open Go.RowKit Go.Deep Go.ChangeShapes Go.WideShapes
set_option linter.unusedVariables false

def ropData {H : Type} (p : Rop) : DataW H := .agg [.lit (.int .i64 p.kd), .lit (.int .i64 p.on), .lit (.string p.k.data.toList), .lit (.int .i64 p.v)]
theorem cells_rop : Try.prog.cellsOf 43 = 4 := by kernel_rfl
theorem cells_intR : Try.prog.cellsOf 3 = 1 := by kernel_rfl
theorem wf_iR {n : Int} (h : (Lit.int .i64 n).wf = true) : -9223372036854775808 ≤ n ∧ n ≤ 9223372036854775807 := by
  have h1 : IntKind.i64.min ≤ n ∧ n ≤ 9223372036854775807 := by simpa [Lit.wf] using h
  exact h1
theorem cells_strR : Try.prog.cellsOf 9 = 1 := by kernel_rfl

set_option maxRecDepth 100000 in
theorem open_rops {H : Type} {enc : TypeId × Value → H} {W : World} {fuel : Nat} {ao : Option Addr} {len cap : Nat} {x : DataW H × List MemPlace}
    (h : DataW.trod enc Try.prog W 0 (fun _ => true) true fuel 50 [.slice ao len cap] = some x) :
    ∃ (ps : List Rop) (spare : List (DataW H)), ps.length = len ∧ (x.1 = .nil ∧ ps = [] ∨ x.1 = .slice (ps.map ropData) spare) ∧ ((∀ p ∈ ps, p.k.size ≤ 140737488351296) → RopsAt W ao ps) := by
  rcases open_slice Try.underlying50 h with ⟨hc, hx⟩ | ⟨a, len', cap', m, n, D, Pl, hc, hb, hl, hm, hmm, hx, hel⟩
  · simp at hc
    obtain ⟨rfl, rfl, rfl⟩ := hc
    exact ⟨[], [], rfl, .inl ⟨by rw [hx], rfl⟩, fun _ i hp => by simp at hp⟩
  · simp at hc
    obtain ⟨rfl, rfl, rfl⟩ := hc
    simp only [if_true] at hmm
    subst hmm
    rw [cells_rop] at hel
    have each : ∀ i, i < len → ∃ p : Rop, D i = ropData p ∧ W.cell? (a.add (i * 4)) = some (.int .i64 p.kd) ∧ W.cell? (a.add (i * 4 + 1)) = some (.int .i64 p.on) ∧ W.cell? (a.add (i * 4 + 2)) = some (.string p.k) ∧ W.cell? (a.add (i * 4 + 3)) = some (.int .i64 p.v) ∧ (-9223372036854775808 ≤ p.on ∧ p.on ≤ 9223372036854775807) := by
      intro i hi
      obtain ⟨cs', h1, h2⟩ := hel i (by omega)
      obtain ⟨_, hlen, hcell⟩ := World.cells?_some h1
      obtain ⟨xs, k, hk, hxy, _, hxl, hf⟩ := DataW.trod_struct Try.underlying43 h2
      match xs, hxl, cs', hlen with
      | [y0, y1, y2, y3], _, [v0, v1, v2, v3], _ =>
        have g0 := hf 0 _ rfl
        have g1 := hf 1 _ rfl
        have g2 := hf 2 _ rfl
        have g3 := hf 3 _ rfl
        simp [cells_intR, cells_strR] at g0 g1 g2 g3
        have e0 := hcell 0 (by omega)
        have e1 := hcell 1 (by omega)
        have e2 := hcell 2 (by omega)
        have e3 := hcell 3 (by omega)
        rw [add_add] at e0 e1 e2 e3
        obtain ⟨n0, q0, r0, w0⟩ := DataW.trod_int Try.underlying3 g0
        obtain ⟨n1, q1, r1, w1⟩ := DataW.trod_int Try.underlying3 g1
        obtain ⟨s2, q2, r2, w2⟩ := DataW.trod_string Try.underlying9 g2
        obtain ⟨n3, q3, r3, w3⟩ := DataW.trod_int Try.underlying3 g3
        simp at q0 q1 q2 q3
        subst q0 q1 q2 q3
        simp only [Prod.mk.injEq] at hxy
        refine ⟨⟨n0, n1, s2, n3⟩, ?_, by simpa using e0, by simpa using e1, by simpa using e2, by simpa using e3, wf_iR w1⟩
        rw [hxy.1]
        simp [ropData, r0, r1, r2, r3]
    obtain ⟨f, hf⟩ : ∃ f : Nat → Rop, ∀ i, i < len → _ := @choose_lt Rop ⟨⟨0, 0, ⟨#[]⟩, 0⟩⟩ len _ each
    refine ⟨(List.range len).map f, (List.range (m - len)).map fun j => D (len + j), by simp, .inr ?_, ?_⟩
    · rw [hx]
      simp only [DataW.slice.injEq, and_true]
      rw [List.map_map]
      exact List.map_congr_left fun i hi => (hf i (List.mem_range.1 hi)).1
    · intro hts i hi
      have hi' : i < len := by simpa using hi
      obtain ⟨_, c0, c1, c2, c3, hon⟩ := hf i hi'
      obtain ⟨b, off, spot⟩ := a
      have hspot : spot = none := by simpa [Addr.add] using World.cell?_spot (hf 0 (by omega)).2.1
      subst hspot
      refine ⟨b, off, rfl, ?_, ?_, ?_, ?_, hts _ (List.getElem_mem hi), by simpa using hon⟩
      · rw [← add_plain]; simpa using c0
      · rw [Nat.add_assoc, ← add_plain]; simpa using c1
      · rw [Nat.add_assoc, ← add_plain]; simpa using c2
      · rw [Nat.add_assoc, ← add_plain]; simpa using c3
end Go.Proofs.Ytcdfbbjakkmmoaa

/- RadixRuns answers true and leaves its arguments as they were, for every list of calls over all versions that they make: each call's answer is the document's, and in the end every version is what it was when it was made. Its condition: the arguments hold at most 1048576 values and letters. -/
namespace Go.Proofs.Ytcdfbbjakkmmoaa
open Go.ChangeShapes Go.WideShapes Go.ChangeAt Go.RowKit
open Go.ChangeMaps (open_string shut_string)
set_option linter.unusedVariables false

namespace PRRuns
theorem own : ownKnob Try.prog.godebug = none := by kernel_rfl
theorem laidOut : laidOutB Try.prog = true := by kernel_rfl
theorem bulk_pos {H : Type} (d : DataW H) : 1 ≤ Rows.uptoBulk d := by
  cases d with
  | lit l => cases l <;> simp [Rows.uptoBulk]
  | _ => simp [Rows.uptoBulk]
theorem bulk_mem {H : Type} : ∀ {l : List (DataW H)} {d : DataW H}, d ∈ l → Rows.uptoBulk d ≤ Rows.uptoBulkAll l
  | e :: l, d, h => by
    simp only [Rows.uptoBulkAll]
    rcases List.mem_cons.1 h with rfl | h
    · omega
    · have := bulk_mem h; omega
theorem bulk_len {H : Type} : ∀ l : List (DataW H), l.length ≤ Rows.uptoBulkAll l
  | [] => by simp
  | d :: l => by
    have h1 := bulk_pos d
    have h2 := bulk_len l
    simp only [Rows.uptoBulkAll, List.length_cons]
    omega
theorem rops_bulk {H : Type} {ps : List Rop} {spare : List (DataW H)} {d : DataW H} (hd : d = .nil ∧ ps = [] ∨ d = .slice (ps.map ropData) spare) : ps.length ≤ Rows.uptoBulk d ∧ ∀ p ∈ ps, p.k.size ≤ Rows.uptoBulk d := by
  rcases hd with ⟨_, rfl⟩ | rfl
  · simp
  · simp only [Rows.uptoBulk]
    have h1 := bulk_len (ps.map (ropData (H := H)))
    rw [List.length_map] at h1
    refine ⟨by omega, fun p hp => ?_⟩
    have h2 := bulk_mem (List.mem_map_of_mem (f := ropData (H := H)) hp)
    have h3 : p.k.size ≤ Rows.uptoBulk (ropData (H := H) p) := by
      unfold ropData
      simp [Rows.uptoBulk, Rows.uptoBulkAll]; omega
    omega

set_option maxRecDepth 100000 in
theorem contract (H : Type) (enc : TypeId × Value → H) (W : World) (base : Nat) (args : Array Value) (ds gs : List (DataW H)) (before : List MemPlace)
    (hval : ∀ (j : Nat) t v, Try.f5.params[j]? = some t → args[j]? = some v → Value.okWide Try.prog W .any base t v)
    (hW : DataW.Whole enc Try.prog Try.f5.params.toList Rows.radixRunsSpec.vars false W args.toList ds gs before) (hk : Rows.uptoSmall H (ds ++ gs) = true) :
    Calls Try.prog 5 args W fun e W' => ∃ v, e = .returned v ∧ Rows.radixRunsSpec.post enc Try.prog Try.f5 false true false false W args v W' := by
  have hW' := hW
  obtain ⟨p, q, hA0, hV, rfl, hfz, hnd⟩ := hW
  have hA : DataW.TrodAll enc Try.prog W 0 (fun _ => true) true Try.f5.params.toList args.toList ds p := hA0
  rw [Try.params5] at hA hval
  obtain ⟨v0, d0, rfl, rfl, h0⟩ := trodAll_one hA
  obtain ⟨rfl, rfl⟩ := trodVars_none hV
  obtain ⟨ao, len, cap, rfl⟩ := okWide_slice Try.underlying50 (hval 0 50 v0 rfl rfl)
  have h0k := h0
  obtain ⟨fuel, hf⟩ := h0
  clear hA0 hval
  simp only [List.append_nil] at hW'
  have hlt0 : ∀ x ∈ p, x.block < W.heap.size := fun x hx => by simpa using hW'.lt x (by simp [hx])
  obtain ⟨ps, spare, rfl, hd, hpa⟩ := open_rops (by simpa [Value.cells] using hf)
  simp only at hd
  have hb : Rows.uptoBulkAll ([d0] ++ ([] : List (DataW H))) ≤ 1048576 := of_decide_eq_true hk
  simp only [Rows.uptoBulkAll, List.append_nil] at hb
  obtain ⟨b1, b2⟩ := rops_bulk hd
  refine (radixRuns_calls ao cap ps W (hpa fun p hp => by have := b2 p hp; omega) (by omega)).mono fun e W' ⟨he, hg⟩ => ?_
  subst he
  exact ⟨_, rfl, _, _, _, [], _, [], hW', trodAll_mk1 (shut_bool Try.underlying4 _), trodAll_mk1 (Below.trod laidOut (by kernel_rfl) (of_decide_eq_true (by kernel_rfl)) h0k hg hlt0), rfl, hg.frame _, fun h => by cases h⟩

set_option maxRecDepth 100000 in
theorem lifted (os : Os) (started : os.Started) (H : Type) (enc : TypeId × Value → H) (F : Stop.Interp) :
    ReturnsInHanded {} Try.checked os 5 .any ((Rows.OpenSpec.upto Rows.radixRunsSpec).pre6 enc Try.prog Try.f5 Rows.radixRunsUptoRow.domain false) (((Rows.OpenSpec.upto Rows.radixRunsSpec).at F).post enc Try.prog Try.f5 false true false false) := by
  refine returnsInHanded_of_cond (C := Try.checked) (s := Rows.OpenSpec.upto Rows.radixRunsSpec) (k := Rows.uptoSmall) rfl own started (by kernel_rfl) Try.func5
    (OpenSpec.witness (enc := enc) (C := Try.checked) (s := Rows.OpenSpec.upto Rows.radixRunsSpec) (k := Rows.uptoSmall) rfl false ⟨#[], #[.slice none 0 0], []⟩ 8 (by kernel_rfl) (by kernel_rfl) (by kernel_rfl)
      (x := ([.nil], [], [])) (by kernel_rfl) rfl (by kernel_rfl)) ?_
  intro W base args ds gs before hval hW _ hk _
  exact contract H enc W base args ds gs before hval hW hk
end PRRuns

theorem radixRuns_holds : Rows.RadixRunsUptoSaid :=
  OpenClaim.holds_of_cond 5 Try.f5 rfl rfl rfl rfl rfl rfl rfl ⟨rfl, rfl, rfl, rfl, rfl⟩ rfl rfl rfl rfl rfl (by kernel_rfl) Try.func5 (by kernel_rfl)
    (of_decide_eq_true (by kernel_rfl)) (by unfold Func.isWrapper; first | (rw [if_pos (by decide +kernel)]; kernel_rfl) | (rw [if_neg (by decide +kernel)]; exact ⟨rfl, rfl⟩))
    (fun os started H enc _ F => PRRuns.lifted os started H enc F)

#print axioms radixRuns_holds
end Go.Proofs.Ytcdfbbjakkmmoaa
