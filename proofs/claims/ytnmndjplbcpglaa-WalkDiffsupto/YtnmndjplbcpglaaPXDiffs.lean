import Derived.Test.YtnmndjplbcpglaaXGot
import Derived.Deep.Slices
import Derived.SizedLaws
import Derived.ProofKit
import Derived.Test.YtnmndjplbcpglaaRows
import Derived.Test.YtnmndjplbcpglaaXLDiffs
import Derived.OpenShut
import Derived.JoinedCond
/- An argument of type []Entry, opened. -/
namespace Go.Proofs.Ytnmndjplbcpglaa
open Go.RowKit Go.Deep Go.ChangeShapes Go.WideShapes
set_option linter.unusedVariables false

def enData {H : Type} (p : En) : DataW H := .agg [.lit (.string p.1.data.toList), .lit (.int .i64 p.2)]
theorem cells_entry : Try.prog.cellsOf 35 = 2 := by kernel_rfl
theorem cells_int4 : Try.prog.cellsOf 3 = 1 := by kernel_rfl
theorem cells_str4 : Try.prog.cellsOf 9 = 1 := by kernel_rfl
theorem bytes_entry : Try.prog.bytesOf 35 = 24 := by kernel_rfl

set_option maxRecDepth 100000 in
theorem open_ents {H : Type} {enc : TypeId × Value → H} {W : World} {fuel : Nat} {ao : Option Addr} {len cap : Nat} {x : DataW H × List MemPlace}
    (h : DataW.trod enc Try.prog W 0 (fun _ => true) true fuel 22 [.slice ao len cap] = some x) :
    ∃ (ps : List En) (spare : List (DataW H)), ps.length = len ∧ (x.1 = .nil ∧ ps = [] ∨ x.1 = .slice (ps.map enData) spare) ∧ ((∀ p ∈ ps, p.1.size ≤ 140737488351296) → EntsAt W ao ps) := by
  rcases open_slice Try.underlying22 h with ⟨hc, hx⟩ | ⟨a, len', cap', m, n, D, Pl, hc, hb, hl, hm, hmm, hx, hel⟩
  · simp at hc
    obtain ⟨rfl, rfl, rfl⟩ := hc
    exact ⟨[], [], rfl, .inl ⟨by rw [hx], rfl⟩, fun _ i hp => by simp at hp⟩
  · simp at hc
    obtain ⟨rfl, rfl, rfl⟩ := hc
    simp only [if_true] at hmm
    subst hmm
    rw [cells_entry] at hel
    have each : ∀ i, i < len → ∃ p : En, D i = enData p ∧ W.cell? (a.add (i * 2)) = some (.string p.1) ∧ W.cell? (a.add (i * 2 + 1)) = some (.int .i64 p.2) := by
      intro i hi
      obtain ⟨cs', h1, h2⟩ := hel i (by omega)
      obtain ⟨_, hlen, hcell⟩ := World.cells?_some h1
      obtain ⟨xs, k, hk, hxy, _, hxl, hf⟩ := DataW.trod_struct Try.underlying35 h2
      match xs, hxl, cs', hlen with
      | [y0, y1], _, [v0, v1], _ =>
        have g0 := hf 0 _ rfl
        have g1 := hf 1 _ rfl
        simp [cells_int4, cells_str4] at g0 g1
        have e0 := hcell 0 (by omega)
        have e1 := hcell 1 (by omega)
        rw [add_add] at e0 e1
        obtain ⟨s0, q0, r0, w0⟩ := DataW.trod_string Try.underlying9 g0
        obtain ⟨n1, q1, r1, w1⟩ := DataW.trod_int Try.underlying3 g1
        simp at q0 q1
        subst q0 q1
        simp only [Prod.mk.injEq] at hxy
        refine ⟨(s0, n1), ?_, by simpa using e0, by simpa using e1⟩
        rw [hxy.1]
        simp [enData, r0, r1]
    obtain ⟨f, hf⟩ : ∃ f : Nat → En, ∀ i, i < len → _ := @choose_lt En ⟨(⟨#[]⟩, 0)⟩ len _ each
    refine ⟨(List.range len).map f, (List.range (m - len)).map fun j => D (len + j), by simp, .inr ?_, ?_⟩
    · rw [hx]
      simp only [DataW.slice.injEq, and_true]
      rw [List.map_map]
      exact List.map_congr_left fun i hi => (hf i (List.mem_range.1 hi)).1
    · intro hts i hi
      have hi' : i < len := by simpa using hi
      obtain ⟨_, c0, c1⟩ := hf i hi'
      obtain ⟨b, off, spot⟩ := a
      have hspot : spot = none := by simpa [Addr.add] using World.cell?_spot (hf 0 (by omega)).2.1
      subst hspot
      refine ⟨b, off, rfl, ?_, ?_, hts _ (List.getElem_mem hi)⟩
      · rw [← add_plain]; simpa using c0
      · rw [Nat.add_assoc, ← add_plain]; simpa using c1

theorem mem_weightsAll4 {H : Type} {P : Program} {e : TypeId} : ∀ {l : List (DataW H)} {d : DataW H}, d ∈ l → ∀ n ∈ d.weights P e, n ∈ DataW.weightsAll P e l
  | d0 :: l, d, hd, n, hn => by
    simp only [DataW.weightsAll, List.mem_append]
    rcases List.mem_cons.1 hd with rfl | h
    · exact .inl hn
    · exact .inr (mem_weightsAll4 h n hn)
  | [], _, hd, _, _ => by simp at hd

/-- By the form's own reach: how long the list and its texts can be. -/
theorem ents_reach {H : Type} {ps : List En} {spare : List (DataW H)} {d : DataW H} (hd : d = .nil ∧ ps = [] ∨ d = .slice (ps.map enData) spare) (hw : ∀ n ∈ d.weights Try.prog 22, n ≤ reachBytes) :
    ps.length * 24 ≤ 140737488351232 ∧ ∀ p ∈ ps, p.1.size ≤ 140737488351232 := by
  rcases hd with ⟨_, rfl⟩ | rfl
  · simp
  · simp only [DataW.weights, Try.underlying22, bytes_entry] at hw
    refine ⟨?_, ?_⟩
    · have := hw _ (List.mem_cons_self ..)
      simp only [List.length_map, reachBytes] at this
      omega
    · intro p hp
      have := hw p.1.data.toList.length (List.mem_cons_of_mem _ (List.mem_append_left _ (mem_weightsAll4 (List.mem_map_of_mem hp) _ (by
        simp [enData, DataW.weights, Try.underlying35, DataW.weightsEach]))))
      simpa [reachBytes] using this
end Go.Proofs.Ytnmndjplbcpglaa

/- WalkDiffs answers true and leaves its arguments as they were, for all two lists of entries and every text: every Diff is the document's, in new memory. Its condition: the arguments hold at most 1048576 values and letters. -/
namespace Go.Proofs.Ytnmndjplbcpglaa
open Go.ChangeShapes Go.WideShapes Go.ChangeAt Go.RowKit
open Go.ChangeMaps (open_string shut_string)
set_option linter.unusedVariables false

namespace PXDiffs
theorem own : ownKnob Try.prog.godebug = none := by kernel_rfl
theorem laidOut : laidOutB Try.prog = true := by kernel_rfl
theorem bulk_pos {H : Type} (d : DataW H) : 1 ≤ Rows.uptoBulk d := by
  cases d with
  | lit l => cases l <;> simp [Rows.uptoBulk]
  | _ => simp [Rows.uptoBulk]
theorem bulk_mem {H : Type} : ∀ {l : List (DataW H)} {d : DataW H}, d ∈ l → Rows.uptoBulk d ≤ Rows.uptoBulkAll l
  | e :: l, d, h => by
    simp only [Rows.uptoBulkAll]
    rcases List.mem_cons.1 h with rfl | h
    · omega
    · have := bulk_mem h; omega
theorem bulk_len {H : Type} : ∀ l : List (DataW H), l.length ≤ Rows.uptoBulkAll l
  | [] => by simp
  | d :: l => by
    have h1 := bulk_pos d
    have h2 := bulk_len l
    simp only [Rows.uptoBulkAll, List.length_cons]
    omega
theorem ents_bulk {H : Type} {ps : List En} {spare : List (DataW H)} {d : DataW H} (hd : d = .nil ∧ ps = [] ∨ d = .slice (ps.map enData) spare) : ps.length ≤ Rows.uptoBulk d ∧ ∀ p ∈ ps, p.1.size ≤ Rows.uptoBulk d := by
  rcases hd with ⟨_, rfl⟩ | rfl
  · simp
  · simp only [Rows.uptoBulk]
    have h1 := bulk_len (ps.map (enData (H := H)))
    rw [List.length_map] at h1
    refine ⟨by omega, fun p hp => ?_⟩
    have h2 := bulk_mem (List.mem_map_of_mem (f := enData (H := H)) hp)
    have h3 : p.1.size ≤ Rows.uptoBulk (enData (H := H) p) := by
      unfold enData
      simp [Rows.uptoBulk, Rows.uptoBulkAll]; omega
    omega

set_option maxRecDepth 100000 in
theorem contract (H : Type) (enc : TypeId × Value → H) (W : World) (base : Nat) (args : Array Value) (ds gs : List (DataW H)) (before : List MemPlace)
    (hval : ∀ (j : Nat) t v, Try.f4.params[j]? = some t → args[j]? = some v → Value.okWide Try.prog W .any base t v)
    (hW : DataW.Whole enc Try.prog Try.f4.params.toList Rows.walkDiffsSpec.vars false W args.toList ds gs before) (hk : Rows.uptoSmall H (ds ++ gs) = true) :
    Calls Try.prog 4 args W fun e W' => ∃ v, e = .returned v ∧ Rows.walkDiffsSpec.post enc Try.prog Try.f4 false true false false W args v W' := by
  have hW' := hW
  obtain ⟨p, q, hA0, hV, rfl, hfz, hnd⟩ := hW
  have hA : DataW.TrodAll enc Try.prog W 0 (fun _ => true) true Try.f4.params.toList args.toList ds p := hA0
  rw [Try.params4] at hA hval
  obtain ⟨v0, v1, v2, d0, d1, d2, p0, p1, p2, rfl, rfl, rfl, h0, h1, h2⟩ := trodAll_three hA
  obtain ⟨rfl, rfl⟩ := trodVars_none hV
  obtain ⟨ao, len, cap, rfl⟩ := okWide_slice Try.underlying22 (hval 0 22 v0 rfl rfl)
  obtain ⟨ao', len', cap', rfl⟩ := okWide_slice Try.underlying22 (hval 1 22 v1 rfl rfl)
  obtain ⟨key, rfl, rfl, rfl, hks⟩ := open_string Try.underlying9 (hval 2 9 v2 rfl rfl) h2
  have h0k := h0
  have h1k := h1
  obtain ⟨fuel, hf⟩ := h0
  obtain ⟨fuel', hf'⟩ := h1
  clear hA0 hval
  simp only [List.append_nil] at hW'
  have hlt0 : ∀ x ∈ p0, x.block < W.heap.size := fun x hx => by simpa using hW'.lt x (by simp [hx])
  have hlt1 : ∀ x ∈ p1, x.block < W.heap.size := fun x hx => by simpa using hW'.lt x (by simp [hx])
  obtain ⟨ps, spare, rfl, hd, hpa⟩ := open_ents (by simpa [Value.cells] using hf)
  obtain ⟨qs, spare', rfl, hd', hpa'⟩ := open_ents (by simpa [Value.cells] using hf')
  simp only at hd hd'
  have hb : Rows.uptoBulkAll ([d0, d1, .lit (.string key.data.toList)] ++ ([] : List (DataW H))) ≤ 1048576 := of_decide_eq_true hk
  simp only [Rows.uptoBulkAll, Rows.uptoBulk, List.append_nil] at hb
  obtain ⟨b1, b2⟩ := ents_bulk hd
  obtain ⟨b3, b4⟩ := ents_bulk hd'
  have hkl : key.size ≤ 1048576 := by
    have h3 : key.data.toList.length = key.size := (by simp)
    rw [h3] at hb
    omega
  refine (walkDiffs_walk ao ao' cap cap' ps qs key W (hpa fun p hp => by have := b2 p hp; omega) (hpa' fun p hp => by have := b4 p hp; omega) (by omega) (by omega)).mono fun e W' ⟨he, hg⟩ => ?_
  subst he
  exact ⟨_, rfl, _, _, _, [], _, [], hW', trodAll_mk1 (shut_bool Try.underlying4 _), trodAll_mk3 (Below.trod laidOut (by kernel_rfl) (of_decide_eq_true (by kernel_rfl)) h0k hg hlt0) (Below.trod laidOut (by kernel_rfl) (of_decide_eq_true (by kernel_rfl)) h1k hg hlt1) (shut_string Try.underlying9 hks), rfl, hg.frame _, fun h => by cases h⟩

set_option maxRecDepth 100000 in
theorem lifted (os : Os) (started : os.Started) (H : Type) (enc : TypeId × Value → H) (F : Stop.Interp) :
    ReturnsInHanded {} Try.checked os 4 .any ((Rows.OpenSpec.upto Rows.walkDiffsSpec).pre6 enc Try.prog Try.f4 Rows.walkDiffsUptoRow.domain false) (((Rows.OpenSpec.upto Rows.walkDiffsSpec).at F).post enc Try.prog Try.f4 false true false false) := by
  refine returnsInHanded_of_cond (C := Try.checked) (s := Rows.OpenSpec.upto Rows.walkDiffsSpec) (k := Rows.uptoSmall) rfl own started (by kernel_rfl) Try.func4
    (OpenSpec.witness (enc := enc) (C := Try.checked) (s := Rows.OpenSpec.upto Rows.walkDiffsSpec) (k := Rows.uptoSmall) rfl false ⟨#[], #[.slice none 0 0, .slice none 0 0, .string ⟨#[]⟩], []⟩ 8 (by kernel_rfl) (by kernel_rfl) (by kernel_rfl)
      (x := ([.nil, .nil, .lit (.string [])], [], [])) (by kernel_rfl) rfl (by kernel_rfl)) ?_
  intro W base args ds gs before hval hW _ hk _
  exact contract H enc W base args ds gs before hval hW hk
end PXDiffs

theorem walkDiffs_holds : Rows.WalkDiffsUptoSaid :=
  OpenClaim.holds_of_cond 4 Try.f4 rfl rfl rfl rfl rfl rfl rfl ⟨rfl, rfl, rfl, rfl, rfl⟩ rfl rfl rfl rfl rfl (by kernel_rfl) Try.func4 (by kernel_rfl)
    (of_decide_eq_true (by kernel_rfl)) (by unfold Func.isWrapper; first | (rw [if_pos (by decide +kernel)]; kernel_rfl) | (rw [if_neg (by decide +kernel)]; exact ⟨rfl, rfl⟩))
    (fun os started H enc _ F => PXDiffs.lifted os started H enc F)

#print axioms walkDiffs_holds
end Go.Proofs.Ytnmndjplbcpglaa
