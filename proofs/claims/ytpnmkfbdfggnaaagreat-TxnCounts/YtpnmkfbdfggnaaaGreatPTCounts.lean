import Derived.Test.YtpnmkfbdfggnaaaGreatRGood
import Derived.Deep.Slices
import Derived.SizedLaws
import Derived.ProofKit
import Derived.Test.YtpnmkfbdfggnaaaGreatChecked
import Derived.WalkKit
import Derived.Deep.Grids
import Derived.ChangeSlices
import Derived.Deep.Light
import Derived.OpenShut
import Derived.Test.YtpnmkfbdfggnaaaGreatRows
import Derived.Test.YtpnmkfbdfggnaaaGreatTCounts
/- An argument of type []string, opened. -/
namespace Go.Proofs.YtpnmkfbdfggnaaaGreat
open Go.RowKit Go.Deep Go.ChangeShapes Go.WideShapes
set_option linter.unusedVariables false

def strData {H : Type} (t : ByteArray) : DataW H := .lit (.string t.data.toList)
theorem cells_str : Tryz.prog.cellsOf 9 = 1 := by kernel_rfl
theorem bytes_str : Tryz.prog.bytesOf 9 = 16 := by kernel_rfl

theorem open_strs {H : Type} {enc : TypeId × Value → H} {W : World} {fuel : Nat} {ao : Option Addr} {len cap : Nat} {x : DataW H × List MemPlace}
    (h : DataW.trod enc Tryz.prog W 0 (fun _ => true) true fuel 26 [.slice ao len cap] = some x) :
    ∃ (ps : List ByteArray) (spare : List (DataW H)), ps.length = len ∧ (x.1 = .nil ∧ ps = [] ∨ x.1 = .slice (ps.map strData) spare) ∧ ((∀ p ∈ ps, p.size ≤ 140737488351296) → StrsAt W ao ps) := by
  rcases open_slice Tryz.underlying26 h with ⟨hc, hx⟩ | ⟨a, len', cap', m, n, D, Pl, hc, hb, hl, hm, hmm, hx, hel⟩
  · simp at hc
    obtain ⟨rfl, rfl, rfl⟩ := hc
    exact ⟨[], [], rfl, .inl ⟨by rw [hx], rfl⟩, fun _ i hp => by simp at hp⟩
  · simp at hc
    obtain ⟨rfl, rfl, rfl⟩ := hc
    simp only [if_true] at hmm
    subst hmm
    rw [cells_str] at hel
    have each : ∀ i, i < len → ∃ p : ByteArray, D i = strData p ∧ W.cell? (a.add i) = some (.string p) := by
      intro i hi
      obtain ⟨cs', h1, h2⟩ := hel i (by omega)
      obtain ⟨_, hlen, hcell⟩ := World.cells?_some h1
      match cs', hlen with
      | [v0], _ =>
        obtain ⟨s1, q1, r1, w1⟩ := DataW.trod_string Tryz.underlying9 h2
        have e0 := hcell 0 (by omega)
        rw [add_add] at e0
        simp at q1
        subst q1
        refine ⟨s1, ?_, by simpa using e0⟩
        have := congrArg Prod.fst r1
        simpa [strData] using this
    obtain ⟨f, hf⟩ : ∃ f : Nat → ByteArray, ∀ i, i < len → _ := @choose_lt ByteArray ⟨⟨#[]⟩⟩ len _ each
    refine ⟨(List.range len).map f, (List.range (m - len)).map fun j => D (len + j), by simp, .inr ?_, ?_⟩
    · rw [hx]
      simp only [DataW.slice.injEq, and_true]
      rw [List.map_map]
      exact List.map_congr_left fun i hi => (hf i (List.mem_range.1 hi)).1
    · intro hts i hi
      have hi' : i < len := by simpa using hi
      obtain ⟨_, c0⟩ := hf i hi'
      obtain ⟨b, off, spot⟩ := a
      have hspot : spot = none := by simpa [Addr.add] using World.cell?_spot (hf 0 (by omega)).2
      subst hspot
      refine ⟨b, off, rfl, ?_, hts _ (List.getElem_mem hi)⟩
      rw [← add_plain]
      simpa using c0

theorem mem_weightsAll' {H : Type} {P : Program} {e : TypeId} : ∀ {l : List (DataW H)} {d : DataW H}, d ∈ l → ∀ n ∈ d.weights P e, n ∈ DataW.weightsAll P e l
  | d0 :: l, d, hd, n, hn => by
    simp only [DataW.weightsAll, List.mem_append]
    rcases List.mem_cons.1 hd with rfl | h
    · exact .inl hn
    · exact .inr (mem_weightsAll' h n hn)
  | [], _, hd, _, _ => by simp at hd

/-- By the form's own reach: how long the list and its texts can be. -/
theorem strs_reach {H : Type} {ps : List ByteArray} {spare : List (DataW H)} {d : DataW H} (hd : d = .nil ∧ ps = [] ∨ d = .slice (ps.map strData) spare) (hw : ∀ n ∈ d.weights Tryz.prog 26, n ≤ reachBytes) :
    ps.length * 16 ≤ 140737488351296 ∧ ∀ p ∈ ps, p.size ≤ 140737488351296 := by
  rcases hd with ⟨_, rfl⟩ | rfl
  · simp
  · simp only [DataW.weights, Tryz.underlying26, bytes_str] at hw
    refine ⟨?_, ?_⟩
    · have := hw _ (List.mem_cons_self ..)
      simp only [List.length_map, reachBytes] at this
      omega
    · intro p hp
      have := hw p.data.toList.length (List.mem_cons_of_mem _ (List.mem_append_left _ (mem_weightsAll' (List.mem_map_of_mem hp) _ (by
        simp [strData, DataW.weights]))))
      have h2 : p.size ≤ reachBytes := by simpa using this
      exact Nat.le_trans h2 (by decide)
end Go.Proofs.YtpnmkfbdfggnaaaGreat

/- Slices of bools and of numbers that come in as arguments. -/
namespace Go.Proofs.YtpnmkfbdfggnaaaGreat
open Go.RowKit Go.ChangeShapes Go.WideShapes Go.ChangeAt
set_option linter.unusedVariables false

theorem cell_add {W : World} {a : Addr} {i : Nat} {v v0 : Value} (h0 : W.cell? (a.add 0) = some v0) (h : W.cell? (a.add i) = some v) : ∃ b off, a = ⟨b, off, none⟩ ∧ W.cell? ⟨b, off + i, none⟩ = some v := by
  obtain ⟨b, off, spot⟩ := a
  have hspot : spot = none := by simpa [Addr.add] using World.cell?_spot h0
  subst hspot
  refine ⟨b, off, rfl, ?_⟩
  have : (⟨b, off, none⟩ : Addr).add i = ⟨b, off + i, none⟩ := by unfold Addr.add; split <;> simp_all
  rw [← this]; exact h
end Go.Proofs.YtpnmkfbdfggnaaaGreat

/- TxnCounts answers true and leaves its arguments as they were, for every list of keys and every list of choices: the version counts the commits that touch a key. No condition. -/
namespace Go.Proofs.YtpnmkfbdfggnaaaGreat
open Go.ChangeShapes Go.WideShapes Go.ChangeAt Go.RowKit
open Go.ChangeMaps (open_string shut_string)
set_option linter.unusedVariables false

namespace PTCounts
theorem own : ownKnob Tryz.prog.godebug = none := by kernel_rfl
theorem laidOut : laidOutB Tryz.prog = true := by kernel_rfl

set_option maxRecDepth 100000 in
theorem lifted (os : Os) (started : os.Started) (H : Type) (enc : TypeId × Value → H) :
    ReturnsInHanded {} Tryz.checked os 8 .any (Rows.txnCountsSpec.pre6 enc Tryz.prog Tryz.f8 Rows.txnCountsRow.domain false) (Rows.txnCountsSpec.post enc Tryz.prog Tryz.f8 false true false false) := by
  refine returnsInHanded_of_change_sized (C := Tryz.checked) own started (by kernel_rfl) Tryz.func8
    (ChangeSpec.witness6 (enc := enc) (C := Tryz.checked) false ⟨#[], #[.slice none 0 0, .slice none 0 0], []⟩ 8 (by kernel_rfl) (by kernel_rfl) (by kernel_rfl) (by kernel_rfl)) ?_
  intro W base args ds gs before hval0 hW _ hsz0 _
  have hsz : (DataW.weightsEach Tryz.prog (Tryz.f8.params.toList ++ Rows.txnCountsSpec.plain.varTypes Tryz.prog) (ds ++ gs)).all (· ≤ reachBytes) = true := hsz0
  have hval : ∀ (j : Nat) t v, Tryz.f8.params[j]? = some t → args[j]? = some v → Value.okWide Tryz.prog W .any base t v := hval0
  have hW' := hW
  obtain ⟨p, q, hA0, hV, rfl, hfz, hnd⟩ := hW
  have hA : DataW.TrodAll enc Tryz.prog W 0 (fun _ => true) true Tryz.f8.params.toList args.toList ds p := hA0
  rw [Tryz.params8] at hA hval hsz
  obtain ⟨v0, v1, d0, d1, p0, p1, rfl, rfl, rfl, h0, h1⟩ := trodAll_two hA
  obtain ⟨rfl, rfl⟩ := trodVars_none hV
  obtain ⟨ao, len, cap, rfl⟩ := okWide_slice Tryz.underlying26 (hval 0 26 v0 rfl rfl)
  obtain ⟨ao', len', cap', rfl⟩ := okWide_slice Tryz.underlying83 (hval 1 83 v1 rfl rfl)
  have h0k := h0
  have h1k := h1
  obtain ⟨fuel, hf⟩ := h0
  obtain ⟨fuel', hf'⟩ := h1
  clear hA0 hval hval0 hsz0
  simp only [List.append_nil] at hW'
  have hlt0 : ∀ x ∈ p0, x.block < W.heap.size := fun x hx => by simpa using hW'.lt x (by simp [hx])
  have hlt1 : ∀ x ∈ p1, x.block < W.heap.size := fun x hx => by simpa using hW'.lt x (by simp [hx])
  obtain ⟨ps, spare, rfl, hd, hpa⟩ := open_strs (by simpa [Value.cells] using hf)
  obtain ⟨bs, hbl, hl, hbs⟩ : ∃ bs : List Bool, bs.length = len' ∧ bs.length ≤ 9223372036854775807 ∧ BoolsAt W ao' bs := by
    rcases Go.Deep.open_bools Tryz.underlying83 Tryz.underlying4 (by kernel_rfl) (by simpa [Value.cells] using hf') with ⟨hc, hx⟩ | ⟨a, len', cap', B, hc, hb, hl, hm, hx, hel⟩
    · simp at hc
      obtain ⟨rfl, rfl, rfl⟩ := hc
      exact ⟨[], rfl, by simp, fun i hi => by simp at hi⟩
    · simp at hc
      obtain ⟨rfl, rfl, rfl⟩ := hc
      refine ⟨(List.range len').map B, by simp, by simp [maxLen] at hm ⊢; omega, fun i hi => ?_⟩
      have hi' : i < len' := by simpa using hi
      obtain ⟨b, off, rfl, hcell⟩ := cell_add (hel 0 (by omega)) (hel i (by omega))
      exact ⟨b, off, rfl, by simpa using hcell⟩
  subst hbl
  simp only at hd
  obtain ⟨hr1, hr2⟩ := strs_reach hd fun n hn => of_decide_eq_true (List.all_eq_true.1 hsz _ (DataW.weights_mem_each (j := 0) rfl rfl n hn))
  refine (txnCounts_calls ao ao' cap cap' ps bs W (hpa hr2) hbs (by omega) (by omega)).mono fun e W' ⟨he, hg⟩ => ?_
  subst he
  exact ⟨_, rfl, _, _, _, [], _, [], hW', trodAll_mk1 (shut_bool Tryz.underlying4 _), trodAll_mk2 (Below.trod laidOut (by kernel_rfl) (of_decide_eq_true (by kernel_rfl)) h0k hg hlt0) (Below.trod laidOut (by kernel_rfl) (of_decide_eq_true (by kernel_rfl)) h1k hg hlt1), rfl, hg.frame _, fun h => by cases h⟩
end PTCounts

theorem txnCounts_holds : Rows.TxnCountsSaid :=
  OpenClaim.holds_of_wide 8 Tryz.f8 rfl rfl rfl rfl rfl rfl rfl ⟨rfl, rfl, rfl, rfl, rfl⟩ rfl rfl rfl rfl rfl (by kernel_rfl) Tryz.func8 (by kernel_rfl)
    (of_decide_eq_true (by kernel_rfl)) (by unfold Func.isWrapper; first | (rw [if_pos (by decide +kernel)]; kernel_rfl) | (rw [if_neg (by decide +kernel)]; exact ⟨rfl, rfl⟩))
    (fun os started H enc _ => PTCounts.lifted os started H enc)

#print axioms txnCounts_holds
end Go.Proofs.YtpnmkfbdfggnaaaGreat
