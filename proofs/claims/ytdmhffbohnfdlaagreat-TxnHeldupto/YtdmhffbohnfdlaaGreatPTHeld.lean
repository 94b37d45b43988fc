/- TxnHeld answers true and leaves its argument as it was, for every list of lists of changes: trees that were taken stay as they were. Its condition: the argument holds at most 1048576 values and letters. -/
import Derived.Test.YtdmhffbohnfdlaaGreatRows
import Derived.Test.YtdmhffbohnfdlaaGreatTHeld
import Derived.Test.YtdmhffbohnfdlaaGreatTArgs
import Derived.OpenShut
import Derived.JoinedCond
namespace Go.Proofs.YtdmhffbohnfdlaaGreat
open Go.ChangeShapes Go.WideShapes Go.ChangeAt Go.RowKit
set_option linter.unusedVariables false

namespace PTHeld
theorem own : ownKnob Tryz.prog.godebug = none := by kernel_rfl
theorem laidOut : laidOutB Tryz.prog = true := by kernel_rfl
theorem bulk_pos {H : Type} (d : DataW H) : 1 ≤ Rows.uptoBulk d := by
  cases d with
  | lit l => cases l <;> simp [Rows.uptoBulk]
  | _ => simp [Rows.uptoBulk]
theorem bulk_mem {H : Type} : ∀ {l : List (DataW H)} {d : DataW H}, d ∈ l → Rows.uptoBulk d ≤ Rows.uptoBulkAll l
  | e :: l, d, h => by
    simp only [Rows.uptoBulkAll]
    rcases List.mem_cons.1 h with rfl | h
    · omega
    · have := bulk_mem h; omega
theorem bulk_len {H : Type} : ∀ l : List (DataW H), l.length ≤ Rows.uptoBulkAll l
  | [] => by simp
  | d :: l => by
    have h1 := bulk_pos d
    have h2 := bulk_len l
    simp only [Rows.uptoBulkAll, List.length_cons]
    omega
theorem bulk_app {H : Type} : ∀ l m : List (DataW H), Rows.uptoBulkAll (l ++ m) = Rows.uptoBulkAll l + Rows.uptoBulkAll m
  | [], m => by simp [Rows.uptoBulkAll]
  | d :: l, m => by simp only [List.cons_append, Rows.uptoBulkAll, bulk_app l m]; omega
theorem chs_bulk {H : Type} {ps : List Ch} {d : DataW H} (hd : ChsData ps d) : ps.length ≤ Rows.uptoBulk d ∧ ∀ p ∈ ps, p.2.1.size ≤ Rows.uptoBulk d := by
  rcases hd with ⟨_, rfl⟩ | ⟨sp, rfl⟩
  · simp
  · simp only [Rows.uptoBulk]
    have h1 := bulk_len (ps.map (chData (H := H)))
    rw [List.length_map] at h1
    refine ⟨by omega, fun p hp => ?_⟩
    have h2 := bulk_mem (List.mem_map_of_mem (f := chData (H := H)) hp)
    have h3 : p.2.1.size ≤ Rows.uptoBulk (chData (H := H) p) := by
      unfold chData
      simp [Rows.uptoBulk, Rows.uptoBulkAll]; omega
    omega
theorem chss_bulk {H : Type} {ls : List Chs} {D : Nat → DataW H} {spare : List (DataW H)} {d : DataW H} (hd : d = .nil ∧ ls = [] ∨ d = .slice ((List.range ls.length).map D) spare ∧ ∀ i (h : i < ls.length), ChsData ls[i].2.2 (D i)) :
    ls.length ≤ Rows.uptoBulk d ∧ dOf ls ls.length ≤ Rows.uptoBulk d ∧ ∀ c ∈ ls, ∀ p ∈ c.2.2, p.2.1.size ≤ Rows.uptoBulk d := by
  rcases hd with ⟨_, rfl⟩ | ⟨rfl, hD⟩
  · simp [dOf]
  · simp only [Rows.uptoBulk]
    have h1 := bulk_len ((List.range ls.length).map D)
    simp only [List.length_map, List.length_range] at h1
    have key : ∀ n, n ≤ ls.length → dOf ls n ≤ Rows.uptoBulkAll ((List.range n).map D) := fun n => by
      induction n with
      | zero => intro _; simp [dOf]
      | succ n ih =>
        intro hn
        have h2 := ih (by omega)
        have h3 := (chs_bulk (hD n (by omega))).1
        rw [dOf_succ ls n (by omega), List.range_succ, List.map_append, bulk_app]
        simp only [List.map_cons, List.map_nil, Rows.uptoBulkAll]
        omega
    have h2 := key ls.length (Nat.le_refl _)
    refine ⟨by omega, by omega, fun c hc p hp => ?_⟩
    obtain ⟨i, hi, rfl⟩ := List.getElem_of_mem hc
    have h3 := (chs_bulk (hD i hi)).2 p hp
    have h4 := bulk_mem (List.mem_map_of_mem (f := D) (List.mem_range.2 hi))
    omega

set_option maxRecDepth 100000 in
theorem contract (H : Type) (enc : TypeId × Value → H) (W : World) (base : Nat) (args : Array Value) (ds gs : List (DataW H)) (before : List MemPlace)
    (hval : ∀ (j : Nat) t v, Tryz.f5.params[j]? = some t → args[j]? = some v → Value.okWide Tryz.prog W .any base t v)
    (hW : DataW.Whole enc Tryz.prog Tryz.f5.params.toList Rows.txnHeldSpec.vars false W args.toList ds gs before) (hk : Rows.uptoSmall H (ds ++ gs) = true) :
    Calls Tryz.prog 5 args W fun e W' => ∃ v, e = .returned v ∧ Rows.txnHeldSpec.post enc Tryz.prog Tryz.f5 false true false false W args v W' := by
  have hW' := hW
  obtain ⟨p, q, hA0, hV, rfl, hfz, hnd⟩ := hW
  have hA : DataW.TrodAll enc Tryz.prog W 0 (fun _ => true) true Tryz.f5.params.toList args.toList ds p := hA0
  rw [Tryz.params5] at hA hval
  obtain ⟨v0, d0, rfl, rfl, h0⟩ := trodAll_one hA
  obtain ⟨rfl, rfl⟩ := trodVars_none hV
  obtain ⟨ao, len, cap, rfl⟩ := okWide_slice Tryz.underlying70 (hval 0 70 v0 rfl rfl)
  have h0k := h0
  obtain ⟨fuel, hf⟩ := h0
  clear hA0 hval
  simp only [List.append_nil] at hW'
  have hlt : ∀ x ∈ p, x.block < W.heap.size := fun x hx => by simpa using hW'.lt x hx
  obtain ⟨ls, D, spare, rfl, hd, hpa⟩ := open_chss (by simpa [Value.cells] using hf)
  simp only at hd
  have hb : Rows.uptoBulkAll ([d0] ++ ([] : List (DataW H))) ≤ 1048576 := of_decide_eq_true hk
  simp only [Rows.uptoBulkAll, List.append_nil] at hb
  obtain ⟨b1, b2, b3⟩ := chss_bulk hd
  refine (txnHeld_calls ao cap ls W (hpa fun c hc p hp => by have := b3 c hc p hp; omega) (by omega) (by omega)).mono fun e W' ⟨he, hg⟩ => ?_
  subst he
  exact ⟨_, rfl, _, _, _, [], _, [], hW', trodAll_mk1 (shut_bool Tryz.underlying4 _), trodAll_mk1 (Below.trod laidOut (by kernel_rfl) (of_decide_eq_true (by kernel_rfl)) h0k hg hlt), rfl, hg.frame _, fun h => by cases h⟩

set_option maxRecDepth 100000 in
theorem lifted (os : Os) (started : os.Started) (H : Type) (enc : TypeId × Value → H) (F : Stop.Interp) :
    ReturnsInHanded {} Tryz.checked os 5 .any ((Rows.OpenSpec.upto Rows.txnHeldSpec).pre6 enc Tryz.prog Tryz.f5 Rows.txnHeldUptoRow.domain false) (((Rows.OpenSpec.upto Rows.txnHeldSpec).at F).post enc Tryz.prog Tryz.f5 false true false false) := by
  refine returnsInHanded_of_cond (C := Tryz.checked) (s := Rows.OpenSpec.upto Rows.txnHeldSpec) (k := Rows.uptoSmall) rfl own started (by kernel_rfl) Tryz.func5
    (OpenSpec.witness (enc := enc) (C := Tryz.checked) (s := Rows.OpenSpec.upto Rows.txnHeldSpec) (k := Rows.uptoSmall) rfl false ⟨#[], #[.slice none 0 0], []⟩ 8 (by kernel_rfl) (by kernel_rfl) (by kernel_rfl)
      (x := ([.nil], [], [])) (by kernel_rfl) rfl (by kernel_rfl)) ?_
  intro W base args ds gs before hval hW _ hk _
  exact contract H enc W base args ds gs before hval hW hk
end PTHeld

theorem txnHeld_holds : Rows.TxnHeldUptoSaid :=
  OpenClaim.holds_of_cond 5 Tryz.f5 rfl rfl rfl rfl rfl rfl rfl ⟨rfl, rfl, rfl, rfl, rfl⟩ rfl rfl rfl rfl rfl (by kernel_rfl) Tryz.func5 (by kernel_rfl)
    (of_decide_eq_true (by kernel_rfl)) (by unfold Func.isWrapper; first | (rw [if_pos (by decide +kernel)]; kernel_rfl) | (rw [if_neg (by decide +kernel)]; exact ⟨rfl, rfl⟩))
    (fun os started H enc _ F => PTHeld.lifted os started H enc F)

#print axioms txnHeld_holds
end Go.Proofs.YtdmhffbohnfdlaaGreat
