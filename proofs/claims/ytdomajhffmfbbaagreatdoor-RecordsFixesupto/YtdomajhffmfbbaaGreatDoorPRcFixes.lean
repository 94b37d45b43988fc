/- RecordsFixes answers true and leaves its arguments as they were, for every node, service and check, where the library's variables that it reads are as the program's own text lays them (the card ties that). Its condition: the arguments hold together at most 1048576 values and letters. -/
import Derived.Test.YtdomajhffmfbbaaGreatDoorRows
import Derived.Test.YtdomajhffmfbbaaGreatDoorTie
import Derived.Test.YtdomajhffmfbbaaGreatDoorCards
import Derived.Test.YtdomajhffmfbbaaGreatDoorRcLawF
import Derived.Test.YtdomajhffmfbbaaGreatDoorRcArgs
import Derived.Test.YtdomajhffmfbbaaGreatDoorRcLaid
import Derived.Test.YtdomajhffmfbbaaGreatDoorLShaped
namespace Go.Proofs.YtdomajhffmfbbaaGreatDoor
open Go.ChangeShapes Go.WideShapes Go.ChangeAt Go.RowKit
open Go.ChangeMaps (open_string shut_string)
set_option linter.unusedVariables false

namespace PRcFixes
theorem own : ownKnob Tryz.prog.godebug = none := by kernel_rfl
theorem laidOut : laidOutB Tryz.prog = true := by kernel_rfl
abbrev laidL : List (String × DataW Unit) := Rows.recordsFixesUptoRow.laid
theorem reads (os : Os) {H : Type} (enc : TypeId × Value → H) : ∃ places, DataW.whole enc Tryz.prog ((World.laidAll Tryz.prog os laidL).forCall (fun _ _ => 0) ⟨#[], #[.agg #[.string ⟨#[]⟩, .string ⟨#[]⟩, .int .u64 0, .int .u64 0], .agg #[.string ⟨#[]⟩, .string ⟨#[]⟩, .string ⟨#[]⟩, .int .i64 0, .slice none 0 0, .int .u64 0, .int .u64 0], .agg #[.string ⟨#[]⟩, .string ⟨#[]⟩, .string ⟨#[]⟩, .int .i64 0, .string ⟨#[]⟩, .int .u64 0, .int .u64 0]], []⟩).memory Tryz.f3.params.toList Rows.recordsFixesSpec.vars false (#[.agg #[.string ⟨#[]⟩, .string ⟨#[]⟩, .int .u64 0, .int .u64 0], .agg #[.string ⟨#[]⟩, .string ⟨#[]⟩, .string ⟨#[]⟩, .int .i64 0, .slice none 0 0, .int .u64 0, .int .u64 0], .agg #[.string ⟨#[]⟩, .string ⟨#[]⟩, .string ⟨#[]⟩, .int .i64 0, .string ⟨#[]⟩, .int .u64 0, .int .u64 0]] : Array Value).toList 8 = some ([.agg [.lit (.string []), .lit (.string []), .lit (.int .u64 0), .lit (.int .u64 0)], .agg [.lit (.string []), .lit (.string []), .lit (.string []), .lit (.int .i64 0), .nil, .lit (.int .u64 0), .lit (.int .u64 0)], .agg [.lit (.string []), .lit (.string []), .lit (.string []), .lit (.int .i64 0), .lit (.string []), .lit (.int .u64 0), .lit (.int .u64 0)]], [], places) :=
  ⟨[], by kernel_rfl⟩

set_option maxRecDepth 100000 in
theorem lifted (os : Os) (started : os.Started) (H : Type) (enc : TypeId × Value → H) (F : Stop.Interp) :
    ReturnsInHanded {} Tryz.checked os 3 .any ((Rows.OpenSpec.upto Rows.recordsFixesSpec).preRow enc Tryz.prog Tryz.f3 Rows.recordsFixesUptoRow.domain false laidL) (((Rows.OpenSpec.upto Rows.recordsFixesSpec).at F).post enc Tryz.prog Tryz.f3 false true false false) := by
  obtain ⟨places, hx⟩ := reads os enc
  refine returnsInHanded_of_row (C := Tryz.checked) (s := Rows.OpenSpec.upto Rows.recordsFixesSpec) own started (by kernel_rfl) Tryz.func3
    (rowWitness (enc := enc) (C := Tryz.checked) (World.laidAll Tryz.prog os laidL) #[.agg #[.string ⟨#[]⟩, .string ⟨#[]⟩, .int .u64 0, .int .u64 0], .agg #[.string ⟨#[]⟩, .string ⟨#[]⟩, .string ⟨#[]⟩, .int .i64 0, .slice none 0 0, .int .u64 0, .int .u64 0], .agg #[.string ⟨#[]⟩, .string ⟨#[]⟩, .string ⟨#[]⟩, .int .i64 0, .string ⟨#[]⟩, .int .u64 0, .int .u64 0]] (World.laidAll_os _ _ _) (World.shaped_of_ZipB (by kernel_rfl) (by kernel_rfl)) (by kernel_rfl)
      (OpenSpec.preRow_of_cond 8 hx (by kernel_rfl) (fun k hk => by cases hk; kernel_rfl) (by kernel_rfl) (laidMet_laidAll _ (by kernel_rfl) (by kernel_rfl)))) ?_
  intro W base args ds gs before hval0 hW _ hcond _ hL _ _
  have hk : Vs W := vs_of (by kernel_rfl) (.tail _ (.tail _ (.head _))) (.tail _ (.tail _ (.tail _ (.tail _ (.tail _ (.head _)))))) (.tail _ (.tail _ (.tail _ (.tail _ (.head _))))) hL
  have hc : Rows.uptoSmall H (ds ++ gs) = true := hcond _ rfl
  have hW' := hW
  obtain ⟨p, q, hA0, hV, rfl, _, _⟩ := hW
  have hA : DataW.TrodAll enc Tryz.prog W 0 (fun _ => true) true Tryz.f3.params.toList args.toList ds p := hA0
  have hval : ∀ (j : Nat) t v, Tryz.f3.params[j]? = some t → args[j]? = some v → Value.okWide Tryz.prog W .any base t v := hval0
  rw [Tryz.params3] at hA hval
  obtain ⟨v0, v1, v2, d0, d1, d2, p0, p1, p2, rfl, rfl, rfl, h0, h1, h2⟩ := trodAll_three hA
  obtain ⟨rfl, rfl⟩ := trodVars_none hV
  obtain ⟨cs0, rfl, hz0⟩ := okWide_struct Tryz.underlying24 (hval 0 24 v0 rfl rfl)
  obtain ⟨cs1, rfl, hz1⟩ := okWide_struct Tryz.underlying27 (hval 1 27 v1 rfl rfl)
  obtain ⟨cs2, rfl, hz2⟩ := okWide_struct Tryz.underlying29 (hval 2 29 v2 rfl rfl)
  rw [cells_node] at hz0
  rw [cells_svc] at hz1
  rw [cells_chk] at hz2
  have k0 := h0
  have k1 := h1
  have k2 := h2
  obtain ⟨fu0, e0⟩ := h0
  obtain ⟨fu1, e1⟩ := h1
  obtain ⟨fu2, e2⟩ := h2
  obtain ⟨n, rfl, hd0⟩ := open_node hz0 (by simpa [Value.cells] using e0)
  obtain ⟨s, ta, tc, dt, rfl, hdt, hct, hd1⟩ := open_svc hz1 (by simpa [Value.cells] using e1)
  obtain ⟨c, rfl, hd2⟩ := open_chk hz2 (by simpa [Value.cells] using e2)
  dsimp only at hd0 hd1 hd2
  have hb : Rows.uptoBulkAll ([d0, d1, d2] ++ ([] : List (DataW H))) ≤ 1048576 := of_decide_eq_true hc
  rw [hd0, hd1, hd2] at hb
  simp only [Rows.uptoBulkAll, Rows.uptoBulk, List.append_nil, tx_bulk] at hb
  obtain ⟨ht1, ht2⟩ := texts_bulk hdt
  clear hA0 hval hval0 hL hc hcond
  simp only [List.append_nil] at hW'
  have hlt : ∀ x, x ∈ p0 ∨ x ∈ p1 ∨ x ∈ p2 → x.block < W.heap.size := fun x hx => by
    refine hW'.lt x ?_
    simp only [List.mem_append]
    rcases hx with h | h | h <;> simp [h]
  refine (recordsFixes_calls n s c ta tc W hk (by omega) (by omega) ⟨by omega, by omega, by omega, by omega, fun x hx => by have := ht2 x hx; omega⟩ (by omega) ⟨by omega, by omega, by omega, by omega⟩ hct).mono fun e W' ⟨he, hg⟩ => ?_
  subst he
  exact ⟨_, rfl, _, _, _, [], _, [], hW', trodAll_mk1 (shut_bool Tryz.underlying4 _), trodAll_mk3 (Below.trod laidOut (by kernel_rfl) (of_decide_eq_true (by kernel_rfl)) k0 hg fun x hx => hlt x (.inl hx)) (Below.trod laidOut (by kernel_rfl) (of_decide_eq_true (by kernel_rfl)) k1 hg fun x hx => hlt x (.inr (.inl hx))) (Below.trod laidOut (by kernel_rfl) (of_decide_eq_true (by kernel_rfl)) k2 hg fun x hx => hlt x (.inr (.inr hx))), rfl, hg.frame _, fun h => by cases h⟩
end PRcFixes

theorem recordsFixes_said : Rows.RecordsFixesUptoSaid :=
  OpenClaim.holds_of_cond 3 Tryz.f3 rfl rfl rfl rfl rfl rfl rfl ⟨rfl, rfl, rfl, rfl, rfl⟩ rfl rfl rfl rfl rfl (by kernel_rfl) Tryz.func3 (by kernel_rfl)
    (of_decide_eq_true (by kernel_rfl)) (by unfold Func.isWrapper; first | (rw [if_pos (by decide +kernel)]; kernel_rfl) | (rw [if_neg (by decide +kernel)]; exact ⟨rfl, rfl⟩))
    (fun os started H enc _ F => by rw [OpenClaim.pre_eq_preRow]; exact PRcFixes.lifted os started H enc F)

theorem recordsFixes_holds : Rows.RecordsFixesUptoCardSaid :=
  Claim7.holds_tied_plain_at .later [] _ _ _ _ recordsFixes_said (fun _ h => by cases h) (by kernel_rfl) (fun _ h => by cases h) recordsFixesUpto_row_tie rfl ⟨rfl, rfl⟩ (by kernel_rfl) rfl
    (fun f fn hf hfn => by
      obtain rfl : f = 3 := Option.some.inj (Eq.trans hf.symm (by kernel_rfl))
      obtain rfl : fn = Tryz.f3 := (Option.some.inj (Tryz.func3.symm.trans hfn)).symm
      exact ⟨by kernel_rfl, fun j t ht => by
        rw [Tryz.params3] at ht
        have hm := Array.mem_of_getElem? ht
        simp at hm
        rcases hm with rfl | rfl | rfl
        · exact (show Tryz.prog.wantsStandIn 24 = false by kernel_rfl)
        · exact (show Tryz.prog.wantsStandIn 27 = false by kernel_rfl)
        · exact (show Tryz.prog.wantsStandIn 29 = false by kernel_rfl)⟩)
    (by kernel_rfl)
#print axioms recordsFixes_holds
end Go.Proofs.YtdomajhffmfbbaaGreatDoor
