import Derived.Test.YtjbnbpclelbohaaRwRefKs
import Derived.Test.YtjbnbpclelbohaaRwCopy
import Derived.Test.YtjbnbpclelbohaaRwTable
import Derived.Test.YtjbnbpclelbohaaRwFixedL
import Derived.Test.YtjbnbpclelbohaaRwOne
import Derived.OpenShut
import Derived.JoinedCond
/- Layer 7 (rows): RowsFits, the walk. -/
namespace Go.Proofs.Ytjbnbpclelbohaa
open Go.RowKit
set_option linter.unusedVariables false
attribute [local go_sem] Oper.semAt_some

set_option maxRecDepth 100000 in
set_option maxHeartbeats 8000000 in
theorem rowsFits_calls (text : ByteArray) (at' : Int) (ca : Option Addr) (cc : Nat) (cs : List CV) (w : World) (hs : text.size ≤ 140737488351232) (ha : -9223372036854775808 ≤ at' ∧ at' ≤ 9223372036854775807)
    (hcm : cs.length * 48 ≤ 140737488351232) (hr : RowAt w ca cs) (hsm : SmallC cs) :
    Calls Try.prog 3 #[.string text, .int .i64 at', .agg #[.slice ca cs.length cc]] w fun e w' => e = .returned (.bool true) ∧ Below w.heap.size w w' := by
  have HRA : Hid (RowAt w ca cs) := hr
  have HSM : Hid (SmallC cs) := hsm
  clear hr hsm
  obtain ⟨w1, hw1⟩ : ∃ w1, w1 = w.alloc (.cells #[.slice ca cs.length cc] 24) := ⟨_, rfl⟩
  have HB1 : Hid (Below w.heap.size w w1) := by rw [hw1]; exact (Below.refl _ _).alloc (Nat.le_refl _) _
  have HQ1 : Hid (w1.heap[w.heap.size]? = some (.cells #[.slice ca cs.length cc] 24)) := by rw [Hid, hw1]; exact new_blk _ _
  go_enter Try.func3, Try.ntmps3
  go_wp2_with fail
  rw [← hw1]
  clear hw1
  refine (rowsFixed_calls w1).mono ?_
  rintro e w2 ⟨rfl, hb2⟩
  have HB2 : Hid (Below w.heap.size w w2) := HB1.out.trans (hb2.mono HB1.out.size)
  have HQ2 : Hid (w2.heap[w.heap.size]? = some (.cells #[.slice ca cs.length cc] 24)) := (hb2.block _ (lt_blk HQ1.out)).trans HQ1.out
  clear hb2 HB1 HQ1
  go_wp2_with fail
  refine (table_calls text at' w2 hs ha).mono ?_
  rintro e w3 ⟨hb3, hor⟩
  have HB3 : Hid (Below w.heap.size w w3) := HB2.out.trans (hb3.mono HB2.out.size)
  have HQ3 : Hid (w3.heap[w.heap.size]? = some (.cells #[.slice ca cs.length cc] 24)) := (hb3.block _ (lt_blk HQ2.out)).trans HQ2.out
  clear hb3 HB2 HQ2
  rcases hor with ⟨t, ht, hro, rfl⟩ | rfl
  · have HTR : Hid (TRd w3 t) := ht
    have HRO : Hid (ROk t.tb) := hro
    clear ht hro
    go_upto_region 4 with fail
    obtain ⟨w4, hw4⟩ : ∃ w4, w4 = w3.alloc (.cells #[.string t.n, .slice t.fa t.fs.length t.fc, .slice t.xa t.xs.length t.xc] 29) := ⟨_, rfl⟩
    rw [← hw4]
    have hb4 : Below w3.heap.size w3 w4 := by rw [hw4]; exact (Below.refl _ _).alloc (Nat.le_refl _) _
    have HT4 : Hid (w4.heap[w3.heap.size]? = some (.cells #[.string t.n, .slice t.fa t.fs.length t.fc, .slice t.xa t.xs.length t.xc] 29)) := by rw [Hid, hw4]; exact new_blk _ _
    have HQ4 : Hid (w4.heap[w.heap.size]? = some (.cells #[.slice ca cs.length cc] 24)) := (hb4.block _ (lt_blk HQ3.out)).trans HQ3.out
    have HB4 : Hid (Below w.heap.size w w4) := HB3.out.trans (hb4.mono HB3.out.size)
    have HTR4 : Hid (TRd w4 t) := HTR.out.below hb4
    have HRA4 : Hid (RowAt w4 ca cs) := HRA.out.below HB4.out
    clear hw4 hb4 HB3 HQ3 HTR HRA
    have HCP : Hid (∀ W, Below w4.heap.size w4 W → Calls Try.prog 10 #[.agg #[.slice ca cs.length cc]] W fun e w' => (∃ a c ds, e = .returned (.agg #[.slice a ds.length c]) ∧ Alike ds cs ∧ OwnR w' W.heap.size (.slice a ds.length c) ds) ∧ Below W.heap.size W w') := fun W hW => refCopy_calls ca cc cs W hcm (HRA4.out.below hW)
    have HRF : Hid (∀ W, Below w4.heap.size w4 W → Calls Try.prog 11 #[.agg #[.string t.n, .slice t.fa t.fs.length t.fc, .slice t.xa t.xs.length t.xc], .agg #[.slice ca cs.length cc]] W fun e w' => e = .returned (.int .i64 (fitP t.tb cs)) ∧ Below W.heap.size W w') := fun W hW => refFit_calls t ca cc cs W (by omega) (HTR4.out.below hW) (HRA4.out.below hW) HRO.out HSM.out
    have HFT : Hid (∀ W a c ds, Below w4.heap.size w4 W → Alike ds cs → RowAt W a ds → Calls Try.prog 9 #[.agg #[.string t.n, .slice t.fa t.fs.length t.fc, .slice t.xa t.xs.length t.xc], .agg #[.slice a ds.length c]] W fun e w' => e = .returned (.int .i64 (fitP t.tb cs)) ∧ Below W.heap.size W w') := fun W a c ds hW hal hrd => by
      have := fit_calls t a c ds W (by rw [hal.len]; omega) (HTR4.out.below hW) hrd
      rw [hal.fit] at this
      exact this
    have HWF : Hid (∀ c ∈ cs, c.wf) := HRA4.out.wf
    have e0 : w4.cell? ⟨w3.heap.size, 0, none⟩ = some (.string t.n) := by rw [cell_blk HT4.out]; rfl
    have e1 : w4.cell? ⟨w3.heap.size, 1, none⟩ = some (.slice t.fa t.fs.length t.fc) := by rw [cell_blk HT4.out]; rfl
    have e2 : w4.cell? ⟨w3.heap.size, 2, none⟩ = some (.slice t.xa t.xs.length t.xc) := by rw [cell_blk HT4.out]; rfl
    have r0 : w4.cell? ⟨w.heap.size, 0, none⟩ = some (.slice ca cs.length cc) := by rw [cell_blk HQ4.out]; rfl
    have hl3 : w3.heap.size < w4.heap.size := lt_blk HT4.out
    have hl0 : w.heap.size < w4.heap.size := lt_blk HQ4.out
    have HSK : Hid (∀ W, Below w4.heap.size w4 W → W.cell? ⟨w3.heap.size, 0, none⟩ = some (.string t.n) ∧ W.cell? ⟨w3.heap.size, 1, none⟩ = some (.slice t.fa t.fs.length t.fc) ∧ W.cell? ⟨w3.heap.size, 2, none⟩ = some (.slice t.xa t.xs.length t.xc) ∧ W.cell? ⟨w.heap.size, 0, none⟩ = some (.slice ca cs.length cc) ∧ Below w4.heap.size w4 W) := fun W hW =>
      ⟨by rw [hW.cell (by exact hl3)]; exact e0, by rw [hW.cell (by exact hl3)]; exact e1, by rw [hW.cell (by exact hl3)]; exact e2, by rw [hW.cell (by exact hl0)]; exact r0, hW⟩
    generalize fitP t.tb cs = F at *
    have qF : (F == F) = true := beq_self_eq_true _
    have q0 := HSK.out w4.drew ⟨rfl, rfl, rfl, Nat.le_refl _, fun _ _ => rfl⟩
    clear e0 e1 e2 r0
    go_region_held3 (fun W => W.cell? ⟨w3.heap.size, 0, none⟩ = some (.string t.n) ∧ W.cell? ⟨w3.heap.size, 1, none⟩ = some (.slice t.fa t.fs.length t.fc) ∧ W.cell? ⟨w3.heap.size, 2, none⟩ = some (.slice t.xa t.xs.length t.xc) ∧ W.cell? ⟨w.heap.size, 0, none⟩ = some (.slice ca cs.length cc) ∧ Below w4.heap.size w4 W) (first | (exact q7) | (exact q6) | (exact q5) | (exact q0) | go_keep)
      (first
        | (go_at_call 10
           refine (HCP.out _ (by first | exact q7.2.2.2.2 | exact q6.2.2.2.2 | exact q5.2.2.2.2 | exact q0.2.2.2.2)).mono ?_
           rintro e w5 ⟨⟨a5, c5, ds, rfl, hal, hor5⟩, hb5⟩
           have HAL : Hid (Alike ds cs) := hal
           have HR5 : Hid (RowAt w5 a5 ds) := hor5.rowAt (hal.wf HWF.out)
           have q5 := HSK.out w5 (Below.trans (by first | exact q7.2.2.2.2 | exact q6.2.2.2.2 | exact q5.2.2.2.2 | exact q0.2.2.2.2) (hb5.mono (by first | exact q7.2.2.2.2.size | exact q6.2.2.2.2.size | exact q5.2.2.2.2.size | exact q0.2.2.2.2.size)))
           clear hal hor5 hb5)
        | (go_at_call 9
           refine (HFT.out _ a5 c5 ds (by first | exact q7.2.2.2.2 | exact q6.2.2.2.2 | exact q5.2.2.2.2) HAL.out (by first | exact HR7.out | exact HR5.out)).mono ?_
           rintro e w6 ⟨rfl, hb6⟩
           have q6 := HSK.out w6 (Below.trans (by first | exact q7.2.2.2.2 | exact q5.2.2.2.2) (hb6.mono (by first | exact q7.2.2.2.2.size | exact q5.2.2.2.2.size)))
           clear hb6)
        | (go_at_call 11
           refine (HRF.out _ (by first | exact q6.2.2.2.2 | exact q5.2.2.2.2 | exact q0.2.2.2.2)).mono ?_
           rintro e w7 ⟨rfl, hb7⟩
           have q7 := HSK.out w7 (Below.trans (by first | exact q6.2.2.2.2 | exact q5.2.2.2.2 | exact q0.2.2.2.2) (hb7.mono (by first | exact q6.2.2.2.2.size | exact q5.2.2.2.2.size | exact q0.2.2.2.2.size)))
           first | (have HR7 : Hid (RowAt w7 a5 ds) := HR5.out.below hb7; clear hb7) | clear hb7))
    all_goals
      go_wp2
      go_ret
      exact ⟨rfl, HB4.out.trans ((by first | exact q7.2.2.2.2 | exact q6.2.2.2.2 : Below w4.heap.size w4 _).mono HB4.out.size)⟩
  · go_wp2
    go_quiet (fail)
    go_wp2
    go_ret
    exact ⟨rfl, by first | exact HB3.out.alloc HB3.out.size _ | exact below_drewN (HB3.out.alloc HB3.out.size _) _⟩
end Go.Proofs.Ytjbnbpclelbohaa

/- RowsFits answers true and leaves its arguments as they were, for every text, place and row. Its condition: the arguments hold together at most 1048576 values and letters. -/
namespace Go.Proofs.Ytjbnbpclelbohaa
open Go.ChangeShapes Go.WideShapes Go.ChangeAt Go.RowKit
open Go.ChangeMaps (open_string shut_string)
set_option linter.unusedVariables false

namespace PRwFits
theorem own : ownKnob Try.prog.godebug = none := by kernel_rfl
theorem laidOut : laidOutB Try.prog = true := by kernel_rfl

set_option maxRecDepth 100000 in
theorem contract (H : Type) (enc : TypeId × Value → H) (W : World) (base : Nat) (args : Array Value) (ds gs : List (DataW H)) (before : List MemPlace)
    (hval : ∀ (j : Nat) t v, Try.f3.params[j]? = some t → args[j]? = some v → Value.okWide Try.prog W .any base t v)
    (hW : DataW.Whole enc Try.prog Try.f3.params.toList Rows.rowsFitsSpec.vars false W args.toList ds gs before) (hk : Rows.uptoSmall H (ds ++ gs) = true) :
    Calls Try.prog 3 args W fun e W' => ∃ v, e = .returned v ∧ Rows.rowsFitsSpec.post enc Try.prog Try.f3 false true false false W args v W' := by
  have hW' := hW
  obtain ⟨p, q, hA0, hV, rfl, hfz, hnd⟩ := hW
  have hA : DataW.TrodAll enc Try.prog W 0 (fun _ => true) true Try.f3.params.toList args.toList ds p := hA0
  rw [Try.params3] at hA hval
  obtain ⟨v0, v1, v2, d0, d1, d2, p0, p1, p2, rfl, rfl, rfl, h0, h1, h2⟩ := trodAll_three hA
  obtain ⟨rfl, rfl⟩ := trodVars_none hV
  obtain ⟨text, rfl, rfl, rfl, hks⟩ := open_string Try.underlying9 (hval 0 9 v0 rfl rfl) h0
  obtain ⟨at', rfl, rfl, rfl, hat⟩ := open_int Try.underlying3 (hval 1 3 v1 rfl rfl) h1
  obtain ⟨cs, rfl, hcs⟩ := okWide_struct Try.underlying24 (hval 2 24 v2 rfl rfl)
  rw [cells_row] at hcs
  obtain ⟨c0, rfl⟩ : ∃ c0, cs = #[c0] := by
    match cs, hcs with
    | ⟨[c0]⟩, _ => exact ⟨c0, rfl⟩
  have h2k := h2
  obtain ⟨fuel, hf⟩ := h2
  clear hA0 hval
  simp only [List.append_nil, List.nil_append] at hW'
  have hlt : ∀ x ∈ p2, x.block < W.heap.size := fun x hx => by simpa using hW'.lt x (by simpa using hx)
  obtain ⟨ao, len, cap, y, fk, rfl, hd, hy⟩ := open_row (by simpa [Value.cells] using hf)
  obtain ⟨cs, D, spare, rfl, hdp, hpa⟩ := open_cells hy
  simp only at hd
  have hb : Rows.uptoBulkAll ([_, _, d2] ++ ([] : List (DataW H))) ≤ 1048576 := of_decide_eq_true hk
  rw [hd] at hb
  simp only [Rows.uptoBulkAll, Rows.uptoBulk, List.append_nil] at hb
  have htz : text.data.toList.length = text.size := by rw [Array.length_toList]; rfl
  obtain ⟨hn, hsz, hsm⟩ := small_bulk hdp (by omega)
  refine (rowsFits_calls text at' ao cap cs W (by omega) (int_bounds hat) (by omega) (hpa hsz) hsm).mono fun e W' ⟨he, hg⟩ => ?_
  subst he
  exact ⟨_, rfl, _, _, _, [], _, [], hW', trodAll_mk1 (shut_bool Try.underlying4 _), trodAll_mk3 (shut_string Try.underlying9 hks) (shut_int Try.underlying3 hat) (Below.trod laidOut (by kernel_rfl) (of_decide_eq_true (by kernel_rfl)) h2k hg hlt), rfl, hg.frame _, fun h => by cases h⟩

set_option maxRecDepth 100000 in
theorem lifted (os : Os) (started : os.Started) (H : Type) (enc : TypeId × Value → H) (F : Stop.Interp) :
    ReturnsInHanded {} Try.checked os 3 .any ((Rows.OpenSpec.upto Rows.rowsFitsSpec).pre6 enc Try.prog Try.f3 Rows.rowsFitsUptoRow.domain false) (((Rows.OpenSpec.upto Rows.rowsFitsSpec).at F).post enc Try.prog Try.f3 false true false false) := by
  refine returnsInHanded_of_cond (C := Try.checked) (s := Rows.OpenSpec.upto Rows.rowsFitsSpec) (k := Rows.uptoSmall) rfl own started (by kernel_rfl) Try.func3
    (OpenSpec.witness (enc := enc) (C := Try.checked) (s := Rows.OpenSpec.upto Rows.rowsFitsSpec) (k := Rows.uptoSmall) rfl false ⟨#[], #[.string ⟨#[]⟩, .int .i64 0, .agg #[.slice none 0 0]], []⟩ 8 (by kernel_rfl) (by kernel_rfl) (by kernel_rfl)
      (x := ([.lit (.string []), .lit (.int .i64 0), .agg [.nil]], [], [])) (by kernel_rfl) rfl (by kernel_rfl)) ?_
  intro W base args ds gs before hval hW _ hk _
  exact contract H enc W base args ds gs before hval hW hk
end PRwFits

theorem rowsFits_holds : Rows.RowsFitsUptoSaid :=
  OpenClaim.holds_of_cond 3 Try.f3 rfl rfl rfl rfl rfl rfl rfl ⟨rfl, rfl, rfl, rfl, rfl⟩ rfl rfl rfl rfl rfl (by kernel_rfl) Try.func3 (by kernel_rfl)
    (of_decide_eq_true (by kernel_rfl)) (by unfold Func.isWrapper; first | (rw [if_pos (by decide +kernel)]; kernel_rfl) | (rw [if_neg (by decide +kernel)]; exact ⟨rfl, rfl⟩))
    (fun os started H enc _ F => PRwFits.lifted os started H enc F)

#print axioms rowsFits_holds
end Go.Proofs.Ytjbnbpclelbohaa
