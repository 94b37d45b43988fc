/- RecordsSchema answers true, whatever the memory it is called in, where the table of kinds reads as the program's own text lays it (the card ties that): the tables' text is the document's, layer 6 reads it, and prints it again. -/
import Derived.Test.YtdomajhffmfbbaaDoorRows
import Derived.Test.YtdomajhffmfbbaaDoorTie
import Derived.Test.YtdomajhffmfbbaaDoorCards
import Derived.Test.YtdomajhffmfbbaaDoorRcSchema
import Derived.Test.YtdomajhffmfbbaaDoorLShaped
namespace Go.Proofs.YtdomajhffmfbbaaDoor
open Go.ChangeShapes Go.WideShapes Go.ChangeAt Go.RowKit
set_option linter.unusedVariables false

namespace PRcSchema
theorem own : ownKnob Tryd.prog.godebug = none := by kernel_rfl
abbrev laidL : List (String × DataW Unit) := Rows.recordsSchemaRow.laid

theorem maxLen_of {W : World} (h : W.ShapedOpen Tryd.prog) : ∃ m, W.cell? ⟨1, 0, none⟩ = some (.int .i64 m) :=
  Go.Proofs.cell_of_shapedOpen_int (t := 3) (zero := #[.int .i64 0]) h (of_decide_eq_true (by kernel_rfl)) (by kernel_rfl) rfl (by kernel_rfl) (by kernel_rfl) Tryd.underlying3

theorem kw_elem {W : World} {m : Nat} {cs : List Value} {x : DataW Unit × List MemPlace} {k : Int} {l : List UInt8} (h : DataW.trod (fun _ => ()) Tryd.prog W 0 (fun _ => true) false m 127 cs = some x) (hx : x.1 = .agg [.lit (.int .i64 k), .lit (.string l)]) :
    cs[0]? = some (.int .i64 k) ∧ cs[1]? = some (.string ⟨l.toArray⟩) := by
  obtain ⟨ys, n, _, ey, hlen, hn, hf⟩ := DataW.trod_struct Tryd.underlying127 h
  have c3 : Tryd.prog.cellsOf 3 = 1 := by kernel_rfl
  have c9 : Tryd.prog.cellsOf 9 = 1 := by kernel_rfl
  match ys, hn with
  | [y0, y1], _ =>
    have e := (Prod.mk.inj (show (x.1, x.2) = _ from ey)).1.symm.trans hx
    simp only [List.map_cons, List.map_nil, DataW.agg.injEq, List.cons.injEq, and_true] at e
    have h0 : DataW.trod (fun _ => ()) Tryd.prog W 0 (fun _ => true) false n 3 ((cs.drop 0).take (Tryd.prog.cellsOf 3)) = some y0 := hf 0 _ rfl
    have h1 : DataW.trod (fun _ => ()) Tryd.prog W 0 (fun _ => true) false n 9 ((cs.drop 1).take (Tryd.prog.cellsOf 9)) = some y1 := hf 1 _ rfl
    obtain ⟨z, e1, e2, _⟩ := DataW.trod_int Tryd.underlying3 h0
    obtain ⟨s, e4, e5, _⟩ := DataW.trod_string Tryd.underlying9 h1
    rw [e2, e5] at e
    simp only [DataW.lit.injEq, Lit.int.injEq, Lit.string.injEq, true_and] at e
    obtain ⟨rfl, hs⟩ := e
    have hs' : s = ⟨l.toArray⟩ := Go.WideShapes.bytes_inj (by rw [hs])
    rw [c3] at e1
    rw [c9] at e4
    have g0 : (List.take 1 (List.drop 0 cs))[0]? = some (.int .i64 z) := by rw [e1]; rfl
    have g1 : (List.take 1 (List.drop 1 cs))[0]? = some (.string s) := by rw [e4]; rfl
    refine ⟨by simpa using g0, ?_⟩
    rw [← hs']
    simpa using g1

set_option maxRecDepth 100000 in
theorem kinds_of {W : World} (h : laidMetH Tryd.prog laidL W) : KindsAt W := by
  rw [MakeChecks.laidMetH_plain _ _ _ (by kernel_rfl)] at h
  obtain ⟨ps, ⟨g0, t0, cs0, f0, p0, q0, hg0, ht0, hv0, hd0, ⟨g1, t1, cs1, f1, p1, q1, hg1, ht1, hv1, hd1, _, _⟩, _⟩, _, _⟩ := h
  obtain rfl : g1 = 0 := Option.some.inj (Eq.trans hg1.symm (by kernel_rfl))
  obtain rfl : t1 = 128 := Option.some.inj (Eq.trans ht1.symm (by kernel_rfl))
  obtain ⟨xs, m, _, ex, _, hl, hel⟩ := DataW.trod_array Tryd.underlying128 hd1
  have c69 : Tryd.prog.cellsOf 127 = 2 := by kernel_rfl
  match xs, hl with
  | [x0, x1, x2], _ =>
    have e3 : ([x0, x1, x2].map (·.1)) = [.agg [.lit (.int .i64 1), .lit (.string [116, 101, 120, 116])], .agg [.lit (.int .i64 2), .lit (.string [110, 117, 109])], .agg [.lit (.int .i64 3), .lit (.string [108, 105, 115, 116])]] := (DataW.agg.inj (Prod.mk.inj ex).1).symm
    simp only [List.map_cons, List.map_nil, List.cons.injEq, and_true] at e3
    have h0 := hel 0 (by decide)
    have h1 := hel 1 (by decide)
    have h2 := hel 2 (by decide)
    rw [c69] at h0 h1 h2
    obtain ⟨a0, a1⟩ := kw_elem h0 e3.1
    obtain ⟨b0, b1⟩ := kw_elem h1 e3.2.1
    obtain ⟨d0, d1⟩ := kw_elem h2 e3.2.2
    have cell : ∀ (i : Nat) (v : Value), cs1.toList[i]? = some v → W.cell? ⟨0, i, none⟩ = some v := fun i v hi => by
      rw [World.var?_cell hg1 hv1 i]
      simpa using hi
    refine ⟨cell 0 _ ?_, cell 1 _ ?_, cell 2 _ ?_, cell 3 _ ?_, cell 4 _ ?_, cell 5 _ ?_⟩
    · simpa using a0
    · simpa [textW] using a1
    · simpa using b0
    · simpa [numW] using b1
    · simpa using d0
    · simpa [listW] using d1

set_option maxRecDepth 100000 in
theorem lifted (os : Os) (started : os.Started) (H : Type) (enc : TypeId × Value → H) :
    ReturnsInHanded {} Tryd.checked os 6 .any (fun w args => (Rows.recordsSchemaSpec.pre enc Tryd.prog Tryd.f6 Rows.recordsSchemaRow.domain false w args ∧ laidMetH Tryd.prog laidL w) ∧ sizedMet enc Tryd.prog Tryd.f6 (OpenSpec.ofChange Rows.recordsSchemaSpec) false w args)
      (Rows.recordsSchemaSpec.post enc Tryd.prog Tryd.f6 false true false false) := by
  refine returnsLaidShaped (C := Tryd.checked) (X := fun w _ => laidMetH Tryd.prog laidL w) (fun _ _ _ hh h => h.of_heap hh) own started (by kernel_rfl) Tryd.func6
    (ChangeSpec.witness_shaped (enc := enc) (C := Tryd.checked) (os := os) (X := fun w _ => laidMetH Tryd.prog laidL w) false (World.laidAll Tryd.prog os laidL) #[] 8 (World.laidAll_os _ _ _)
      (World.shaped_of_ZipB (by kernel_rfl) (by kernel_rfl)) (by kernel_rfl) (by kernel_rfl) (by kernel_rfl)
      (by rw [MakeChecks.laidMetH_plain _ _ _ (by kernel_rfl)]; exact laidMet_laidAll _ (by kernel_rfl) (by kernel_rfl))) ?_
  intro W base args ds gs before hval0 hW hc _ hL hsh
  have hW' := hW
  obtain ⟨p, q, hA0, hV, rfl, _, _⟩ := hW
  have hA : DataW.TrodAll enc Tryd.prog W 0 (fun _ => true) true Tryd.f6.params.toList args.toList ds p := hA0
  rw [Tryd.params6] at hA
  obtain ⟨rfl, rfl, rfl⟩ := trodAll_none hA
  obtain ⟨rfl, rfl⟩ := trodVars_none hV
  obtain ⟨mx, hmx⟩ := maxLen_of hsh
  have hk := kinds_of hL
  clear hA0 hval0
  simp only [List.append_nil] at hW'
  refine (recordsSchema_calls W mx hmx hk).mono fun e W' ⟨he, hg⟩ => ?_
  subst he
  exact ⟨_, rfl, _, _, _, [], [], [], hW', trodAll_cons_mk (shut_bool Tryd.underlying4 _) trodAll_mk0, trodAll_mk0, rfl, hg.frame _, fun h => by cases h⟩
end PRcSchema

theorem recordsSchema_said : Rows.RecordsSchemaSaid :=
  OpenClaim.holds_of_wide 6 Tryd.f6 rfl rfl rfl rfl rfl rfl rfl ⟨rfl, rfl, rfl, rfl, rfl⟩ rfl rfl rfl rfl rfl (by kernel_rfl) Tryd.func6 (by kernel_rfl)
    (of_decide_eq_true (by kernel_rfl)) (by unfold Func.isWrapper; first | (rw [if_pos (by decide +kernel)]; kernel_rfl) | (rw [if_neg (by decide +kernel)]; exact ⟨rfl, rfl⟩))
    (fun os started H enc _ => PRcSchema.lifted os started H enc)

theorem recordsSchema_holds : Rows.RecordsSchemaCardSaid :=
  Claim7.holds_tied_plain_at .later [] [.data, .data, .pinned] true Rows.recordsSchemaCard.stood.harness true recordsSchema_said (fun _ h => by cases h) (by kernel_rfl) (fun _ h => by cases h) recordsSchema_row_tie rfl ⟨rfl, rfl⟩ (by kernel_rfl) rfl
    (fun f fn hf hfn => by
      obtain rfl : f = 6 := Option.some.inj (Eq.trans hf.symm (by kernel_rfl))
      obtain rfl : fn = Tryd.f6 := (Option.some.inj (Tryd.func6.symm.trans hfn)).symm
      exact ⟨by kernel_rfl, fun j t ht => by
        rw [Tryd.params6] at ht
        simp at ht⟩)
    (by kernel_rfl)
#print axioms recordsSchema_holds
end Go.Proofs.YtdomajhffmfbbaaDoor
