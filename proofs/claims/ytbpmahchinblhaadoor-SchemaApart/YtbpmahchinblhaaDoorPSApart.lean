/- SchemaApart answers true for every text, whatever the memory it is called in, where the table of kinds reads as the program's own text lays it (the card ties that): a parsed schema is written over and grown, and no other answer changes. -/
import Derived.Test.YtbpmahchinblhaaDoorRows
import Derived.Test.YtbpmahchinblhaaDoorTie
import Derived.Test.YtbpmahchinblhaaDoorCards
import Derived.Test.YtbpmahchinblhaaDoorSApL
import Derived.ProofKit
import Derived.SizedLaws
import Derived.OpenShut
import Derived.LaidMore
import Derived.Lay
import Derived.SevenTiedAt
import Derived.Stop.Joined
import Derived.HandedShaped
import Derived.Shelf.Vars
namespace Go.Proofs.YtbpmahchinblhaaDoor
open Go.ChangeShapes Go.WideShapes Go.ChangeAt Go.RowKit
open Go.ChangeMaps (open_string shut_string)
set_option linter.unusedVariables false

/-- The listed variables' condition and the memory's shape, both handed to the walk. -/
theorem returnsLaidShaped {H : Type} {enc : TypeId × Value → H} {a : Assume} {C : Checked} {os : Os} {f : FuncId} {fn : Func} {s : ChangeSpec} {conds : List PathCond} {apart fresh handsOn again : Bool} {X : World → Array Value → Prop}
    (hX : ∀ (w w' : World) (args : Array Value), w.heap = w'.heap → X w args → X w' args)
    (own : ownKnob C.prog.godebug = none) (started : os.Started) (noInit : C.prog.inits.idxOf? f = none) (hfn : C.prog.funcs[f]? = some fn)
    (witness : ∃ (w : World) (tape : Tape) (i : Input), w.os = os ∧ (w.forCall tape i).Shaped C.prog ∧ i.vars = [] ∧ Input.okWide C.prog (w.forCall tape i) .any w.heap.size f i ∧
      ((s.pre enc C.prog fn conds apart (w.forCall tape i).memory i.args ∧ X (w.forCall tape i).memory i.args) ∧ sizedMet enc C.prog fn (OpenSpec.ofChange s) apart (w.forCall tape i).memory i.args) ∧ a.holds C.prog (lone (Frame.enter C.prog f i.args .normal) [] (w.forCall tape i)))
    (contract : ∀ (W : World) (base : Nat) (args : Array Value) (ds gs : List (DataW H)) (before : List MemPlace),
      (∀ (j : Nat) t v, fn.params[j]? = some t → args[j]? = some v → Value.okWide C.prog W .any base t v) →
      DataW.Whole enc C.prog fn.params.toList s.vars apart W args.toList ds gs before →
      conds.all (PathCond.test C.prog ⟨fn.params.toList, ds, s.plain.varTypes C.prog, gs⟩) = true →
      (DataW.weightsEach C.prog (fn.params.toList ++ s.plain.varTypes C.prog) (ds ++ gs)).all (· ≤ reachBytes) = true → X W args → W.ShapedOpen C.prog →
      Calls C.prog f args W fun e W' => ∃ v, e = .returned v ∧ s.post enc C.prog fn apart fresh handsOn again W args v W') :
    ReturnsInHanded a C os f .any (fun w args => (s.pre enc C.prog fn conds apart w args ∧ X w args) ∧ sizedMet enc C.prog fn (OpenSpec.ofChange s) apart w args) (s.post enc C.prog fn apart fresh handsOn again) := by
  refine returnsInHanded_of_calls own started noInit witness ?_
  intro w tape i _ hsh _ hok hpre _
  obtain ⟨_, _, _, fn', hfn', _, _, _, _, hval⟩ := hok
  obtain rfl : fn' = fn := Option.some.inj (hfn'.symm.trans hfn)
  obtain ⟨⟨⟨ds, gs, before, hw, hc⟩, hx⟩, hz⟩ := hpre
  refine (contract (w.forCall tape i) w.heap.size i.args ds gs before hval (DataW.Whole.of_heap (w' := w.forCall tape i) (by rfl) hw) hc (hz.weights hw) (hX _ _ _ (by rfl) hx) hsh).mono fun e W' ⟨v, he, hp⟩ => ?_
  subst he
  exact ChangeSpec.post_blind hp

namespace PSApart
theorem own : ownKnob Tryd.prog.godebug = none := by kernel_rfl
abbrev laidL : List (String × DataW Unit) := Rows.schemaApartRow.laid

theorem maxLen_of {W : World} (h : W.ShapedOpen Tryd.prog) : ∃ m, W.cell? ⟨1, 0, none⟩ = some (.int .i64 m) :=
  Go.Proofs.cell_of_shapedOpen_int (t := 3) (zero := #[.int .i64 0]) h (of_decide_eq_true (by kernel_rfl)) (by kernel_rfl) rfl (by kernel_rfl) (by kernel_rfl) Tryd.underlying3

theorem kw_elem {W : World} {m : Nat} {cs : List Value} {x : DataW Unit × List MemPlace} {k : Int} {l : List UInt8} (h : DataW.trod (fun _ => ()) Tryd.prog W 0 (fun _ => true) false m 79 cs = some x) (hx : x.1 = .agg [.lit (.int .i64 k), .lit (.string l)]) :
    cs[0]? = some (.int .i64 k) ∧ cs[1]? = some (.string ⟨l.toArray⟩) := by
  obtain ⟨ys, n, _, ey, hlen, hn, hf⟩ := DataW.trod_struct Tryd.underlying79 h
  have c3 : Tryd.prog.cellsOf 3 = 1 := by kernel_rfl
  have c9 : Tryd.prog.cellsOf 9 = 1 := by kernel_rfl
  match ys, hn with
  | [y0, y1], _ =>
    have e := (Prod.mk.inj (show (x.1, x.2) = _ from ey)).1.symm.trans hx
    simp only [List.map_cons, List.map_nil, DataW.agg.injEq, List.cons.injEq, and_true] at e
    have h0 : DataW.trod (fun _ => ()) Tryd.prog W 0 (fun _ => true) false n 3 ((cs.drop 0).take (Tryd.prog.cellsOf 3)) = some y0 := hf 0 _ rfl
    have h1 : DataW.trod (fun _ => ()) Tryd.prog W 0 (fun _ => true) false n 9 ((cs.drop 1).take (Tryd.prog.cellsOf 9)) = some y1 := hf 1 _ rfl
    obtain ⟨z, e1, e2, _⟩ := DataW.trod_int Tryd.underlying3 h0
    obtain ⟨s, e4, e5, _⟩ := DataW.trod_string Tryd.underlying9 h1
    rw [e2, e5] at e
    simp only [DataW.lit.injEq, Lit.int.injEq, Lit.string.injEq, true_and] at e
    obtain ⟨rfl, hs⟩ := e
    have hs' : s = ⟨l.toArray⟩ := Go.WideShapes.bytes_inj (by rw [hs])
    rw [c3] at e1
    rw [c9] at e4
    have g0 : (List.take 1 (List.drop 0 cs))[0]? = some (.int .i64 z) := by rw [e1]; rfl
    have g1 : (List.take 1 (List.drop 1 cs))[0]? = some (.string s) := by rw [e4]; rfl
    refine ⟨by simpa using g0, ?_⟩
    rw [← hs']
    simpa using g1

set_option maxRecDepth 100000 in
theorem kinds_of {W : World} (h : laidMetH Tryd.prog laidL W) : KindsAt W := by
  rw [MakeChecks.laidMetH_plain _ _ _ (by kernel_rfl)] at h
  obtain ⟨ps, ⟨g0, t0, cs0, f0, p0, q0, hg0, ht0, hv0, hd0, ⟨g1, t1, cs1, f1, p1, q1, hg1, ht1, hv1, hd1, _, _⟩, _⟩, _, _⟩ := h
  obtain rfl : g1 = 0 := Option.some.inj (Eq.trans hg1.symm (by kernel_rfl))
  obtain rfl : t1 = 80 := Option.some.inj (Eq.trans ht1.symm (by kernel_rfl))
  obtain ⟨xs, m, _, ex, _, hl, hel⟩ := DataW.trod_array Tryd.underlying80 hd1
  have c69 : Tryd.prog.cellsOf 79 = 2 := by kernel_rfl
  match xs, hl with
  | [x0, x1, x2], _ =>
    have e3 : ([x0, x1, x2].map (·.1)) = [.agg [.lit (.int .i64 1), .lit (.string [116, 101, 120, 116])], .agg [.lit (.int .i64 2), .lit (.string [110, 117, 109])], .agg [.lit (.int .i64 3), .lit (.string [108, 105, 115, 116])]] := (DataW.agg.inj (Prod.mk.inj ex).1).symm
    simp only [List.map_cons, List.map_nil, List.cons.injEq, and_true] at e3
    have h0 := hel 0 (by decide)
    have h1 := hel 1 (by decide)
    have h2 := hel 2 (by decide)
    rw [c69] at h0 h1 h2
    obtain ⟨a0, a1⟩ := kw_elem h0 e3.1
    obtain ⟨b0, b1⟩ := kw_elem h1 e3.2.1
    obtain ⟨d0, d1⟩ := kw_elem h2 e3.2.2
    have cell : ∀ (i : Nat) (v : Value), cs1.toList[i]? = some v → W.cell? ⟨0, i, none⟩ = some v := fun i v hi => by
      rw [World.var?_cell hg1 hv1 i]
      simpa using hi
    refine ⟨cell 0 _ ?_, cell 1 _ ?_, cell 2 _ ?_, cell 3 _ ?_, cell 4 _ ?_, cell 5 _ ?_⟩
    · simpa using a0
    · simpa [textW] using a1
    · simpa using b0
    · simpa [numW] using b1
    · simpa using d0
    · simpa [listW] using d1

set_option maxRecDepth 100000 in
theorem lifted (os : Os) (started : os.Started) (H : Type) (enc : TypeId × Value → H) :
    ReturnsInHanded {} Tryd.checked os 3 .any (fun w args => (Rows.schemaApartSpec.pre enc Tryd.prog Tryd.f3 Rows.schemaApartRow.domain false w args ∧ laidMetH Tryd.prog laidL w) ∧ sizedMet enc Tryd.prog Tryd.f3 (OpenSpec.ofChange Rows.schemaApartSpec) false w args)
      (Rows.schemaApartSpec.post enc Tryd.prog Tryd.f3 false true false false) := by
  refine returnsLaidShaped (C := Tryd.checked) (X := fun w _ => laidMetH Tryd.prog laidL w) (fun _ _ _ hh h => h.of_heap hh) own started (by kernel_rfl) Tryd.func3
    (ChangeSpec.witness_shaped (enc := enc) (C := Tryd.checked) (os := os) (X := fun w _ => laidMetH Tryd.prog laidL w) false (World.laidAll Tryd.prog os laidL) #[.string ⟨#[]⟩] 8 (World.laidAll_os _ _ _)
      (World.shaped_of_ZipB (by kernel_rfl) (by kernel_rfl)) (by kernel_rfl) (by kernel_rfl) (by kernel_rfl)
      (by rw [MakeChecks.laidMetH_plain _ _ _ (by kernel_rfl)]; exact laidMet_laidAll _ (by kernel_rfl) (by kernel_rfl))) ?_
  intro W base args ds gs before hval0 hW hc hsz0 hL hsh
  have hsz : (DataW.weightsEach Tryd.prog (Tryd.f3.params.toList ++ Rows.schemaApartSpec.plain.varTypes Tryd.prog) (ds ++ gs)).all (· ≤ reachBytes) = true := hsz0
  have hW' := hW
  obtain ⟨p, q, hA0, hV, rfl, _, _⟩ := hW
  have hA : DataW.TrodAll enc Tryd.prog W 0 (fun _ => true) true Tryd.f3.params.toList args.toList ds p := hA0
  have hval : ∀ (j : Nat) t v, Tryd.f3.params[j]? = some t → args[j]? = some v → Value.okWide Tryd.prog W .any base t v := hval0
  rw [Tryd.params3] at hA hval hsz
  obtain ⟨v0, d0, rfl, rfl, h0⟩ := trodAll_one hA
  obtain ⟨rfl, rfl⟩ := trodVars_none hV
  obtain ⟨text, rfl, rfl, rfl, hts⟩ := open_string Tryd.underlying9 (hval 0 9 v0 rfl rfl) h0
  obtain ⟨mx, hmx⟩ := maxLen_of hsh
  have hk := kinds_of hL
  have htl : text.size ≤ 140737488351232 := by
    have := sized_string hsz (j := 0) (t := 9) rfl rfl
    simpa [reachBytes] using this
  clear hA0 hval hval0 hsz0
  simp only [List.append_nil] at hW'
  refine (schemaApart_calls text W mx hmx hk htl).mono fun e W' ⟨he, hg⟩ => ?_
  subst he
  exact ⟨_, rfl, _, _, _, [], _, [], hW', trodAll_mk1 (shut_bool Tryd.underlying4 _), trodAll_mk1 (shut_string Tryd.underlying9 hts), rfl, hg.frame _, fun h => by cases h⟩
end PSApart

theorem schemaApart_said : Rows.SchemaApartSaid :=
  OpenClaim.holds_of_wide 3 Tryd.f3 rfl rfl rfl rfl rfl rfl rfl ⟨rfl, rfl, rfl, rfl, rfl⟩ rfl rfl rfl rfl rfl (by kernel_rfl) Tryd.func3 (by kernel_rfl)
    (of_decide_eq_true (by kernel_rfl)) (by unfold Func.isWrapper; first | (rw [if_pos (by decide +kernel)]; kernel_rfl) | (rw [if_neg (by decide +kernel)]; exact ⟨rfl, rfl⟩))
    (fun os started H enc _ => PSApart.lifted os started H enc)

theorem schemaApart_holds : Rows.SchemaApartCardSaid :=
  Claim7.holds_tied_plain_at .later [] [.data, .data, .pinned] true Rows.schemaApartCard.stood.harness true schemaApart_said (fun _ h => by cases h) (by kernel_rfl) (fun _ h => by cases h) schemaApart_row_tie rfl ⟨rfl, rfl⟩ (by kernel_rfl) rfl
    (fun f fn hf hfn => by
      obtain rfl : f = 3 := Option.some.inj (Eq.trans hf.symm (by kernel_rfl))
      obtain rfl : fn = Tryd.f3 := (Option.some.inj (Tryd.func3.symm.trans hfn)).symm
      exact ⟨by kernel_rfl, fun j t ht => by
        rw [Tryd.params3] at ht
        obtain ⟨hj, e⟩ := Array.getElem?_eq_some_iff.1 ht
        obtain rfl : j = 0 := by simpa using hj
        obtain rfl : t = 9 := e.symm
        show Tryd.prog.wantsStandIn 9 = false
        kernel_rfl⟩)
    (by kernel_rfl)
end Go.Proofs.YtbpmahchinblhaaDoor
