import Derived.Test.YtgjcchafmcccjaaGreatDoorRcLaid
import Derived.Test.YtgjcchafmcccjaaGreatDoorSCatch
import Derived.ProofKit
import Derived.OpenShut
import Derived.LaidMore
import Derived.Shelf.Vars
import Derived.Test.YtgjcchafmcccjaaGreatDoorRows
import Derived.Lay
import Derived.SevenTiedAt
import Derived.Stop.Joined
import Derived.HandedShaped
import Derived.Deep.DeepHandedRow
import Derived.Test.YtgjcchafmcccjaaGreatDoorTie
import Derived.Test.YtgjcchafmcccjaaGreatDoorCards
import Derived.Test.YtgjcchafmcccjaaGreatDoorRcLawT
/- What the table of kinds reads as, where it is listed. -/
namespace Go.Proofs.YtgjcchafmcccjaaGreatDoor
open Go.ChangeShapes Go.WideShapes Go.ChangeAt Go.RowKit
set_option linter.unusedVariables false

theorem maxLen_ofR {W : World} (h : W.ShapedOpen Tryz.prog) : ∃ m, W.cell? ⟨1, 0, none⟩ = some (.int .i64 m) :=
  Go.Proofs.cell_of_shapedOpen_int (t := 3) (zero := #[.int .i64 0]) h (of_decide_eq_true (by kernel_rfl)) (by kernel_rfl) rfl (by kernel_rfl) (by kernel_rfl) Tryz.underlying3
theorem kw_elemR {W : World} {m : Nat} {cs : List Value} {x : DataW Unit × List MemPlace} {k : Int} {l : List UInt8} (h : DataW.trod (fun _ => ()) Tryz.prog W 0 (fun _ => true) false m 160 cs = some x) (hx : x.1 = .agg [.lit (.int .i64 k), .lit (.string l)]) :
    cs[0]? = some (.int .i64 k) ∧ cs[1]? = some (.string ⟨l.toArray⟩) := by
  obtain ⟨ys, n, _, ey, hlen, hn, hf⟩ := DataW.trod_struct Tryz.underlying160 h
  have c3 : Tryz.prog.cellsOf 3 = 1 := by kernel_rfl
  have c9 : Tryz.prog.cellsOf 9 = 1 := by kernel_rfl
  match ys, hn with
  | [y0, y1], _ =>
    have e := (Prod.mk.inj (show (x.1, x.2) = _ from ey)).1.symm.trans hx
    simp only [List.map_cons, List.map_nil, DataW.agg.injEq, List.cons.injEq, and_true] at e
    have h0 : DataW.trod (fun _ => ()) Tryz.prog W 0 (fun _ => true) false n 3 ((cs.drop 0).take (Tryz.prog.cellsOf 3)) = some y0 := hf 0 _ rfl
    have h1 : DataW.trod (fun _ => ()) Tryz.prog W 0 (fun _ => true) false n 9 ((cs.drop 1).take (Tryz.prog.cellsOf 9)) = some y1 := hf 1 _ rfl
    obtain ⟨z, e1, e2, _⟩ := DataW.trod_int Tryz.underlying3 h0
    obtain ⟨s, e4, e5, _⟩ := DataW.trod_string Tryz.underlying9 h1
    rw [e2, e5] at e
    simp only [DataW.lit.injEq, Lit.int.injEq, Lit.string.injEq, true_and] at e
    obtain ⟨rfl, hs⟩ := e
    have hs' : s = ⟨l.toArray⟩ := Go.WideShapes.bytes_inj (by rw [hs])
    rw [c3] at e1
    rw [c9] at e4
    have g0 : (List.take 1 (List.drop 0 cs))[0]? = some (.int .i64 z) := by rw [e1]; rfl
    have g1 : (List.take 1 (List.drop 1 cs))[0]? = some (.string s) := by rw [e4]; rfl
    refine ⟨by simpa using g0, ?_⟩
    rw [← hs']
    simpa using g1
set_option maxRecDepth 100000 in
theorem kindsAt_of {W : World} {laid : List (String × DataW Unit)} (hp : (laid.all fun x => x.2.handleName?.isNone) = true)
    (hm : ("muster/schema.kindWords", (.agg [.agg [.lit (.int .i64 1), .lit (.string [116, 101, 120, 116])], .agg [.lit (.int .i64 2), .lit (.string [110, 117, 109])], .agg [.lit (.int .i64 3), .lit (.string [108, 105, 115, 116])]] : DataW Unit)) ∈ laid) (h : laidMetH Tryz.prog laid W) : KindsAt W := by
  rw [MakeChecks.laidMetH_plain _ _ _ hp] at h
  obtain ⟨ps, hl, _⟩ := h
  obtain ⟨g1, t1, cs1, f1, q1, hg1, ht1, hv1, hd1⟩ := laid_entry hl hm
  obtain rfl : g1 = 0 := Option.some.inj (Eq.trans hg1.symm (by kernel_rfl))
  obtain rfl : t1 = 161 := Option.some.inj (Eq.trans ht1.symm (by kernel_rfl))
  obtain ⟨xs, m, _, ex, _, hl, hel⟩ := DataW.trod_array Tryz.underlying161 hd1
  have c69 : Tryz.prog.cellsOf 160 = 2 := by kernel_rfl
  match xs, hl with
  | [x0, x1, x2], _ =>
    have e3 : ([x0, x1, x2].map (·.1)) = [.agg [.lit (.int .i64 1), .lit (.string [116, 101, 120, 116])], .agg [.lit (.int .i64 2), .lit (.string [110, 117, 109])], .agg [.lit (.int .i64 3), .lit (.string [108, 105, 115, 116])]] := (DataW.agg.inj (Prod.mk.inj ex).1).symm
    simp only [List.map_cons, List.map_nil, List.cons.injEq, and_true] at e3
    have h0 := hel 0 (by decide)
    have h1 := hel 1 (by decide)
    have h2 := hel 2 (by decide)
    rw [c69] at h0 h1 h2
    obtain ⟨a0, a1⟩ := kw_elemR h0 e3.1
    obtain ⟨b0, b1⟩ := kw_elemR h1 e3.2.1
    obtain ⟨d0, d1⟩ := kw_elemR h2 e3.2.2
    have cell : ∀ (i : Nat) (v : Value), cs1.toList[i]? = some v → W.cell? ⟨0, i, none⟩ = some v := fun i v hi => by
      rw [World.var?_cell hg1 hv1 i]
      simpa using hi
    refine ⟨cell 0 _ ?_, cell 1 _ ?_, cell 2 _ ?_, cell 3 _ ?_, cell 4 _ ?_, cell 5 _ ?_⟩
    · simpa using a0
    · simpa [textW] using a1
    · simpa using b0
    · simpa [numW] using b1
    · simpa using d0
    · simpa [listW] using d1
end Go.Proofs.YtgjcchafmcccjaaGreatDoor

/- A row with listed variables, whose walk is told of them and of the memory's shape. -/
namespace Go.Proofs.YtgjcchafmcccjaaGreatDoor
open Go.ChangeShapes Go.WideShapes Go.ChangeAt Go.RowKit
set_option linter.unusedVariables false

/-- The listed variables' condition and the memory's shape, both handed to the walk. -/
theorem returnsLaidShaped {H : Type} {enc : TypeId × Value → H} {a : Assume} {C : Checked} {os : Os} {f : FuncId} {fn : Func} {s : ChangeSpec} {conds : List PathCond} {apart fresh handsOn again : Bool} {X : World → Array Value → Prop}
    (hX : ∀ (w w' : World) (args : Array Value), w.heap = w'.heap → X w args → X w' args)
    (own : ownKnob C.prog.godebug = none) (started : os.Started) (noInit : C.prog.inits.idxOf? f = none) (hfn : C.prog.funcs[f]? = some fn)
    (witness : ∃ (w : World) (tape : Tape) (i : Input), w.os = os ∧ (w.forCall tape i).Shaped C.prog ∧ i.vars = [] ∧ Input.okWide C.prog (w.forCall tape i) .any w.heap.size f i ∧
      ((s.pre enc C.prog fn conds apart (w.forCall tape i).memory i.args ∧ X (w.forCall tape i).memory i.args) ∧ sizedMet enc C.prog fn (OpenSpec.ofChange s) apart (w.forCall tape i).memory i.args) ∧ a.holds C.prog (lone (Frame.enter C.prog f i.args .normal) [] (w.forCall tape i)))
    (contract : ∀ (W : World) (base : Nat) (args : Array Value) (ds gs : List (DataW H)) (before : List MemPlace),
      (∀ (j : Nat) t v, fn.params[j]? = some t → args[j]? = some v → Value.okWide C.prog W .any base t v) →
      DataW.Whole enc C.prog fn.params.toList s.vars apart W args.toList ds gs before →
      conds.all (PathCond.test C.prog ⟨fn.params.toList, ds, s.plain.varTypes C.prog, gs⟩) = true →
      (DataW.weightsEach C.prog (fn.params.toList ++ s.plain.varTypes C.prog) (ds ++ gs)).all (· ≤ reachBytes) = true → X W args → W.ShapedOpen C.prog →
      Calls C.prog f args W fun e W' => ∃ v, e = .returned v ∧ s.post enc C.prog fn apart fresh handsOn again W args v W') :
    ReturnsInHanded a C os f .any (fun w args => (s.pre enc C.prog fn conds apart w args ∧ X w args) ∧ sizedMet enc C.prog fn (OpenSpec.ofChange s) apart w args) (s.post enc C.prog fn apart fresh handsOn again) := by
  refine returnsInHanded_of_calls own started noInit witness ?_
  intro w tape i _ hsh _ hok hpre _
  obtain ⟨_, _, _, fn', hfn', _, _, _, _, hval⟩ := hok
  obtain rfl : fn' = fn := Option.some.inj (hfn'.symm.trans hfn)
  obtain ⟨⟨⟨ds, gs, before, hw, hc⟩, hx⟩, hz⟩ := hpre
  refine (contract (w.forCall tape i) w.heap.size i.args ds gs before hval (DataW.Whole.of_heap (w' := w.forCall tape i) (by rfl) hw) hc (hz.weights hw) (hX _ _ _ (by rfl) hx) hsh).mono fun e W' ⟨v, he, hp⟩ => ?_
  subst he
  exact ChangeSpec.post_blind hp
/-- The witness of a row with listed variables, in whatever form. -/
theorem rowWitness {H : Type} {enc : TypeId × Value → H} {C : Checked} {os : Os} {f : FuncId} {fn : Func} {s : OpenSpec} {conds : List PathCond} {apart : Bool} {laid : List (String × DataW Unit)} (w0 : World) (args : Array Value) (hos : w0.os = os)
    (hsh : (w0.forCall (fun _ _ => 0) ⟨#[], args, []⟩).Shaped C.prog) (hok : Input.okWideB C.prog (w0.forCall (fun _ _ => 0) ⟨#[], args, []⟩) f ⟨#[], args, []⟩ = true)
    (hrow : s.preRow enc C.prog fn conds apart laid (w0.forCall (fun _ _ => 0) ⟨#[], args, []⟩).memory args) :
    ∃ (w : World) (tape : Tape) (i : Input), w.os = os ∧ (w.forCall tape i).Shaped C.prog ∧ i.vars = [] ∧ Input.okWide C.prog (w.forCall tape i) .any w.heap.size f i ∧
      s.preRow enc C.prog fn conds apart laid (w.forCall tape i).memory i.args ∧ ({} : Assume).holds C.prog (lone (Frame.enter C.prog f i.args .normal) [] (w.forCall tape i)) :=
  ⟨w0, fun _ _ => 0, ⟨#[], args, []⟩, hos, hsh, (Input.okWide_of_okWideB (base := 0) hok).1, (Input.okWide_of_okWideB hok).2, hrow, by
    simp only [Assume.holds]
    exact ⟨by simp, by simp, fun _ => Modest.zero, by simp, by simp⟩⟩
end Go.Proofs.YtgjcchafmcccjaaGreatDoor

/- RecordsFit answers true and leaves its arguments as they were, for every two services and every node, where the library's variables that it reads and the table of kinds are as the program's own text lays them (the card ties that). No other condition. -/
namespace Go.Proofs.YtgjcchafmcccjaaGreatDoor
open Go.ChangeShapes Go.WideShapes Go.ChangeAt Go.RowKit
open Go.ChangeMaps (open_string shut_string)
set_option linter.unusedVariables false

namespace PRcFit
theorem own : ownKnob Tryz.prog.godebug = none := by kernel_rfl
theorem laidOut : laidOutB Tryz.prog = true := by kernel_rfl
abbrev laidL : List (String × DataW Unit) := Rows.recordsFitRow.laid

set_option maxRecDepth 100000 in
theorem lifted (os : Os) (started : os.Started) (H : Type) (enc : TypeId × Value → H) :
    ReturnsInHanded {} Tryz.checked os 3 .any (fun w args => (Rows.recordsFitSpec.pre enc Tryz.prog Tryz.f3 Rows.recordsFitRow.domain false w args ∧ laidMetH Tryz.prog laidL w) ∧ sizedMet enc Tryz.prog Tryz.f3 (OpenSpec.ofChange Rows.recordsFitSpec) false w args)
      (Rows.recordsFitSpec.post enc Tryz.prog Tryz.f3 false true false false) := by
  refine returnsLaidShaped (C := Tryz.checked) (X := fun w _ => laidMetH Tryz.prog laidL w) (fun _ _ _ hh h => h.of_heap hh) own started (by kernel_rfl) Tryz.func3
    (ChangeSpec.witness_shaped (enc := enc) (C := Tryz.checked) (os := os) (X := fun w _ => laidMetH Tryz.prog laidL w) false (World.laidAll Tryz.prog os laidL) #[.agg #[.string ⟨#[]⟩, .string ⟨#[]⟩, .string ⟨#[]⟩, .int .i64 0, .slice none 0 0, .int .u64 0, .int .u64 0], .agg #[.string ⟨#[]⟩, .string ⟨#[]⟩, .string ⟨#[]⟩, .int .i64 0, .slice none 0 0, .int .u64 0, .int .u64 0], .agg #[.string ⟨#[]⟩, .string ⟨#[]⟩, .int .u64 0, .int .u64 0]] 8 (World.laidAll_os _ _ _)
      (World.shaped_of_ZipB (by kernel_rfl) (by kernel_rfl)) (by kernel_rfl) (by kernel_rfl) (by kernel_rfl)
      (by rw [MakeChecks.laidMetH_plain _ _ _ (by kernel_rfl)]; exact laidMet_laidAll _ (by kernel_rfl) (by kernel_rfl))) ?_
  intro W base args ds gs before hval0 hW hc hsz0 hL hsh
  have hk : Vs W := vs_of (by kernel_rfl) (.tail _ (.tail _ (.head _))) (.tail _ (.tail _ (.tail _ (.tail _ (.tail _ (.head _)))))) (.tail _ (.tail _ (.tail _ (.tail _ (.head _))))) hL
  have hki : KindsAt W := kindsAt_of (by kernel_rfl) (.tail _ (.tail _ (.tail _ (.tail _ (.tail _ (.tail _ (.head _))))))) hL
  obtain ⟨mx, hmx⟩ := maxLen_ofR hsh
  have hsz : (DataW.weightsEach Tryz.prog (Tryz.f3.params.toList ++ Rows.recordsFitSpec.plain.varTypes Tryz.prog) (ds ++ gs)).all (· ≤ reachBytes) = true := hsz0
  have hW' := hW
  obtain ⟨p, q, hA0, hV, rfl, _, _⟩ := hW
  have hA : DataW.TrodAll enc Tryz.prog W 0 (fun _ => true) true Tryz.f3.params.toList args.toList ds p := hA0
  have hval : ∀ (j : Nat) t v, Tryz.f3.params[j]? = some t → args[j]? = some v → Value.okWide Tryz.prog W .any base t v := hval0
  rw [Tryz.params3] at hA hval hsz
  obtain ⟨v0, v1, v2, d0, d1, d2, p0, p1, p2, rfl, rfl, rfl, h0, h1, h2⟩ := trodAll_three hA
  obtain ⟨rfl, rfl⟩ := trodVars_none hV
  obtain ⟨cs0, rfl, hz0⟩ := okWide_struct Tryz.underlying25 (hval 0 25 v0 rfl rfl)
  obtain ⟨cs1, rfl, hz1⟩ := okWide_struct Tryz.underlying25 (hval 1 25 v1 rfl rfl)
  obtain ⟨cs2, rfl, hz2⟩ := okWide_struct Tryz.underlying27 (hval 2 27 v2 rfl rfl)
  rw [cells_svc] at hz0 hz1
  rw [cells_node] at hz2
  have k0 := h0
  have k1 := h1
  have k2 := h2
  obtain ⟨fu0, e0⟩ := h0
  obtain ⟨fu1, e1⟩ := h1
  obtain ⟨fu2, e2⟩ := h2
  obtain ⟨a, ta, tc, dta, rfl, hdta, hcta, hd0⟩ := open_svc hz0 (by simpa [Value.cells] using e0)
  obtain ⟨b, tb, td, dtb, rfl, hdtb, hctb, hd1⟩ := open_svc hz1 (by simpa [Value.cells] using e1)
  obtain ⟨n, rfl, hd2⟩ := open_node hz2 (by simpa [Value.cells] using e2)
  dsimp only at hd0 hd1 hd2
  obtain ⟨ra1, ra2⟩ := svc_reach hdta hd0 fun n hn => of_decide_eq_true (List.all_eq_true.1 hsz _ (DataW.weights_mem_each (j := 0) rfl rfl n hn))
  obtain ⟨rb1, rb2⟩ := svc_reach hdtb hd1 fun n hn => of_decide_eq_true (List.all_eq_true.1 hsz _ (DataW.weights_mem_each (j := 1) rfl rfl n hn))
  obtain ⟨rn1, rn2⟩ := node_reach hd2 fun n hn => of_decide_eq_true (List.all_eq_true.1 hsz _ (DataW.weights_mem_each (j := 2) rfl rfl n hn))
  clear hA0 hval hval0 hL hc hsz hsz0
  simp only [List.append_nil] at hW'
  have hlt0 : ∀ x, x ∈ p0 → x.block < W.heap.size := fun x hx => hW'.lt x (by simp [hx])
  have hlt1 : ∀ x, x ∈ p1 → x.block < W.heap.size := fun x hx => hW'.lt x (by simp [hx])
  have hlt2 : ∀ x, x ∈ p2 → x.block < W.heap.size := fun x hx => hW'.lt x (by simp [hx])
  refine (recordsFit_calls a b n ta tb tc td W mx hmx hki hk rn1 rn2 ra1 ra2 rb1 rb2 hcta hctb).mono fun e W' ⟨he, hg⟩ => ?_
  subst he
  exact ⟨_, rfl, _, _, _, [], _, [], hW', trodAll_mk1 (shut_bool Tryz.underlying4 _), trodAll_mk3 (Below.trod laidOut (by kernel_rfl) (of_decide_eq_true (by kernel_rfl)) k0 hg hlt0) (Below.trod laidOut (by kernel_rfl) (of_decide_eq_true (by kernel_rfl)) k1 hg hlt1) (Below.trod laidOut (by kernel_rfl) (of_decide_eq_true (by kernel_rfl)) k2 hg hlt2), rfl, hg.frame _, fun h => by cases h⟩
end PRcFit

theorem recordsFit_said : Rows.RecordsFitSaid :=
  OpenClaim.holds_of_wide 3 Tryz.f3 rfl rfl rfl rfl rfl rfl rfl ⟨rfl, rfl, rfl, rfl, rfl⟩ rfl rfl rfl rfl rfl (by kernel_rfl) Tryz.func3 (by kernel_rfl)
    (of_decide_eq_true (by kernel_rfl)) (by unfold Func.isWrapper; first | (rw [if_pos (by decide +kernel)]; kernel_rfl) | (rw [if_neg (by decide +kernel)]; exact ⟨rfl, rfl⟩))
    (fun os started H enc _ => PRcFit.lifted os started H enc)

theorem recordsFit_holds : Rows.RecordsFitCardSaid :=
  Claim7.holds_tied_plain_at .later [] _ _ _ _ recordsFit_said (fun _ h => by cases h) (by kernel_rfl) (fun _ h => by cases h) recordsFit_row_tie rfl ⟨rfl, rfl⟩ (by kernel_rfl) rfl
    (fun f fn hf hfn => by
      obtain rfl : f = 3 := Option.some.inj (Eq.trans hf.symm (by kernel_rfl))
      obtain rfl : fn = Tryz.f3 := (Option.some.inj (Tryz.func3.symm.trans hfn)).symm
      exact ⟨by kernel_rfl, fun j t ht => by
        rw [Tryz.params3] at ht
        have hm := Array.mem_of_getElem? ht
        simp at hm
        rcases hm with rfl | rfl
        · exact (show Tryz.prog.wantsStandIn 25 = false by kernel_rfl)
        · exact (show Tryz.prog.wantsStandIn 27 = false by kernel_rfl)⟩)
    (by kernel_rfl)
#print axioms recordsFit_holds
end Go.Proofs.YtgjcchafmcccjaaGreatDoor
