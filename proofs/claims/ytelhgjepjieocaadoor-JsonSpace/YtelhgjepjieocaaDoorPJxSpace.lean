import Derived.Test.YtelhgjepjieocaaDoorScBase
import Derived.Deep.Slices
import Derived.OpenShut
import Derived.SizedLaws
import Derived.ProofKit
import Derived.Test.YtelhgjepjieocaaDoorJxNum
import Derived.Lay
import Derived.Lib.LaidTab
import Derived.MakeChecks
import Derived.Test.YtelhgjepjieocaaDoorRows
import Derived.LaidMore
import Derived.SevenTiedAt
import Derived.Stop.Joined
import Derived.HandedShaped
import Derived.Shelf.Vars
import Derived.Deep.DeepHandedRow
import Derived.Test.YtelhgjepjieocaaDoorTie
import Derived.Test.YtelhgjepjieocaaDoorCards
import Derived.Test.YtelhgjepjieocaaDoorJxSpcL
/- An argument of type []int, opened. -/
namespace Go.Proofs.YtelhgjepjieocaaDoor
open Go.RowKit Go.Deep Go.ChangeShapes Go.WideShapes
set_option linter.unusedVariables false

def intData {H : Type} (t : Int) : DataW H := .lit (.int .i64 t)
theorem cells_intS : Tryd.prog.cellsOf 3 = 1 := by kernel_rfl
theorem bytes_intS : Tryd.prog.bytesOf 3 = 8 := by kernel_rfl
theorem i64_bnd {n : Int} (h : (Lit.int .i64 n).wf = true) : -9223372036854775808 ≤ n ∧ n ≤ 9223372036854775807 := by
  exact bounds_i64 h

end Go.Proofs.YtelhgjepjieocaaDoor

/- What the listed variables read as, one by one. -/
namespace Go.Proofs.YtelhgjepjieocaaDoor
open Go.RowKit
set_option linter.unusedVariables false

theorem laid_entry {P : Program} {W : World} : ∀ {laid : List (String × DataW Unit)} {ps : List MemPlace}, DataW.LaidVars P W laid ps → ∀ {n : String} {d : DataW Unit}, (n, d) ∈ laid →
    ∃ g t cs fuel q, P.globalNamed n = some g ∧ (P.globals[g]?).map (·.type) = some t ∧ W.var? P n = some cs ∧ DataW.trod (fun _ => ()) P W 0 (fun _ => true) false fuel t cs.toList = some (d, q) := by
  intro laid
  induction laid with
  | nil => intro ps _ n d hm; simp at hm
  | cons x laid ih =>
    intro ps h n d hm
    obtain ⟨g, t, cs, fuel, p, q, hg, ht, hv, hd, hr, _⟩ := h
    rcases List.mem_cons.1 hm with rfl | hm
    · exact ⟨g, t, cs, fuel, p, hg, ht, hv, hd⟩
    · exact ih hr hm
set_option maxRecDepth 100000 in
theorem pow_of {W : World} {t : TypeId} {cs : Array Value} {fuel : Nat} {q : List MemPlace} (ht : t = 122) (hv : W.var? Tryd.prog "internal/strconv.uint64pow10" = some cs) (hd : DataW.trod (fun _ => ()) Tryd.prog W 0 (fun _ => true) false fuel t cs.toList = some (Lib.tabData .u64 Lib.pow10Tab, q)) : Lib.TabIs Tryd.prog W "internal/strconv.uint64pow10" .u64 Lib.pow10Tab := by
  subst ht
  unfold Lib.TabIs
  rw [hv, ← Lib.cells_of_tab Tryd.underlying122 Tryd.underlying83 (by kernel_rfl) (by kernel_rfl) hd]
set_option maxRecDepth 100000 in
theorem err_of {W : World} {n : String} {t : TypeId} {cs : Array Value} {fuel : Nat} {q : List MemPlace} {nm : String} {d : DataW Unit} (ht : t = 98) (hv : W.var? Tryd.prog n = some cs) (hd : DataW.trod (fun _ => ()) Tryd.prog W 0 (fun _ => true) false fuel t cs.toList = some (.iface nm d, q)) : ∃ t p, W.var? Tryd.prog n = some #[.iface t p] := by
  subst ht
  obtain ⟨_, u, v, hcs, _, _⟩ := iface_of_trod Tryd.underlying98 hd
  exact ⟨u, v, by rw [hv]; congr 1; exact Array.toList_inj.1 hcs⟩
set_option maxRecDepth 100000 in
theorem vs_of {W : World} {laid : List (String × DataW Unit)} (hp : (laid.all fun x => x.2.handleName?.isNone) = true) {nm1 nm2 : String} {d1 d2 : DataW Unit}
    (h1 : ("internal/strconv.uint64pow10", Lib.tabData .u64 Lib.pow10Tab) ∈ laid) (h2 : ("strconv.ErrSyntax", .iface nm1 d1) ∈ laid) (h3 : ("strconv.ErrRange", .iface nm2 d2) ∈ laid) (h : laidMetH Tryd.prog laid W) : Vs W := by
  rw [MakeChecks.laidMetH_plain _ _ _ hp] at h
  obtain ⟨ps, hl, _⟩ := h
  obtain ⟨g1, t1, c1, f1, q1, hg1, ht1, hv1, hd1⟩ := laid_entry hl h1
  obtain ⟨g2, t2, c2, f2, q2, hg2, ht2, hv2, hd2⟩ := laid_entry hl h2
  obtain ⟨g3, t3, c3, f3, q3, hg3, ht3, hv3, hd3⟩ := laid_entry hl h3
  have ty : ∀ {n : String} {g : Nat} {t t' : TypeId}, Tryd.prog.globalNamed n = some g → (Tryd.prog.globals[g]?).map (·.type) = some t → ((Tryd.prog.globalNamed n).bind fun g => (Tryd.prog.globals[g]?).map (·.type)) = some t' → t = t' := fun ha hb hc => by
    rw [ha, Option.bind_some, hb] at hc
    exact Option.some.inj hc
  exact ⟨pow_of (ty hg1 ht1 (by kernel_rfl)) hv1 hd1, err_of (ty hg2 ht2 (by kernel_rfl)) hv2 hd2, err_of (ty hg3 ht3 (by kernel_rfl)) hv3 hd3⟩
end Go.Proofs.YtelhgjepjieocaaDoor

/- A row with listed variables, whose walk is told of them and of the memory's shape. -/
namespace Go.Proofs.YtelhgjepjieocaaDoor
open Go.ChangeShapes Go.WideShapes Go.ChangeAt Go.RowKit
set_option linter.unusedVariables false

/-- The listed variables' condition and the memory's shape, both handed to the walk. -/
theorem returnsLaidShaped {H : Type} {enc : TypeId × Value → H} {a : Assume} {C : Checked} {os : Os} {f : FuncId} {fn : Func} {s : ChangeSpec} {conds : List PathCond} {apart fresh handsOn again : Bool} {X : World → Array Value → Prop}
    (hX : ∀ (w w' : World) (args : Array Value), w.heap = w'.heap → X w args → X w' args)
    (own : ownKnob C.prog.godebug = none) (started : os.Started) (noInit : C.prog.inits.idxOf? f = none) (hfn : C.prog.funcs[f]? = some fn)
    (witness : ∃ (w : World) (tape : Tape) (i : Input), w.os = os ∧ (w.forCall tape i).Shaped C.prog ∧ i.vars = [] ∧ Input.okWide C.prog (w.forCall tape i) .any w.heap.size f i ∧
      ((s.pre enc C.prog fn conds apart (w.forCall tape i).memory i.args ∧ X (w.forCall tape i).memory i.args) ∧ sizedMet enc C.prog fn (OpenSpec.ofChange s) apart (w.forCall tape i).memory i.args) ∧ a.holds C.prog (lone (Frame.enter C.prog f i.args .normal) [] (w.forCall tape i)))
    (contract : ∀ (W : World) (base : Nat) (args : Array Value) (ds gs : List (DataW H)) (before : List MemPlace),
      (∀ (j : Nat) t v, fn.params[j]? = some t → args[j]? = some v → Value.okWide C.prog W .any base t v) →
      DataW.Whole enc C.prog fn.params.toList s.vars apart W args.toList ds gs before →
      conds.all (PathCond.test C.prog ⟨fn.params.toList, ds, s.plain.varTypes C.prog, gs⟩) = true →
      (DataW.weightsEach C.prog (fn.params.toList ++ s.plain.varTypes C.prog) (ds ++ gs)).all (· ≤ reachBytes) = true → X W args → W.ShapedOpen C.prog →
      Calls C.prog f args W fun e W' => ∃ v, e = .returned v ∧ s.post enc C.prog fn apart fresh handsOn again W args v W') :
    ReturnsInHanded a C os f .any (fun w args => (s.pre enc C.prog fn conds apart w args ∧ X w args) ∧ sizedMet enc C.prog fn (OpenSpec.ofChange s) apart w args) (s.post enc C.prog fn apart fresh handsOn again) := by
  refine returnsInHanded_of_calls own started noInit witness ?_
  intro w tape i _ hsh _ hok hpre _
  obtain ⟨_, _, _, fn', hfn', _, _, _, _, hval⟩ := hok
  obtain rfl : fn' = fn := Option.some.inj (hfn'.symm.trans hfn)
  obtain ⟨⟨⟨ds, gs, before, hw, hc⟩, hx⟩, hz⟩ := hpre
  refine (contract (w.forCall tape i) w.heap.size i.args ds gs before hval (DataW.Whole.of_heap (w' := w.forCall tape i) (by rfl) hw) hc (hz.weights hw) (hX _ _ _ (by rfl) hx) hsh).mono fun e W' ⟨v, he, hp⟩ => ?_
  subst he
  exact ChangeSpec.post_blind hp
/-- The witness of a row with listed variables, in whatever form. -/
theorem rowWitness {H : Type} {enc : TypeId × Value → H} {C : Checked} {os : Os} {f : FuncId} {fn : Func} {s : OpenSpec} {conds : List PathCond} {apart : Bool} {laid : List (String × DataW Unit)} (w0 : World) (args : Array Value) (hos : w0.os = os)
    (hsh : (w0.forCall (fun _ _ => 0) ⟨#[], args, []⟩).Shaped C.prog) (hok : Input.okWideB C.prog (w0.forCall (fun _ _ => 0) ⟨#[], args, []⟩) f ⟨#[], args, []⟩ = true)
    (hrow : s.preRow enc C.prog fn conds apart laid (w0.forCall (fun _ _ => 0) ⟨#[], args, []⟩).memory args) :
    ∃ (w : World) (tape : Tape) (i : Input), w.os = os ∧ (w.forCall tape i).Shaped C.prog ∧ i.vars = [] ∧ Input.okWide C.prog (w.forCall tape i) .any w.heap.size f i ∧
      s.preRow enc C.prog fn conds apart laid (w.forCall tape i).memory i.args ∧ ({} : Assume).holds C.prog (lone (Frame.enter C.prog f i.args .normal) [] (w.forCall tape i)) :=
  ⟨w0, fun _ _ => 0, ⟨#[], args, []⟩, hos, hsh, (Input.okWide_of_okWideB (base := 0) hok).1, (Input.okWide_of_okWideB hok).2, hrow, by
    simp only [Assume.holds]
    exact ⟨by simp, by simp, fun _ => Modest.zero, by simp, by simp⟩⟩
end Go.Proofs.YtelhgjepjieocaaDoor

/- JsonSpace answers true and leaves its arguments as they were, for every text and every pad, where the library's variables that it reads are as the program's own text lays them (the card ties that): space around a value changes nothing, and a list of one text's value, or an object with it, holds just that value, if neither the text nor the depth grows too great. -/
namespace Go.Proofs.YtelhgjepjieocaaDoor
open Go.ChangeShapes Go.WideShapes Go.ChangeAt Go.RowKit
open Go.Deep
open Go.ChangeMaps (open_string shut_string)
set_option linter.unusedVariables false

namespace PJxSpace
theorem cells_u8S : Tryd.prog.cellsOf 5 = 1 := by kernel_rfl
theorem bytes_u8S : Tryd.prog.bytesOf 5 = 1 := by kernel_rfl
theorem u8_ofS {n : Int} (h : (Lit.int .u8 n).wf = true) : ∃ c : UInt8, n = (c.toNat : Int) := ⟨UInt8.ofNat n.toNat, by
  have h1 : IntKind.u8.min = 0 := rfl
  have h2 : IntKind.u8.max = 255 := rfl
  simp only [Lit.wf, Bool.and_eq_true, decide_eq_true_eq, h1, h2] at h
  rw [UInt8.toNat_ofNat']; omega⟩
set_option maxRecDepth 100000 in
theorem open_u8s {H : Type} {enc : TypeId × Value → H} {W : World} {fuel : Nat} {ao : Option Addr} {len cap : Nat} {x : DataW H × List MemPlace}
    (h : DataW.trod enc Tryd.prog W 0 (fun _ => true) true fuel 41 [.slice ao len cap] = some x) (hw : ∀ n ∈ x.1.weights Tryd.prog 41, n ≤ reachBytes) :
    ∃ (ps : List UInt8), ps.length = len ∧ VAt W ao (ps.map u8V) ∧ len ≤ 140737488351232 := by
  rcases open_slice Tryd.underlying41 h with ⟨hc, hx⟩ | ⟨a, len', cap', m, n, D, Pl, hc, hb, hl, hm, hmm, hx, hel⟩
  · simp at hc
    obtain ⟨rfl, rfl, rfl⟩ := hc
    exact ⟨[], rfl, VAt.nil _ _, by omega⟩
  · simp at hc
    obtain ⟨rfl, rfl, rfl⟩ := hc
    simp only [if_true] at hmm
    subst hmm
    rw [cells_u8S] at hel
    have each : ∀ i, i < len → ∃ p : UInt8, W.cell? (a.add i) = some (.int .u8 (p.toNat : Int)) := by
      intro i hi
      obtain ⟨cs', h1, h2⟩ := hel i (by omega)
      obtain ⟨_, hlen, hcell⟩ := World.cells?_some h1
      match cs', hlen with
      | [v0], _ =>
        obtain ⟨s1, q1, r1, w1⟩ := DataW.trod_int Tryd.underlying5 h2
        have e0 := hcell 0 (by omega)
        rw [add_add] at e0
        obtain ⟨c, rfl⟩ := u8_ofS w1
        simp at q1
        subst q1
        exact ⟨c, by simpa using e0⟩
    have hlen9 : len ≤ 140737488351232 := by
      rw [hx] at hw
      simp only [DataW.weights, Tryd.underlying41, bytes_u8S] at hw
      have := hw _ (List.mem_cons_self ..)
      simp only [List.length_map, List.length_range, reachBytes] at this
      omega
    obtain ⟨f, hf⟩ : ∃ f : Nat → UInt8, ∀ i, i < len → _ := @choose_lt UInt8 ⟨0⟩ len _ each
    refine ⟨(List.range len).map f, by simp, fun i hi => ?_, hlen9⟩
    have hi' : i < len := by simpa using hi
    have c0 := hf i hi'
    obtain ⟨b, off, spot⟩ := a
    have hspot : spot = none := by simpa [Addr.add] using World.cell?_spot (hf 0 (by omega))
    subst hspot
    refine ⟨b, off, rfl, ?_⟩
    rw [← addr_add]
    simpa [u8V] using c0
theorem laidOut : laidOutB Tryd.prog = true := by kernel_rfl
theorem own : ownKnob Tryd.prog.godebug = none := by kernel_rfl
abbrev laidL : List (String × DataW Unit) := Rows.jsonSpaceRow.laid

set_option maxRecDepth 100000 in
theorem lifted (os : Os) (started : os.Started) (H : Type) (enc : TypeId × Value → H) :
    ReturnsInHanded {} Tryd.checked os 6 .any (fun w args => (Rows.jsonSpaceSpec.pre enc Tryd.prog Tryd.f6 Rows.jsonSpaceRow.domain false w args ∧ laidMetH Tryd.prog laidL w) ∧ sizedMet enc Tryd.prog Tryd.f6 (OpenSpec.ofChange Rows.jsonSpaceSpec) false w args)
      (Rows.jsonSpaceSpec.post enc Tryd.prog Tryd.f6 false true false false) := by
  refine returnsLaidShaped (C := Tryd.checked) (X := fun w _ => laidMetH Tryd.prog laidL w) (fun _ _ _ hh h => h.of_heap hh) own started (by kernel_rfl) Tryd.func6
    (ChangeSpec.witness_shaped (enc := enc) (C := Tryd.checked) (os := os) (X := fun w _ => laidMetH Tryd.prog laidL w) false (World.laidAll Tryd.prog os laidL) #[.string ⟨#[]⟩, .slice none 0 0] 8 (World.laidAll_os _ _ _)
      (World.shaped_of_ZipB (by kernel_rfl) (by kernel_rfl)) (by kernel_rfl) (by kernel_rfl) (by kernel_rfl)
      (by rw [MakeChecks.laidMetH_plain _ _ _ (by kernel_rfl)]; exact laidMet_laidAll _ (by kernel_rfl) (by kernel_rfl))) ?_
  intro W base args ds gs before hval0 hW hc hsz0 hL hsh
  have hszw : (DataW.weightsEach Tryd.prog (Tryd.f6.params.toList ++ Rows.jsonSpaceSpec.plain.varTypes Tryd.prog) (ds ++ gs)).all (· ≤ reachBytes) = true := hsz0
  have hW' := hW
  obtain ⟨p, q, hA0, hV, rfl, _, _⟩ := hW
  have hA : DataW.TrodAll enc Tryd.prog W 0 (fun _ => true) true Tryd.f6.params.toList args.toList ds p := hA0
  have hval : ∀ (j : Nat) t v, Tryd.f6.params[j]? = some t → args[j]? = some v → Value.okWide Tryd.prog W .any base t v := hval0
  rw [Tryd.params6] at hA hval
  obtain ⟨v0, v1, d0, d1, p0, p1, rfl, rfl, rfl, h0, h1⟩ := trodAll_two hA
  obtain ⟨rfl, rfl⟩ := trodVars_none hV
  obtain ⟨text, rfl, rfl, rfl, hts⟩ := open_string Tryd.underlying9 (hval 0 9 v0 rfl rfl) h0
  obtain ⟨pa, pl, pc, rfl⟩ := okWide_slice Tryd.underlying41 (hval 1 41 v1 rfl rfl)
  have k1 := h1
  obtain ⟨fu1, e1⟩ := h1
  have hk : Vs W := vs_of (by kernel_rfl) (.tail _ (.tail _ (.head _))) (.tail _ (.tail _ (.tail _ (.tail _ (.head _))))) (.tail _ (.tail _ (.tail _ (.head _)))) hL
  have hsz : text.size ≤ 140737488351232 := by
    have := sized_string hszw (j := 0) (t := 9) rfl rfl
    simpa [reachBytes] using this
  obtain ⟨ps, hpl, hpa, hpz⟩ := open_u8s (by simpa [Value.cells] using e1) (fun n hn => of_decide_eq_true (List.all_eq_true.1 hszw _ (DataW.weights_mem_each (j := 1) rfl rfl n hn)))
  clear hA0 hval hval0 hsz0 hszw
  simp only [List.append_nil] at hW'
  have hlt : ∀ x, x ∈ p1 → x.block < W.heap.size := fun x hx => hW'.lt x (by simp [hx])
  refine (jsonSpace_calls text ps pl pc pa W hsz hpl (by omega) hpa hk).mono fun e W' ⟨he, hg⟩ => ?_
  subst he
  exact ⟨_, rfl, _, _, _, [], _, [], hW', trodAll_mk1 (shut_bool Tryd.underlying4 _), trodAll_mk2 (shut_string Tryd.underlying9 hts) (Below.trod laidOut (by kernel_rfl) (of_decide_eq_true (by kernel_rfl)) k1 hg hlt), rfl, hg.frame _, fun h => by cases h⟩
end PJxSpace

theorem jsonSpace_said : Rows.JsonSpaceSaid :=
  OpenClaim.holds_of_wide 6 Tryd.f6 rfl rfl rfl rfl rfl rfl rfl ⟨rfl, rfl, rfl, rfl, rfl⟩ rfl rfl rfl rfl rfl (by kernel_rfl) Tryd.func6 (by kernel_rfl)
    (of_decide_eq_true (by kernel_rfl)) (by unfold Func.isWrapper; first | (rw [if_pos (by decide +kernel)]; kernel_rfl) | (rw [if_neg (by decide +kernel)]; exact ⟨rfl, rfl⟩))
    (fun os started H enc _ => PJxSpace.lifted os started H enc)

theorem jsonSpace_holds : Rows.JsonSpaceCardSaid :=
  Claim7.holds_tied_plain_at .later [] [.data, .data, .data, .sentinel, .sentinel] true Rows.jsonSpaceCard.stood.harness true jsonSpace_said (fun _ h => by cases h) (by kernel_rfl) (fun _ h => by cases h) jsonSpace_row_tie rfl ⟨rfl, rfl⟩ (by kernel_rfl) rfl
    (fun f fn hf hfn => by
      obtain rfl : f = 6 := Option.some.inj (Eq.trans hf.symm (by kernel_rfl))
      obtain rfl : fn = Tryd.f6 := (Option.some.inj (Tryd.func6.symm.trans hfn)).symm
      exact ⟨by kernel_rfl, fun j t ht => by
        rw [Tryd.params6] at ht
        have hm := Array.mem_of_getElem? ht
        simp at hm
        rcases hm with rfl | rfl
        · exact (show Tryd.prog.wantsStandIn 9 = false by kernel_rfl)
        · exact (show Tryd.prog.wantsStandIn 41 = false by kernel_rfl)⟩)
    (by kernel_rfl)
#print axioms jsonSpace_holds
end Go.Proofs.YtelhgjepjieocaaDoor
