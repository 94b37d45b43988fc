import Derived.Test.YtdomajhffmfbbaaGreatDoorRcArgs
import Derived.Test.YtdomajhffmfbbaaGreatDoorRcOpL
import Derived.Test.YtdomajhffmfbbaaGreatDoorRcOctet
import Derived.Lay
import Derived.Lib.LaidTab
import Derived.MakeChecks
import Derived.Test.YtdomajhffmfbbaaGreatDoorRows
import Derived.ProofKit
import Derived.OpenShut
import Derived.LaidMore
import Derived.SevenTiedAt
import Derived.Stop.Joined
import Derived.HandedShaped
import Derived.Shelf.Vars
import Derived.Deep.DeepHandedRow
/- Layer 9 (records): an argument of type api.Op, opened. -/
namespace Go.Proofs.YtdomajhffmfbbaaGreatDoor
open Go.RowKit Go.Deep Go.ChangeShapes Go.WideShapes
set_option linter.unusedVariables false

theorem cells_op : Tryz.prog.cellsOf 48 = 21 := by kernel_rfl
theorem cells_bool : Tryz.prog.cellsOf 4 = 1 := by kernel_rfl
set_option maxRecDepth 100000 in
set_option maxHeartbeats 1000000 in
theorem open_op {H : Type} {enc : TypeId × Value → H} {W : World} {fuel : Nat} {cs : Array Value} {x : DataW H × List MemPlace} (hz : cs.size = 21)
    (h : DataW.trod enc Tryz.prog W 0 (fun _ => true) true fuel 48 cs.toList = some x) :
    ∃ (o : Opp) (ta : Option Addr) (tc : Nat) (dt : DataW H), cs = o.v (.slice ta o.svc.tags.length tc) ∧ TextsData o.svc.tags dt ∧ CellsAt W ta (o.svc.tags.map Value.string) ∧ x.1 = .agg [.lit (.int .i64 o.kind), .agg [txData o.node.name, txData o.node.addr, .lit (.int .u64 o.node.made), .lit (.int .u64 o.node.changed)],
      .agg [txData o.svc.node, txData o.svc.id, txData o.svc.name, .lit (.int .i64 o.svc.port), dt, .lit (.int .u64 o.svc.made), .lit (.int .u64 o.svc.changed)], .agg [txData o.chk.node, txData o.chk.id, txData o.chk.service, .lit (.int .i64 o.chk.status), txData o.chk.note, .lit (.int .u64 o.chk.made), .lit (.int .u64 o.chk.changed)], .lit (.bool o.cas), .lit (.int .u64 o.want)] := by
  obtain ⟨c0, c1, c2, c3, c4, c5, c6, c7, c8, c9, c10, c11, c12, c13, c14, c15, c16, c17, c18, c19, c20, rfl⟩ : ∃ c0 c1 c2 c3 c4 c5 c6 c7 c8 c9 c10 c11 c12 c13 c14 c15 c16 c17 c18 c19 c20, cs = #[c0, c1, c2, c3, c4, c5, c6, c7, c8, c9, c10, c11, c12, c13, c14, c15, c16, c17, c18, c19, c20] := by
    match cs, hz with
    | ⟨[c0, c1, c2, c3, c4, c5, c6, c7, c8, c9, c10, c11, c12, c13, c14, c15, c16, c17, c18, c19, c20]⟩, _ => exact ⟨c0, c1, c2, c3, c4, c5, c6, c7, c8, c9, c10, c11, c12, c13, c14, c15, c16, c17, c18, c19, c20, rfl⟩
  obtain ⟨xs, k, hk, hxy, _, hxl, hf⟩ := DataW.trod_struct Tryz.underlying48 h
  match xs, hxl with
  | [y0, y1, y2, y3, y4, y5], _ =>
    have g0 := hf 0 _ rfl
    have g1 := hf 1 _ rfl
    have g2 := hf 2 _ rfl
    have g3 := hf 3 _ rfl
    have g4 := hf 4 _ rfl
    have g5 := hf 5 _ rfl
    simp [cells_node, cells_svc, cells_chk, cells_bool, cells_i, cells_u] at g0 g1 g2 g3 g4 g5
    obtain ⟨n0, q0, r0, _⟩ := DataW.trod_int Tryz.underlying3 g0
    obtain ⟨b4, q4, r4⟩ := DataW.trod_bool Tryz.underlying4 g4
    obtain ⟨n5, q5, r5, _⟩ := DataW.trod_int Tryz.underlying22 g5
    obtain ⟨n, e1, r1⟩ := open_node (cs := #[c1, c2, c3, c4]) rfl g1
    obtain ⟨s, ta, tc, dt, e2, hd, hc, r2⟩ := open_svc (cs := #[c5, c6, c7, c8, c9, c10, c11]) rfl g2
    obtain ⟨c, e3, r3⟩ := open_chk (cs := #[c12, c13, c14, c15, c16, c17, c18]) rfl g3
    simp [Nd.v] at e1
    simp [Sp.v] at e2
    simp [Ck.v] at e3
    obtain ⟨rfl, rfl, rfl, rfl⟩ := e1
    obtain ⟨rfl, rfl, rfl, rfl, rfl, rfl, rfl⟩ := e2
    obtain ⟨rfl, rfl, rfl, rfl, rfl, rfl, rfl⟩ := e3
    simp at q0 q4 q5
    subst q0 q4 q5
    refine ⟨⟨n0, n, s, c, b4, n5⟩, ta, tc, dt, rfl, hd, hc, ?_⟩
    rw [hxy]
    simp only [List.map_cons, List.map_nil, r0, r1, r2, r3, r4, r5]
end Go.Proofs.YtdomajhffmfbbaaGreatDoor

/- What the listed variables read as, one by one. -/
namespace Go.Proofs.YtdomajhffmfbbaaGreatDoor
open Go.RowKit
set_option linter.unusedVariables false

theorem laid_entry {P : Program} {W : World} : ∀ {laid : List (String × DataW Unit)} {ps : List MemPlace}, DataW.LaidVars P W laid ps → ∀ {n : String} {d : DataW Unit}, (n, d) ∈ laid →
    ∃ g t cs fuel q, P.globalNamed n = some g ∧ (P.globals[g]?).map (·.type) = some t ∧ W.var? P n = some cs ∧ DataW.trod (fun _ => ()) P W 0 (fun _ => true) false fuel t cs.toList = some (d, q) := by
  intro laid
  induction laid with
  | nil => intro ps _ n d hm; simp at hm
  | cons x laid ih =>
    intro ps h n d hm
    obtain ⟨g, t, cs, fuel, p, q, hg, ht, hv, hd, hr, _⟩ := h
    rcases List.mem_cons.1 hm with rfl | hm
    · exact ⟨g, t, cs, fuel, p, hg, ht, hv, hd⟩
    · exact ih hr hm
set_option maxRecDepth 100000 in
theorem pow_of {W : World} {t : TypeId} {cs : Array Value} {fuel : Nat} {q : List MemPlace} (ht : t = 139) (hv : W.var? Tryz.prog "internal/strconv.uint64pow10" = some cs) (hd : DataW.trod (fun _ => ()) Tryz.prog W 0 (fun _ => true) false fuel t cs.toList = some (Lib.tabData .u64 Lib.pow10Tab, q)) : Lib.TabIs Tryz.prog W "internal/strconv.uint64pow10" .u64 Lib.pow10Tab := by
  subst ht
  unfold Lib.TabIs
  rw [hv, ← Lib.cells_of_tab Tryz.underlying139 Tryz.underlying22 (by kernel_rfl) (by kernel_rfl) hd]
set_option maxRecDepth 100000 in
theorem err_of {W : World} {n : String} {t : TypeId} {cs : Array Value} {fuel : Nat} {q : List MemPlace} {nm : String} {d : DataW Unit} (ht : t = 92) (hv : W.var? Tryz.prog n = some cs) (hd : DataW.trod (fun _ => ()) Tryz.prog W 0 (fun _ => true) false fuel t cs.toList = some (.iface nm d, q)) : ∃ t p, W.var? Tryz.prog n = some #[.iface t p] := by
  subst ht
  obtain ⟨_, u, v, hcs, _, _⟩ := iface_of_trod Tryz.underlying92 hd
  exact ⟨u, v, by rw [hv]; congr 1; exact Array.toList_inj.1 hcs⟩
set_option maxRecDepth 100000 in
theorem vs_of {W : World} {laid : List (String × DataW Unit)} (hp : (laid.all fun x => x.2.handleName?.isNone) = true) {nm1 nm2 : String} {d1 d2 : DataW Unit}
    (h1 : ("internal/strconv.uint64pow10", Lib.tabData .u64 Lib.pow10Tab) ∈ laid) (h2 : ("strconv.ErrSyntax", .iface nm1 d1) ∈ laid) (h3 : ("strconv.ErrRange", .iface nm2 d2) ∈ laid) (h : laidMetH Tryz.prog laid W) : Vs W := by
  rw [MakeChecks.laidMetH_plain _ _ _ hp] at h
  obtain ⟨ps, hl, _⟩ := h
  obtain ⟨g1, t1, c1, f1, q1, hg1, ht1, hv1, hd1⟩ := laid_entry hl h1
  obtain ⟨g2, t2, c2, f2, q2, hg2, ht2, hv2, hd2⟩ := laid_entry hl h2
  obtain ⟨g3, t3, c3, f3, q3, hg3, ht3, hv3, hd3⟩ := laid_entry hl h3
  have ty : ∀ {n : String} {g : Nat} {t t' : TypeId}, Tryz.prog.globalNamed n = some g → (Tryz.prog.globals[g]?).map (·.type) = some t → ((Tryz.prog.globalNamed n).bind fun g => (Tryz.prog.globals[g]?).map (·.type)) = some t' → t = t' := fun ha hb hc => by
    rw [ha, Option.bind_some, hb] at hc
    exact Option.some.inj hc
  exact ⟨pow_of (ty hg1 ht1 (by kernel_rfl)) hv1 hd1, err_of (ty hg2 ht2 (by kernel_rfl)) hv2 hd2, err_of (ty hg3 ht3 (by kernel_rfl)) hv3 hd3⟩
end Go.Proofs.YtdomajhffmfbbaaGreatDoor

/- A row with listed variables, whose walk is told of them and of the memory's shape. -/
namespace Go.Proofs.YtdomajhffmfbbaaGreatDoor
open Go.ChangeShapes Go.WideShapes Go.ChangeAt Go.RowKit
set_option linter.unusedVariables false

/-- The listed variables' condition and the memory's shape, both handed to the walk. -/
theorem returnsLaidShaped {H : Type} {enc : TypeId × Value → H} {a : Assume} {C : Checked} {os : Os} {f : FuncId} {fn : Func} {s : ChangeSpec} {conds : List PathCond} {apart fresh handsOn again : Bool} {X : World → Array Value → Prop}
    (hX : ∀ (w w' : World) (args : Array Value), w.heap = w'.heap → X w args → X w' args)
    (own : ownKnob C.prog.godebug = none) (started : os.Started) (noInit : C.prog.inits.idxOf? f = none) (hfn : C.prog.funcs[f]? = some fn)
    (witness : ∃ (w : World) (tape : Tape) (i : Input), w.os = os ∧ (w.forCall tape i).Shaped C.prog ∧ i.vars = [] ∧ Input.okWide C.prog (w.forCall tape i) .any w.heap.size f i ∧
      ((s.pre enc C.prog fn conds apart (w.forCall tape i).memory i.args ∧ X (w.forCall tape i).memory i.args) ∧ sizedMet enc C.prog fn (OpenSpec.ofChange s) apart (w.forCall tape i).memory i.args) ∧ a.holds C.prog (lone (Frame.enter C.prog f i.args .normal) [] (w.forCall tape i)))
    (contract : ∀ (W : World) (base : Nat) (args : Array Value) (ds gs : List (DataW H)) (before : List MemPlace),
      (∀ (j : Nat) t v, fn.params[j]? = some t → args[j]? = some v → Value.okWide C.prog W .any base t v) →
      DataW.Whole enc C.prog fn.params.toList s.vars apart W args.toList ds gs before →
      conds.all (PathCond.test C.prog ⟨fn.params.toList, ds, s.plain.varTypes C.prog, gs⟩) = true →
      (DataW.weightsEach C.prog (fn.params.toList ++ s.plain.varTypes C.prog) (ds ++ gs)).all (· ≤ reachBytes) = true → X W args → W.ShapedOpen C.prog →
      Calls C.prog f args W fun e W' => ∃ v, e = .returned v ∧ s.post enc C.prog fn apart fresh handsOn again W args v W') :
    ReturnsInHanded a C os f .any (fun w args => (s.pre enc C.prog fn conds apart w args ∧ X w args) ∧ sizedMet enc C.prog fn (OpenSpec.ofChange s) apart w args) (s.post enc C.prog fn apart fresh handsOn again) := by
  refine returnsInHanded_of_calls own started noInit witness ?_
  intro w tape i _ hsh _ hok hpre _
  obtain ⟨_, _, _, fn', hfn', _, _, _, _, hval⟩ := hok
  obtain rfl : fn' = fn := Option.some.inj (hfn'.symm.trans hfn)
  obtain ⟨⟨⟨ds, gs, before, hw, hc⟩, hx⟩, hz⟩ := hpre
  refine (contract (w.forCall tape i) w.heap.size i.args ds gs before hval (DataW.Whole.of_heap (w' := w.forCall tape i) (by rfl) hw) hc (hz.weights hw) (hX _ _ _ (by rfl) hx) hsh).mono fun e W' ⟨v, he, hp⟩ => ?_
  subst he
  exact ChangeSpec.post_blind hp
/-- The witness of a row with listed variables, in whatever form. -/
theorem rowWitness {H : Type} {enc : TypeId × Value → H} {C : Checked} {os : Os} {f : FuncId} {fn : Func} {s : OpenSpec} {conds : List PathCond} {apart : Bool} {laid : List (String × DataW Unit)} (w0 : World) (args : Array Value) (hos : w0.os = os)
    (hsh : (w0.forCall (fun _ _ => 0) ⟨#[], args, []⟩).Shaped C.prog) (hok : Input.okWideB C.prog (w0.forCall (fun _ _ => 0) ⟨#[], args, []⟩) f ⟨#[], args, []⟩ = true)
    (hrow : s.preRow enc C.prog fn conds apart laid (w0.forCall (fun _ _ => 0) ⟨#[], args, []⟩).memory args) :
    ∃ (w : World) (tape : Tape) (i : Input), w.os = os ∧ (w.forCall tape i).Shaped C.prog ∧ i.vars = [] ∧ Input.okWide C.prog (w.forCall tape i) .any w.heap.size f i ∧
      s.preRow enc C.prog fn conds apart laid (w.forCall tape i).memory i.args ∧ ({} : Assume).holds C.prog (lone (Frame.enter C.prog f i.args .normal) [] (w.forCall tape i)) :=
  ⟨w0, fun _ _ => 0, ⟨#[], args, []⟩, hos, hsh, (Input.okWide_of_okWideB (base := 0) hok).1, (Input.okWide_of_okWideB hok).2, hrow, by
    simp only [Assume.holds]
    exact ⟨by simp, by simp, fun _ => Modest.zero, by simp, by simp⟩⟩
end Go.Proofs.YtdomajhffmfbbaaGreatDoor
