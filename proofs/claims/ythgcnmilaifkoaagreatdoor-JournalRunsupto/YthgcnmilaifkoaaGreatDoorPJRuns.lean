import Derived.Test.YthgcnmilaifkoaaGreatDoorJArgE
import Derived.Test.YthgcnmilaifkoaaGreatDoorJRn8
import Derived.Test.YthgcnmilaifkoaaGreatDoorRcAddr
import Derived.Lay
import Derived.Lib.LaidTab
import Derived.MakeChecks
import Derived.Test.YthgcnmilaifkoaaGreatDoorRows
import Derived.ProofKit
import Derived.OpenShut
import Derived.LaidMore
import Derived.SevenTiedAt
import Derived.Stop.Joined
import Derived.HandedShaped
import Derived.Shelf.Vars
import Derived.Deep.DeepHandedRow
import Derived.Test.YthgcnmilaifkoaaGreatDoorTie
import Derived.Test.YthgcnmilaifkoaaGreatDoorCards
import Derived.Test.YthgcnmilaifkoaaGreatDoorJRn9
/- Layer 13 (journal): an argument of type []musterlaw13.Op, opened. -/
namespace Go.Proofs.YthgcnmilaifkoaaGreatDoor
open Go.RowKit Go.Deep Go.ChangeShapes Go.WideShapes
set_option linter.unusedVariables false

/-- What an entry's operations read as. -/
def EvData {H : Type} (l : List OV) (d : DataW H) : Prop := ∃ (D : Nat → DataW H) (spare : List (DataW H)), d = .nil ∧ l = [] ∨ d = .slice ((List.range l.length).map D) spare ∧ ∀ i (h : i < l.length), OpData l[i].o (D i)
def SvData {H : Type} (x : SV) (d : DataW H) : Prop := ∃ de, EvData x.e.l de ∧ d = .agg [.lit (.int .i64 x.kind), .agg [.lit (.int .u64 x.e.i), de], .lit (.int .u64 x.ix)]
structure SvIn (W : World) (x : SV) : Prop where
 ops : OpsAt W x.e.a x.e.l
 rng : ∀ y ∈ x.e.l, y.o.rng
 i0 : 0 ≤ x.e.i
 i1 : x.e.i ≤ 18446744073709551615
 x0 : 0 ≤ x.ix
 x1 : x.ix ≤ 18446744073709551615
theorem cells_scr : Tryz.prog.cellsOf 33 = 4 := by kernel_rfl
theorem cells_int1 : Tryz.prog.cellsOf 3 = 1 := by kernel_rfl
set_option maxRecDepth 100000 in
theorem open_sv {H : Type} {enc : TypeId × Value → H} {W : World} {fuel : Nat} {cs : List Value} {x : DataW H × List MemPlace} (hz : cs.length = 4)
  (h : DataW.trod enc Tryz.prog W 0 (fun _ => true) true fuel 33 cs = some x) : ∃ y : SV, cs = y.cs ∧ SvData y x.1 ∧ SvIn W y := by
 obtain ⟨c0, c1, c2, c3, rfl⟩ : ∃ c0 c1 c2 c3, cs = [c0, c1, c2, c3] := by
  match cs, hz with
  | [c0, c1, c2, c3], _ => exact ⟨c0, c1, c2, c3, rfl⟩
 obtain ⟨xs, k, hk, hxy, _, hxl, hf⟩ := DataW.trod_struct Tryz.underlying33 h
 match xs, hxl with
 | [y0, y1, y2], _ =>
  have g0 := hf 0 _ rfl
  have g1 := hf 1 _ rfl
  have g2 := hf 2 _ rfl
  simp [cells_int1, cells_ent, cells_u] at g0 g1 g2
  obtain ⟨n0, q0, r0, w0⟩ := DataW.trod_int Tryz.underlying3 g0
  obtain ⟨n2, q2, r2, w2⟩ := DataW.trod_int Tryz.underlying22 g2
  obtain ⟨i, ao, c, l, D, sp, d, e1, hi, hd, hat, hr, hd1⟩ := open_ent (cs := #[c1, c2]) rfl (by simpa using g1)
  simp at q0 q2 e1
  obtain ⟨rfl, rfl⟩ := e1
  subst q0 q2
  refine ⟨⟨n0, ⟨i, ao, c, l⟩, n2⟩, rfl, ⟨d, ⟨D, sp, hd⟩, ?_⟩, ⟨hat, hr, hi.1, hi.2, (u64_wf w2).1, (u64_wf w2).2⟩⟩
  rw [hxy]
  simp only [List.map_cons, List.map_nil, r0, r2, hd1]
set_option maxRecDepth 100000 in
theorem open_script {H : Type} {enc : TypeId × Value → H} {W : World} {fuel : Nat} {ao : Option Addr} {len cap : Nat} {x : DataW H × List MemPlace}
  (h : DataW.trod enc Tryz.prog W 0 (fun _ => true) true fuel 23 [.slice ao len cap] = some x) :
  ∃ (ss : List SV) (D : Nat → DataW H) (spare : List (DataW H)), ss.length = len ∧ (x.1 = .nil ∧ ss = [] ∨ x.1 = .slice ((List.range ss.length).map D) spare ∧ ∀ i (h : i < ss.length), SvData ss[i] (D i)) ∧ ScAt W ao ss ∧ ∀ x ∈ ss, SvIn W x := by
 rcases open_slice Tryz.underlying23 h with ⟨hc, hx⟩ | ⟨a, len', cap', m, n, D, Pl, hc, hb, hl, hm, hmm, hx, hel⟩
 ·simp at hc
  obtain ⟨rfl, rfl, rfl⟩ := hc
  exact ⟨[], fun _ => .nil, [], rfl, .inl ⟨by rw [hx], rfl⟩, ⟨fun h => absurd rfl h, fun c hc => by cases hc⟩, fun c hc => by cases hc⟩
 ·simp at hc
  obtain ⟨rfl, rfl, rfl⟩ := hc
  simp only [if_true] at hmm
  subst hmm
  rw [cells_scr] at hel
  have each : ∀ i, i < len → ∃ y : SV, SvData y (D i) ∧ (∀ j, j < 4 → W.cell? (a.add (i * 4 + j)) = y.cs[j]?) ∧ SvIn W y := by
   intro i hi
   obtain ⟨cs', h1, h2⟩ := hel i (by omega)
   obtain ⟨_, hlen, hcell⟩ := World.cells?_some h1
   obtain ⟨y, e1, hd, hin⟩ := open_sv hlen h2
   refine ⟨y, hd, fun j hj => ?_, hin⟩
   have := hcell j (by omega)
   rw [add_add] at this
   rw [this, e1]
  obtain ⟨f, hf⟩ : ∃ f : Nat → SV, ∀ i, i < len → _ := @choose_lt SV ⟨⟨0, ⟨0, none, 0, []⟩, 0⟩⟩ len _ each
  have hlen : ((List.range len).map f).length = len := by simp
  refine ⟨(List.range len).map f, D, (List.range (m - len)).map fun j => D (len + j), hlen, .inr ⟨?_, fun i hi => ?_⟩, ⟨fun hne => ?_, fun c hc => ?_⟩, fun c hc => ?_⟩
  ·rw [hx, hlen]
  ·have hi' : i < len := by simpa using hi
   have := (hf i hi').1
   simpa using this
  ·have h0 : 0 < len := by
    rcases Nat.eq_zero_or_pos len with h | h
    ·subst h; exact absurd rfl hne
    ·exact h
   obtain ⟨b, off, spot⟩ := a
   have hspot : spot = none := by
    have := (hf 0 h0).2.1 0 (by decide)
    have h2 : (f 0).cs[0]? = some (.int .i64 (f 0).kind) := rfl
    rw [h2] at this
    simpa [Addr.add] using World.cell?_spot this
   subst hspot
   refine ⟨b, off, rfl, fun j u hj => ?_⟩
   have hjl : j < len * 4 := by
    have := (List.getElem?_eq_some_iff.1 hj).1
    have h9 : (scs ((List.range len).map f)).length = ((List.range len).map f).length * 4 := flat_length _ 4 (fun _ => rfl) _
    rw [h9, hlen] at this
    exact this
   have hi : j / 4 < len := by omega
   have hg : ((List.range len).map f)[j / 4]? = some (f (j / 4)) := by simp [hi]
   have hfa := flat_at (fun c : SV => c.cs) 4 (fun _ => rfl) ((List.range len).map f) (j / 4) (j % 4) _ hg (by omega)
   have hjj : j / 4 * 4 + j % 4 = j := by omega
   rw [hjj] at hfa
   have hj2 : (f (j / 4)).cs[j % 4]? = some u := by rw [← hfa]; exact hj
   have := (hf _ hi).2.1 (j % 4) (by omega)
   rw [hj2, hjj, add_plain] at this
   exact this
  ·obtain ⟨i, hi, rfl⟩ := List.mem_map.1 hc
   exact (hf i (List.mem_range.1 hi)).2.2.ops
  ·obtain ⟨i, hi, rfl⟩ := List.mem_map.1 hc
   exact (hf i (List.mem_range.1 hi)).2.2
end Go.Proofs.YthgcnmilaifkoaaGreatDoor

/- What the listed variables read as, one by one. -/
namespace Go.Proofs.YthgcnmilaifkoaaGreatDoor
open Go.RowKit
set_option linter.unusedVariables false

theorem laid_entry {P : Program} {W : World} : ∀ {laid : List (String × DataW Unit)} {ps : List MemPlace}, DataW.LaidVars P W laid ps → ∀ {n : String} {d : DataW Unit}, (n, d) ∈ laid →
  ∃ g t cs fuel q, P.globalNamed n = some g ∧ (P.globals[g]?).map (·.type) = some t ∧ W.var? P n = some cs ∧ DataW.trod (fun _ => ()) P W 0 (fun _ => true) false fuel t cs.toList = some (d, q) := by
 intro laid
 induction laid with
 | nil => intro ps _ n d hm; simp at hm
 | cons x laid ih =>
  intro ps h n d hm
  obtain ⟨g, t, cs, fuel, p, q, hg, ht, hv, hd, hr, _⟩ := h
  rcases List.mem_cons.1 hm with rfl | hm
  ·exact ⟨g, t, cs, fuel, p, hg, ht, hv, hd⟩
  ·exact ih hr hm
set_option maxRecDepth 100000 in
theorem pow_of {W : World} {t : TypeId} {cs : Array Value} {fuel : Nat} {q : List MemPlace} (ht : t = 198) (hv : W.var? Tryz.prog "internal/strconv.uint64pow10" = some cs) (hd : DataW.trod (fun _ => ()) Tryz.prog W 0 (fun _ => true) false fuel t cs.toList = some (Lib.tabData .u64 Lib.pow10Tab, q)) : Lib.TabIs Tryz.prog W "internal/strconv.uint64pow10" .u64 Lib.pow10Tab := by
 subst ht
 unfold Lib.TabIs
 rw [hv, ← Lib.cells_of_tab Tryz.underlying198 Tryz.underlying22 (by kernel_rfl) (by kernel_rfl) hd]
set_option maxRecDepth 100000 in
theorem err_of {W : World} {n : String} {t : TypeId} {cs : Array Value} {fuel : Nat} {q : List MemPlace} {nm : String} {d : DataW Unit} (ht : t = 154) (hv : W.var? Tryz.prog n = some cs) (hd : DataW.trod (fun _ => ()) Tryz.prog W 0 (fun _ => true) false fuel t cs.toList = some (.iface nm d, q)) : ∃ t p, W.var? Tryz.prog n = some #[.iface t p] := by
 subst ht
 obtain ⟨_, u, v, hcs, _, _⟩ := iface_of_trod Tryz.underlying154 hd
 exact ⟨u, v, by rw [hv]; congr 1; exact Array.toList_inj.1 hcs⟩
set_option maxRecDepth 100000 in
theorem vs_of {W : World} {laid : List (String × DataW Unit)} (hp : (laid.all fun x => x.2.handleName?.isNone) = true) {nm1 nm2 : String} {d1 d2 : DataW Unit}
  (h1 : ("internal/strconv.uint64pow10", Lib.tabData .u64 Lib.pow10Tab) ∈ laid) (h2 : ("strconv.ErrSyntax", .iface nm1 d1) ∈ laid) (h3 : ("strconv.ErrRange", .iface nm2 d2) ∈ laid) (h : laidMetH Tryz.prog laid W) : Vs W := by
 rw [MakeChecks.laidMetH_plain _ _ _ hp] at h
 obtain ⟨ps, hl, _⟩ := h
 obtain ⟨g1, t1, c1, f1, q1, hg1, ht1, hv1, hd1⟩ := laid_entry hl h1
 obtain ⟨g2, t2, c2, f2, q2, hg2, ht2, hv2, hd2⟩ := laid_entry hl h2
 obtain ⟨g3, t3, c3, f3, q3, hg3, ht3, hv3, hd3⟩ := laid_entry hl h3
 have ty : ∀ {n : String} {g : Nat} {t t' : TypeId}, Tryz.prog.globalNamed n = some g → (Tryz.prog.globals[g]?).map (·.type) = some t → ((Tryz.prog.globalNamed n).bind fun g => (Tryz.prog.globals[g]?).map (·.type)) = some t' → t = t' := fun ha hb hc => by
  rw [ha, Option.bind_some, hb] at hc
  exact Option.some.inj hc
 exact ⟨pow_of (ty hg1 ht1 (by kernel_rfl)) hv1 hd1, err_of (ty hg2 ht2 (by kernel_rfl)) hv2 hd2, err_of (ty hg3 ht3 (by kernel_rfl)) hv3 hd3⟩
end Go.Proofs.YthgcnmilaifkoaaGreatDoor

/- A row with listed variables, whose walk is told of them and of the memory's shape. -/
namespace Go.Proofs.YthgcnmilaifkoaaGreatDoor
open Go.ChangeShapes Go.WideShapes Go.ChangeAt Go.RowKit
set_option linter.unusedVariables false

/-- The witness of a row with listed variables, in whatever form. -/
theorem rowWitness {H : Type} {enc : TypeId × Value → H} {C : Checked} {os : Os} {f : FuncId} {fn : Func} {s : OpenSpec} {conds : List PathCond} {apart : Bool} {laid : List (String × DataW Unit)} (w0 : World) (args : Array Value) (hos : w0.os = os)
  (hsh : (w0.forCall (fun _ _ => 0) ⟨#[], args, []⟩).Shaped C.prog) (hok : Input.okWideB C.prog (w0.forCall (fun _ _ => 0) ⟨#[], args, []⟩) f ⟨#[], args, []⟩ = true)
  (hrow : s.preRow enc C.prog fn conds apart laid (w0.forCall (fun _ _ => 0) ⟨#[], args, []⟩).memory args) :
  ∃ (w : World) (tape : Tape) (i : Input), w.os = os ∧ (w.forCall tape i).Shaped C.prog ∧ i.vars = [] ∧ Input.okWide C.prog (w.forCall tape i) .any w.heap.size f i ∧
   s.preRow enc C.prog fn conds apart laid (w.forCall tape i).memory i.args ∧ ({} : Assume).holds C.prog (lone (Frame.enter C.prog f i.args .normal) [] (w.forCall tape i)) :=
 ⟨w0, fun _ _ => 0, ⟨#[], args, []⟩, hos, hsh, (Input.okWide_of_okWideB (base := 0) hok).1, (Input.okWide_of_okWideB hok).2, hrow, by
  simp only [Assume.holds]
  exact ⟨by simp, by simp, fun _ => Modest.zero, by simp, by simp⟩⟩
end Go.Proofs.YthgcnmilaifkoaaGreatDoor

/- JournalRuns answers true and leaves its arguments as they were, for every first index and every script, where the library's variables that it reads are as the program's own text lays them (the card ties that). Its condition: the arguments hold at most 1048576 values and letters. -/
namespace Go.Proofs.YthgcnmilaifkoaaGreatDoor
open Go.ChangeShapes Go.WideShapes Go.ChangeAt Go.RowKit
open Go.ChangeMaps (open_string shut_string)
set_option linter.unusedVariables false

namespace PJRuns
theorem own : ownKnob Tryz.prog.godebug = none := by kernel_rfl
theorem laidOut : laidOutB Tryz.prog = true := by kernel_rfl
theorem op_bulk {H : Type} {o : Opp} {d : DataW H} (h : OpData o d) (hb : Rows.uptoBulk d ≤ 1048576) : o.small ∧ o.svc.tags.length ≤ 1048576 ∧ o.node.addr.size ≤ 1048576 := by
 obtain ⟨dt, hdt, rfl⟩ := h
 simp only [Rows.uptoBulkAll, Rows.uptoBulk, tx_bulk] at hb
 obtain ⟨ht1, ht2⟩ := texts_bulk hdt
 exact ⟨⟨by omega, by omega, ⟨by omega, by omega, by omega, by omega, fun x hx => by have := ht2 x hx; omega⟩, ⟨by omega, by omega, by omega, by omega⟩⟩, by omega, by omega⟩
theorem ev_bulk {H : Type} {W : World} {x : SV} {d : DataW H} (hd : SvData x d) (hin : SvIn W x) (hb0 : Rows.uptoBulk d ≤ 1048576) : EvOk x.e := by
 obtain ⟨de, ⟨D, spare, hde⟩, rfl⟩ := hd
 simp only [Rows.uptoBulk, Rows.uptoBulkAll] at hb0
 have hb : Rows.uptoBulk de ≤ 1048576 := by omega
 have h2 : x.e.l.length ≤ 1048576 ∧ ∀ y ∈ x.e.l, y.o.small ∧ y.o.svc.tags.length ≤ 1048576 ∧ y.o.node.addr.size ≤ 1048576 := by
  rcases hde with ⟨_, hl⟩ | ⟨rfl, hD⟩
  ·rw [hl]; simp
  ·simp only [Rows.uptoBulk] at hb
   refine ⟨?_, fun y hy => ?_⟩
   ·have := bulkR_len ((List.range x.e.l.length).map D)
    simp only [List.length_map, List.length_range] at this
    omega
   ·obtain ⟨k, hk, rfl⟩ := List.getElem_of_mem hy
    have := bulkR_mem (l := (List.range x.e.l.length).map D) (d := D k) (List.mem_map.2 ⟨k, List.mem_range.2 hk, rfl⟩)
    exact op_bulk (hD k hk) (by omega)
 exact ⟨hin.i0, hin.i1, h2.1, fun y hy => ⟨(h2.2 y hy).1, by have := (h2.2 y hy).2.1; omega⟩, fun y hy => (h2.2 y hy).2.2, hin.rng, fun y hy => (h2.2 y hy).2.1⟩
abbrev laidL : List (String × DataW Unit) := Rows.journalRunsUptoRow.laid
theorem reads (os : Os) {H : Type} (enc : TypeId × Value → H) : ∃ places, DataW.whole enc Tryz.prog ((World.laidAll Tryz.prog os laidL).forCall (fun _ _ => 0) ⟨#[], #[.int .u64 0, .slice none 0 0], []⟩).memory Tryz.f3.params.toList Rows.journalRunsSpec.vars false (#[.int .u64 0, .slice none 0 0] : Array Value).toList 8 = some ([.lit (.int .u64 0), .nil], [], places) :=
 ⟨[], by kernel_rfl⟩

set_option maxRecDepth 100000 in
theorem lifted (os : Os) (started : os.Started) (H : Type) (enc : TypeId × Value → H) (F : Stop.Interp) :
  ReturnsInHanded {} Tryz.checked os 3 .any ((Rows.OpenSpec.upto Rows.journalRunsSpec).preRow enc Tryz.prog Tryz.f3 Rows.journalRunsUptoRow.domain false laidL) (((Rows.OpenSpec.upto Rows.journalRunsSpec).at F).post enc Tryz.prog Tryz.f3 false true false false) := by
 obtain ⟨places, hx⟩ := reads os enc
 refine returnsInHanded_of_row (C := Tryz.checked) (s := Rows.OpenSpec.upto Rows.journalRunsSpec) own started (by kernel_rfl) Tryz.func3
  (rowWitness (enc := enc) (C := Tryz.checked) (World.laidAll Tryz.prog os laidL) #[.int .u64 0, .slice none 0 0] (World.laidAll_os _ _ _) (World.shaped_of_ZipB (by kernel_rfl) (by kernel_rfl)) (by kernel_rfl)
   (OpenSpec.preRow_of_cond 8 hx (by kernel_rfl) (fun k hk => by cases hk; kernel_rfl) (by kernel_rfl) (laidMet_laidAll _ (by kernel_rfl) (by kernel_rfl)))) ?_
 intro W base args ds gs before hval0 hW _ hcond _ hL _ _
 have hk : Vs W := vs_of (by kernel_rfl) (.tail _ (.tail _ (.head _))) (.tail _ (.tail _ (.tail _ (.tail _ (.tail _ (.head _)))))) (.tail _ (.tail _ (.tail _ (.tail _ (.head _))))) hL
 have hc : Rows.uptoSmall H (ds ++ gs) = true := hcond _ rfl
 have hW' := hW
 obtain ⟨p, q, hA0, hV, rfl, _, _⟩ := hW
 have hA : DataW.TrodAll enc Tryz.prog W 0 (fun _ => true) true Tryz.f3.params.toList args.toList ds p := hA0
 have hval : ∀ (j : Nat) t v, Tryz.f3.params[j]? = some t → args[j]? = some v → Value.okWide Tryz.prog W .any base t v := hval0
 rw [Tryz.params3] at hA hval
 obtain ⟨v0, v1, d0, d1, p0, p1, rfl, rfl, rfl, h0, h1⟩ := trodAll_two hA
 obtain ⟨rfl, rfl⟩ := trodVars_none hV
 have k0 := h0
 have k1 := h1
 obtain ⟨first, rfl, rfl, rfl, hfw⟩ := open_int Tryz.underlying22 (hval 0 22 v0 rfl rfl) h0
 obtain ⟨ao, n, c, rfl⟩ : ∃ ao n c, v1 = .slice ao n c := okWide_slice Tryz.underlying23 (hval 1 23 v1 rfl rfl)
 obtain ⟨fu1, e1⟩ := h1
 obtain ⟨ss, D, sp, rfl, hd, hat, hin⟩ := open_script (by simpa [Value.cells] using e1)
 dsimp only at hd
 have hb : Rows.uptoBulkAll ([.lit (.int .u64 first), d1] ++ ([] : List (DataW H))) ≤ 1048576 := of_decide_eq_true hc
 simp only [Rows.uptoBulkAll, Rows.uptoBulk, List.append_nil] at hb
 have hss : ss.length ≤ 1048576 ∧ ∀ x ∈ ss, EvOk x.e := by
  rcases hd with ⟨_, rfl⟩ | ⟨rfl, hD⟩
  ·simp
  ·simp only [Rows.uptoBulk] at hb
   refine ⟨?_, fun x hx => ?_⟩
   ·have := bulkR_len ((List.range ss.length).map D)
    simp only [List.length_map, List.length_range] at this
    omega
   ·obtain ⟨k, hk, rfl⟩ := List.getElem_of_mem hx
    have := bulkR_mem (l := (List.range ss.length).map D) (d := D k) (List.mem_map.2 ⟨k, List.mem_range.2 hk, rfl⟩)
    exact ev_bulk (hD k hk) (hin _ hx) (by omega)
 clear hA0 hval hval0 hL hc hcond
 simp only [List.append_nil] at hW'
 have hlt : ∀ x, x ∈ p1 → x.block < W.heap.size := fun x hx => hW'.lt x (by simp [hx])
 refine (journalRuns_calls first ao c ss W hk (u64_wf hfw).1 (u64_wf hfw).2 hss.1 hat hss.2 (fun x hx => ⟨(hin x hx).x0, (hin x hx).x1⟩)).mono fun e W' ⟨he, hg⟩ => ?_
 subst he
 exact ⟨_, rfl, _, _, _, [], _, [], hW', trodAll_mk1 (shut_bool Tryz.underlying4 _), trodAll_mk2 (Below.trod laidOut (by kernel_rfl) (of_decide_eq_true (by kernel_rfl)) k0 hg (by simp)) (Below.trod laidOut (by kernel_rfl) (of_decide_eq_true (by kernel_rfl)) k1 hg hlt), rfl, hg.frame _, fun h => by cases h⟩
end PJRuns

theorem journalRuns_said : Rows.JournalRunsUptoSaid :=
 OpenClaim.holds_of_cond 3 Tryz.f3 rfl rfl rfl rfl rfl rfl rfl ⟨rfl, rfl, rfl, rfl, rfl⟩ rfl rfl rfl rfl rfl (by kernel_rfl) Tryz.func3 (by kernel_rfl)
  (of_decide_eq_true (by kernel_rfl)) (by unfold Func.isWrapper; first | (rw [if_pos (by decide +kernel)]; kernel_rfl) | (rw [if_neg (by decide +kernel)]; exact ⟨rfl, rfl⟩))
  (fun os started H enc _ F => by rw [OpenClaim.pre_eq_preRow]; exact PJRuns.lifted os started H enc F)

theorem journalRuns_holds : Rows.JournalRunsUptoCardSaid :=
 Claim7.holds_tied_plain_at .later [] _ _ _ _ journalRuns_said (fun _ h => by cases h) (by kernel_rfl) (fun _ h => by cases h) journalRunsUpto_row_tie rfl ⟨rfl, rfl⟩ (by kernel_rfl) rfl
  (fun f fn hf hfn => by
   obtain rfl : f = 3 := Option.some.inj (Eq.trans hf.symm (by kernel_rfl))
   obtain rfl : fn = Tryz.f3 := (Option.some.inj (Tryz.func3.symm.trans hfn)).symm
   exact ⟨by kernel_rfl, fun j t ht => by
    rw [Tryz.params3] at ht
    have hm := Array.mem_of_getElem? ht
    simp at hm
    rcases hm with rfl | rfl
    ·exact (show Tryz.prog.wantsStandIn 22 = false by kernel_rfl)
    ·exact (show Tryz.prog.wantsStandIn 23 = false by kernel_rfl)⟩)
  (by kernel_rfl)
#print axioms journalRuns_holds
end Go.Proofs.YthgcnmilaifkoaaGreatDoor
