import Derived.Test.YtieonnnlhhdfpaaGreatDoorJNum
import Derived.Deep.Slices
import Derived.SizedLaws
import Derived.ProofKit
import Derived.Test.YtieonnnlhhdfpaaGreatDoorJReadW
import Derived.Test.YtieonnnlhhdfpaaGreatDoorRcReach
import Derived.Test.YtieonnnlhhdfpaaGreatDoorRcOctet
import Derived.Lay
import Derived.Lib.LaidTab
import Derived.MakeChecks
import Derived.Test.YtieonnnlhhdfpaaGreatDoorRows
import Derived.OpenShut
import Derived.LaidMore
import Derived.SevenTiedAt
import Derived.Stop.Joined
import Derived.HandedShaped
import Derived.Shelf.Vars
import Derived.Deep.DeepHandedRow
import Derived.Test.YtieonnnlhhdfpaaGreatDoorTie
import Derived.Test.YtieonnnlhhdfpaaGreatDoorCards
import Derived.Test.YtieonnnlhhdfpaaGreatDoorJLEnc
/- Layer 13 (journal): arguments of type []byte, byte, opened. -/
namespace Go.Proofs.YtieonnnlhhdfpaaGreatDoor
open Go.RowKit Go.Deep Go.ChangeShapes Go.WideShapes
set_option linter.unusedVariables false

def byteData {H : Type} (c : UInt8) : DataW H := .lit (.int .u8 (c.toNat : Int))
def BytesData {H : Type} (l : List UInt8) (d : DataW H) : Prop := d = .nil ∧ l = [] ∨ ∃ sp, d = .slice (l.map byteData) sp
theorem cells_b : Tryz.prog.cellsOf 5 = 1 := by kernel_rfl
theorem bytes_b : Tryz.prog.bytesOf 5 = 1 := by kernel_rfl
theorem u8_bounds {n : Int} (h : (Lit.int .u8 n).wf = true) : 0 ≤ n ∧ n < 256 := by
  have h1 : IntKind.u8.min = 0 := rfl
  have h2 : IntKind.u8.max = 255 := rfl
  simp only [Lit.wf, Bool.and_eq_true, decide_eq_true_eq, h1, h2] at h
  omega
theorem u8_of {n : Int} (h : (Lit.int .u8 n).wf = true) : ∃ c : UInt8, n = (c.toNat : Int) := ⟨UInt8.ofNat n.toNat, by
  have := u8_bounds h
  rw [UInt8.toNat_ofNat']; omega⟩
theorem open_bytes {H : Type} {enc : TypeId × Value → H} {W : World} {fuel : Nat} {ao : Option Addr} {len cap : Nat} {x : DataW H × List MemPlace}
    (h : DataW.trod enc Tryz.prog W 0 (fun _ => true) true fuel 28 [.slice ao len cap] = some x) :
    ∃ l : List UInt8, l.length = len ∧ BytesData l x.1 ∧ BAt W ao l := by
  rcases open_slice Tryz.underlying28 h with ⟨hc, hx⟩ | ⟨a, len', cap', m, n, D, Pl, hc, hb, hl, hm, hmm, hx, hel⟩
  · simp at hc
    obtain ⟨rfl, rfl, rfl⟩ := hc
    exact ⟨[], rfl, .inl ⟨by rw [hx], rfl⟩, fun h => absurd rfl h⟩
  · simp at hc
    obtain ⟨rfl, rfl, rfl⟩ := hc
    simp only [if_true] at hmm
    subst hmm
    rw [cells_b] at hel
    have each : ∀ i, i < len → ∃ p : UInt8, D i = byteData p ∧ W.cell? (a.add i) = some (.int .u8 (p.toNat : Int)) := by
      intro i hi
      obtain ⟨cs', h1, h2⟩ := hel i (by omega)
      obtain ⟨_, hlen, hcell⟩ := World.cells?_some h1
      match cs', hlen with
      | [v0], _ =>
        obtain ⟨s1, q1, r1, w1⟩ := DataW.trod_int Tryz.underlying5 h2
        have e0 := hcell 0 (by omega)
        rw [add_add] at e0
        obtain ⟨c, rfl⟩ := u8_of w1
        simp at q1
        subst q1
        refine ⟨c, ?_, by simpa using e0⟩
        have := congrArg Prod.fst r1
        simpa [byteData] using this
    obtain ⟨f, hf⟩ : ∃ f : Nat → UInt8, ∀ i, i < len → _ := @choose_lt UInt8 ⟨0⟩ len _ each
    refine ⟨(List.range len).map f, by simp, .inr ⟨(List.range (m - len)).map fun j => D (len + j), ?_⟩, fun hne => ?_⟩
    · rw [hx]
      simp only [DataW.slice.injEq, and_true]
      rw [List.map_map]
      exact List.map_congr_left fun i hi => (hf i (List.mem_range.1 hi)).1
    · have h0 : 0 < len := by
        rcases Nat.eq_zero_or_pos len with h | h
        · subst h; exact absurd rfl hne
        · exact h
      obtain ⟨b, off, spot⟩ := a
      have hspot : spot = none := by simpa [Addr.add] using World.cell?_spot (hf 0 h0).2
      subst hspot
      refine ⟨b, off, rfl, fun j u hj => ?_⟩
      have hj' : j < len := by have := (List.getElem?_eq_some_iff.1 hj).1; simpa [bs] using this
      have hu : u = .int .u8 ((f j).toNat : Int) := by simp [bs, hj'] at hj; exact hj.symm
      rw [hu, ← add_plain]
      exact (hf j hj').2
theorem bytes_reach {H : Type} {l : List UInt8} {d : DataW H} (hd : BytesData l d) (hw : ∀ n ∈ d.weights Tryz.prog 28, n ≤ reachBytes) : l.length ≤ 140737488351232 := by
  rcases hd with ⟨_, rfl⟩ | ⟨sp, rfl⟩
  · simp
  · simp only [DataW.weights, Tryz.underlying28, bytes_b] at hw
    have := hw _ (List.mem_cons_self ..)
    simp only [List.length_map, reachBytes] at this
    omega
theorem bytes_form {H : Type} {enc : TypeId × Value → H} {W : World} {fuel : Nat} {v : Value} {x : DataW H × List MemPlace}
    (h : DataW.trod enc Tryz.prog W 0 (fun _ => true) true fuel 28 [v] = some x) : ∃ ao n c, v = .slice ao n c := by
  rcases open_slice Tryz.underlying28 h with ⟨hc, _⟩ | ⟨a, len', cap', _, _, _, _, hc, _⟩
  · simp at hc; exact ⟨_, _, _, hc⟩
  · simp at hc; exact ⟨_, _, _, hc⟩
end Go.Proofs.YtieonnnlhhdfpaaGreatDoor

/- Layer 13 (journal): arguments of type api.Entry, opened. -/
namespace Go.Proofs.YtieonnnlhhdfpaaGreatDoor
open Go.RowKit Go.Deep Go.ChangeShapes Go.WideShapes
set_option linter.unusedVariables false

def OpData {H : Type} (o : Opp) (d : DataW H) : Prop := ∃ dt, TextsData o.svc.tags dt ∧ d = .agg [.lit (.int .i64 o.kind), .agg [txData o.node.name, txData o.node.addr, .lit (.int .u64 o.node.made), .lit (.int .u64 o.node.changed)],
      .agg [txData o.svc.node, txData o.svc.id, txData o.svc.name, .lit (.int .i64 o.svc.port), dt, .lit (.int .u64 o.svc.made), .lit (.int .u64 o.svc.changed)], .agg [txData o.chk.node, txData o.chk.id, txData o.chk.service, .lit (.int .i64 o.chk.status), txData o.chk.note, .lit (.int .u64 o.chk.made), .lit (.int .u64 o.chk.changed)], .lit (.bool o.cas), .lit (.int .u64 o.want)]
theorem u64_wf {n : Int} (h : (Lit.int .u64 n).wf = true) : 0 ≤ n ∧ n ≤ 18446744073709551615 := by
  have h1 : IntKind.u64.min = 0 := rfl
  have h2 : IntKind.u64.max = 18446744073709551615 := rfl
  simp only [Lit.wf, Bool.and_eq_true, decide_eq_true_eq, h1, h2] at h
  exact h
theorem bytes_op : Tryz.prog.bytesOf 58 = 256 := by kernel_rfl
theorem cells_ent : Tryz.prog.cellsOf 25 = 2 := by kernel_rfl
theorem cells_opl : Tryz.prog.cellsOf 23 = 1 := by kernel_rfl
set_option maxRecDepth 100000 in
theorem want_of {H : Type} {enc : TypeId × Value → H} {W : World} {fuel : Nat} {o : Opp} {t : Value} {x : DataW H × List MemPlace}
    (h : DataW.trod enc Tryz.prog W 0 (fun _ => true) true fuel 58 (o.v t).toList = some x) : o.rng := by
  obtain ⟨xs, k, hk, hxy, _, hxl, hf⟩ := DataW.trod_struct Tryz.underlying58 h
  match xs, hxl with
  | [y0, y1, y2, y3, y4, y5], _ =>
    have g5 := hf 5 _ rfl
    simp [cells_u, Opp.v] at g5
    obtain ⟨n5, q5, r5, w5⟩ := DataW.trod_int Tryz.underlying22 g5
    simp at q5
    have := u64_wf w5
    rw [← q5] at this
    exact ⟨this.1, this.2⟩
set_option maxRecDepth 100000 in
theorem open_ops {H : Type} {enc : TypeId × Value → H} {W : World} {fuel : Nat} {ao : Option Addr} {len cap : Nat} {x : DataW H × List MemPlace}
    (h : DataW.trod enc Tryz.prog W 0 (fun _ => true) true fuel 23 [.slice ao len cap] = some x) :
    ∃ (l : List OV) (D : Nat → DataW H) (spare : List (DataW H)), l.length = len ∧ (x.1 = .nil ∧ l = [] ∨ x.1 = .slice ((List.range l.length).map D) spare ∧ ∀ i (h : i < l.length), OpData l[i].o (D i)) ∧ OpsAt W ao l ∧ ∀ x ∈ l, x.o.rng := by
  rcases open_slice Tryz.underlying23 h with ⟨hc, hx⟩ | ⟨a, len', cap', m, n, D, Pl, hc, hb, hl, hm, hmm, hx, hel⟩
  · simp at hc
    obtain ⟨rfl, rfl, rfl⟩ := hc
    exact ⟨[], fun _ => .nil, [], rfl, .inl ⟨by rw [hx], rfl⟩, ⟨fun h => absurd rfl h, fun c hc => by simp at hc⟩, fun c hc => by simp at hc⟩
  · simp at hc
    obtain ⟨rfl, rfl, rfl⟩ := hc
    simp only [if_true] at hmm
    subst hmm
    rw [cells_op] at hel
    have each : ∀ i, i < len → ∃ y : OV, OpData y.o (D i) ∧ (∀ j, j < 21 → W.cell? (a.add (i * 21 + j)) = y.v.toList[j]?) ∧ CellsAt W y.ta (y.o.svc.tags.map Value.string) ∧ y.o.rng := by
      intro i hi
      obtain ⟨cs', h1, h2⟩ := hel i (by omega)
      obtain ⟨_, hlen, hcell⟩ := World.cells?_some h1
      obtain ⟨o, ta, tc, dt, e1, hdt, hct, hd⟩ := open_op (cs := cs'.toArray) (by simpa using hlen) (by simpa using h2)
      refine ⟨⟨o, ta, tc⟩, ⟨dt, hdt, by simpa using hd⟩, fun j hj => ?_, hct, ?_⟩
      · have := hcell j (by omega)
        rw [add_add] at this
        have e2 : cs' = (OV.v ⟨o, ta, tc⟩).toList := by
          have := congrArg Array.toList e1
          exact this
        rw [this, ← e2]
      · have e2 : cs' = (o.v (.slice ta o.svc.tags.length tc)).toList := by
          have := congrArg Array.toList e1
          simpa using this
        rw [e2] at h2
        exact want_of h2
    obtain ⟨f, hf⟩ : ∃ f : Nat → OV, ∀ i, i < len → _ := @choose_lt OV ⟨⟨oppZ, none, 0⟩⟩ len _ each
    have hlen : ((List.range len).map f).length = len := by simp
    refine ⟨(List.range len).map f, D, (List.range (m - len)).map fun j => D (len + j), hlen, .inr ⟨?_, fun i hi => ?_⟩, ⟨fun hne => ?_, fun c hc => ?_⟩, fun c hc => ?_⟩
    · rw [hx, hlen]
    · have hi' : i < len := by simpa using hi
      have := (hf i hi').1
      simpa using this
    · have h0 : 0 < len := by
        rcases Nat.eq_zero_or_pos len with h | h
        · subst h; exact absurd rfl hne
        · exact h
      obtain ⟨b, off, spot⟩ := a
      have hspot : spot = none := by
        have := (hf 0 h0).2.1 0 (by decide)
        have h2 : (f 0).v.toList[0]? = some (.int .i64 (f 0).o.kind) := rfl
        rw [h2] at this
        simpa [Addr.add] using World.cell?_spot this
      subst hspot
      refine ⟨b, off, rfl, fun j u hj => ?_⟩
      have hjl : j < len * 21 := by
        have := (List.getElem?_eq_some_iff.1 hj).1
        rw [ocs_length, hlen] at this
        exact this
      have hi : j / 21 < len := by omega
      have hg : ((List.range len).map f)[j / 21]? = some (f (j / 21)) := by simp [hi]
      have hfa := flat_at (fun c : OV => c.v.toList) 21 (fun _ => rfl) ((List.range len).map f) (j / 21) (j % 21) _ hg (by omega)
      have hjj : j / 21 * 21 + j % 21 = j := by omega
      rw [hjj] at hfa
      have hj2 : (f (j / 21)).v.toList[j % 21]? = some u := by rw [← hfa]; exact hj
      have := (hf _ hi).2.1 (j % 21) (by omega)
      rw [hj2, hjj, add_plain] at this
      exact this
    · obtain ⟨i, hi, rfl⟩ := List.mem_map.1 hc
      exact (hf i (List.mem_range.1 hi)).2.2.1
    · obtain ⟨i, hi, rfl⟩ := List.mem_map.1 hc
      exact (hf i (List.mem_range.1 hi)).2.2.2
set_option maxRecDepth 100000 in
/-- By the form's own reach. -/
theorem ops_reach {H : Type} {l : List OV} {D : Nat → DataW H} {spare : List (DataW H)} {d : DataW H} (hd : d = .nil ∧ l = [] ∨ d = .slice ((List.range l.length).map D) spare ∧ ∀ i (h : i < l.length), OpData l[i].o (D i)) (hw : ∀ n ∈ d.weights Tryz.prog 23, n ≤ reachBytes) :
    l.length * 256 ≤ 140737488351232 ∧ ∀ x ∈ l, x.o.small ∧ x.o.svc.tags.length ≤ 8796093021952 := by
  rcases hd with ⟨_, rfl⟩ | ⟨rfl, hD⟩
  · simp
  · simp only [DataW.weights, Tryz.underlying23, bytes_op] at hw
    refine ⟨?_, fun x hx => ?_⟩
    · have := hw _ (List.mem_cons_self ..)
      simp only [List.length_map, List.length_range, reachBytes] at this
      omega
    · obtain ⟨i, hi, rfl⟩ := List.getElem_of_mem hx
      obtain ⟨dt, hdt, hdi⟩ := hD i hi
      exact op_reach hdt hdi fun n hn => hw n (List.mem_cons_of_mem _ (List.mem_append_left _ (weights_in (List.mem_map.2 ⟨i, List.mem_range.2 hi, rfl⟩) n hn)))
set_option maxRecDepth 100000 in
theorem open_ent {H : Type} {enc : TypeId × Value → H} {W : World} {fuel : Nat} {cs : Array Value} {x : DataW H × List MemPlace} (hz : cs.size = 2)
    (h : DataW.trod enc Tryz.prog W 0 (fun _ => true) true fuel 25 cs.toList = some x) :
    ∃ (i : Int) (ao : Option Addr) (c : Nat) (l : List OV) (D : Nat → DataW H) (spare : List (DataW H)) (d : DataW H), cs = #[.int .u64 i, .slice ao l.length c] ∧ (0 ≤ i ∧ i ≤ 18446744073709551615) ∧ (d = .nil ∧ l = [] ∨ d = .slice ((List.range l.length).map D) spare ∧ ∀ i (h : i < l.length), OpData l[i].o (D i)) ∧ OpsAt W ao l ∧ (∀ x ∈ l, x.o.rng) ∧ x.1 = .agg [.lit (.int .u64 i), d] := by
  obtain ⟨c0, c1, rfl⟩ : ∃ c0 c1, cs = #[c0, c1] := by
    match cs, hz with
    | ⟨[c0, c1]⟩, _ => exact ⟨c0, c1, rfl⟩
  obtain ⟨xs, k, hk, hxy, _, hxl, hf⟩ := DataW.trod_struct Tryz.underlying25 h
  match xs, hxl with
  | [y0, y1], _ =>
    have g0 := hf 0 _ rfl
    have g1 := hf 1 _ rfl
    simp [cells_u, cells_opl] at g0 g1
    obtain ⟨n0, q0, r0, w0⟩ := DataW.trod_int Tryz.underlying22 g0
    obtain ⟨ta, tn, tc, rfl⟩ : ∃ ta tn tc, c1 = .slice ta tn tc := by
      rcases open_slice Tryz.underlying23 g1 with ⟨hc, _⟩ | ⟨a, len', cap', _, _, _, _, hc, _⟩
      · simp at hc; exact ⟨_, _, _, hc⟩
      · simp at hc; exact ⟨_, _, _, hc⟩
    obtain ⟨l, D, sp, rfl, hd, hat, hr⟩ := open_ops g1
    simp at q0
    subst q0
    refine ⟨n0, ta, tc, l, D, sp, y1.1, rfl, u64_wf w0, hd, hat, hr, ?_⟩
    rw [hxy]
    simp only [List.map_cons, List.map_nil, r0]
set_option maxRecDepth 100000 in
theorem ent_ok {H : Type} {i : Int} {l : List OV} {D : Nat → DataW H} {spare : List (DataW H)} {d dd : DataW H} (hi : 0 ≤ i ∧ i ≤ 18446744073709551615) (hd : d = .nil ∧ l = [] ∨ d = .slice ((List.range l.length).map D) spare ∧ ∀ i (h : i < l.length), OpData l[i].o (D i)) (hr : ∀ x ∈ l, x.o.rng) (hdd : dd = .agg [.lit (.int .u64 i), d]) (hw : ∀ n ∈ dd.weights Tryz.prog 25, n ≤ reachBytes) : EntOk i l := by
  subst hdd
  rw [DataW.weights, Tryz.underlying25] at hw
  obtain ⟨h1, h2⟩ := ops_reach hd fun k hk => hw k (by simp only [DataW.weightsEach, List.map_cons, List.map_nil, List.mem_append]; exact .inr (.inl hk))
  exact ⟨hi.1, hi.2, by omega, fun x hx => ⟨(h2 x hx).1, by have := (h2 x hx).2; omega⟩, hr, fun x hx => by have := (h2 x hx).2; omega⟩
end Go.Proofs.YtieonnnlhhdfpaaGreatDoor

/- What the listed variables read as, one by one. -/
namespace Go.Proofs.YtieonnnlhhdfpaaGreatDoor
open Go.RowKit
set_option linter.unusedVariables false

theorem laid_entry {P : Program} {W : World} : ∀ {laid : List (String × DataW Unit)} {ps : List MemPlace}, DataW.LaidVars P W laid ps → ∀ {n : String} {d : DataW Unit}, (n, d) ∈ laid →
    ∃ g t cs fuel q, P.globalNamed n = some g ∧ (P.globals[g]?).map (·.type) = some t ∧ W.var? P n = some cs ∧ DataW.trod (fun _ => ()) P W 0 (fun _ => true) false fuel t cs.toList = some (d, q) := by
  intro laid
  induction laid with
  | nil => intro ps _ n d hm; simp at hm
  | cons x laid ih =>
    intro ps h n d hm
    obtain ⟨g, t, cs, fuel, p, q, hg, ht, hv, hd, hr, _⟩ := h
    rcases List.mem_cons.1 hm with rfl | hm
    · exact ⟨g, t, cs, fuel, p, hg, ht, hv, hd⟩
    · exact ih hr hm
set_option maxRecDepth 100000 in
theorem pow_of {W : World} {t : TypeId} {cs : Array Value} {fuel : Nat} {q : List MemPlace} (ht : t = 205) (hv : W.var? Tryz.prog "internal/strconv.uint64pow10" = some cs) (hd : DataW.trod (fun _ => ()) Tryz.prog W 0 (fun _ => true) false fuel t cs.toList = some (Lib.tabData .u64 Lib.pow10Tab, q)) : Lib.TabIs Tryz.prog W "internal/strconv.uint64pow10" .u64 Lib.pow10Tab := by
  subst ht
  unfold Lib.TabIs
  rw [hv, ← Lib.cells_of_tab Tryz.underlying205 Tryz.underlying22 (by kernel_rfl) (by kernel_rfl) hd]
set_option maxRecDepth 100000 in
theorem err_of {W : World} {n : String} {t : TypeId} {cs : Array Value} {fuel : Nat} {q : List MemPlace} {nm : String} {d : DataW Unit} (ht : t = 161) (hv : W.var? Tryz.prog n = some cs) (hd : DataW.trod (fun _ => ()) Tryz.prog W 0 (fun _ => true) false fuel t cs.toList = some (.iface nm d, q)) : ∃ t p, W.var? Tryz.prog n = some #[.iface t p] := by
  subst ht
  obtain ⟨_, u, v, hcs, _, _⟩ := iface_of_trod Tryz.underlying161 hd
  exact ⟨u, v, by rw [hv]; congr 1; exact Array.toList_inj.1 hcs⟩
set_option maxRecDepth 100000 in
theorem vs_of {W : World} {laid : List (String × DataW Unit)} (hp : (laid.all fun x => x.2.handleName?.isNone) = true) {nm1 nm2 : String} {d1 d2 : DataW Unit}
    (h1 : ("internal/strconv.uint64pow10", Lib.tabData .u64 Lib.pow10Tab) ∈ laid) (h2 : ("strconv.ErrSyntax", .iface nm1 d1) ∈ laid) (h3 : ("strconv.ErrRange", .iface nm2 d2) ∈ laid) (h : laidMetH Tryz.prog laid W) : Vs W := by
  rw [MakeChecks.laidMetH_plain _ _ _ hp] at h
  obtain ⟨ps, hl, _⟩ := h
  obtain ⟨g1, t1, c1, f1, q1, hg1, ht1, hv1, hd1⟩ := laid_entry hl h1
  obtain ⟨g2, t2, c2, f2, q2, hg2, ht2, hv2, hd2⟩ := laid_entry hl h2
  obtain ⟨g3, t3, c3, f3, q3, hg3, ht3, hv3, hd3⟩ := laid_entry hl h3
  have ty : ∀ {n : String} {g : Nat} {t t' : TypeId}, Tryz.prog.globalNamed n = some g → (Tryz.prog.globals[g]?).map (·.type) = some t → ((Tryz.prog.globalNamed n).bind fun g => (Tryz.prog.globals[g]?).map (·.type)) = some t' → t = t' := fun ha hb hc => by
    rw [ha, Option.bind_some, hb] at hc
    exact Option.some.inj hc
  exact ⟨pow_of (ty hg1 ht1 (by kernel_rfl)) hv1 hd1, err_of (ty hg2 ht2 (by kernel_rfl)) hv2 hd2, err_of (ty hg3 ht3 (by kernel_rfl)) hv3 hd3⟩
end Go.Proofs.YtieonnnlhhdfpaaGreatDoor

/- A row with listed variables, whose walk is told of them and of the memory's shape. -/
namespace Go.Proofs.YtieonnnlhhdfpaaGreatDoor
open Go.ChangeShapes Go.WideShapes Go.ChangeAt Go.RowKit
set_option linter.unusedVariables false

/-- The listed variables' condition and the memory's shape, both handed to the walk. -/
theorem returnsLaidShaped {H : Type} {enc : TypeId × Value → H} {a : Assume} {C : Checked} {os : Os} {f : FuncId} {fn : Func} {s : ChangeSpec} {conds : List PathCond} {apart fresh handsOn again : Bool} {X : World → Array Value → Prop}
    (hX : ∀ (w w' : World) (args : Array Value), w.heap = w'.heap → X w args → X w' args)
    (own : ownKnob C.prog.godebug = none) (started : os.Started) (noInit : C.prog.inits.idxOf? f = none) (hfn : C.prog.funcs[f]? = some fn)
    (witness : ∃ (w : World) (tape : Tape) (i : Input), w.os = os ∧ (w.forCall tape i).Shaped C.prog ∧ i.vars = [] ∧ Input.okWide C.prog (w.forCall tape i) .any w.heap.size f i ∧
      ((s.pre enc C.prog fn conds apart (w.forCall tape i).memory i.args ∧ X (w.forCall tape i).memory i.args) ∧ sizedMet enc C.prog fn (OpenSpec.ofChange s) apart (w.forCall tape i).memory i.args) ∧ a.holds C.prog (lone (Frame.enter C.prog f i.args .normal) [] (w.forCall tape i)))
    (contract : ∀ (W : World) (base : Nat) (args : Array Value) (ds gs : List (DataW H)) (before : List MemPlace),
      (∀ (j : Nat) t v, fn.params[j]? = some t → args[j]? = some v → Value.okWide C.prog W .any base t v) →
      DataW.Whole enc C.prog fn.params.toList s.vars apart W args.toList ds gs before →
      conds.all (PathCond.test C.prog ⟨fn.params.toList, ds, s.plain.varTypes C.prog, gs⟩) = true →
      (DataW.weightsEach C.prog (fn.params.toList ++ s.plain.varTypes C.prog) (ds ++ gs)).all (· ≤ reachBytes) = true → X W args → W.ShapedOpen C.prog →
      Calls C.prog f args W fun e W' => ∃ v, e = .returned v ∧ s.post enc C.prog fn apart fresh handsOn again W args v W') :
    ReturnsInHanded a C os f .any (fun w args => (s.pre enc C.prog fn conds apart w args ∧ X w args) ∧ sizedMet enc C.prog fn (OpenSpec.ofChange s) apart w args) (s.post enc C.prog fn apart fresh handsOn again) := by
  refine returnsInHanded_of_calls own started noInit witness ?_
  intro w tape i _ hsh _ hok hpre _
  obtain ⟨_, _, _, fn', hfn', _, _, _, _, hval⟩ := hok
  obtain rfl : fn' = fn := Option.some.inj (hfn'.symm.trans hfn)
  obtain ⟨⟨⟨ds, gs, before, hw, hc⟩, hx⟩, hz⟩ := hpre
  refine (contract (w.forCall tape i) w.heap.size i.args ds gs before hval (DataW.Whole.of_heap (w' := w.forCall tape i) (by rfl) hw) hc (hz.weights hw) (hX _ _ _ (by rfl) hx) hsh).mono fun e W' ⟨v, he, hp⟩ => ?_
  subst he
  exact ChangeSpec.post_blind hp
/-- The witness of a row with listed variables, in whatever form. -/
theorem rowWitness {H : Type} {enc : TypeId × Value → H} {C : Checked} {os : Os} {f : FuncId} {fn : Func} {s : OpenSpec} {conds : List PathCond} {apart : Bool} {laid : List (String × DataW Unit)} (w0 : World) (args : Array Value) (hos : w0.os = os)
    (hsh : (w0.forCall (fun _ _ => 0) ⟨#[], args, []⟩).Shaped C.prog) (hok : Input.okWideB C.prog (w0.forCall (fun _ _ => 0) ⟨#[], args, []⟩) f ⟨#[], args, []⟩ = true)
    (hrow : s.preRow enc C.prog fn conds apart laid (w0.forCall (fun _ _ => 0) ⟨#[], args, []⟩).memory args) :
    ∃ (w : World) (tape : Tape) (i : Input), w.os = os ∧ (w.forCall tape i).Shaped C.prog ∧ i.vars = [] ∧ Input.okWide C.prog (w.forCall tape i) .any w.heap.size f i ∧
      s.preRow enc C.prog fn conds apart laid (w.forCall tape i).memory i.args ∧ ({} : Assume).holds C.prog (lone (Frame.enter C.prog f i.args .normal) [] (w.forCall tape i)) :=
  ⟨w0, fun _ _ => 0, ⟨#[], args, []⟩, hos, hsh, (Input.okWide_of_okWideB (base := 0) hok).1, (Input.okWide_of_okWideB hok).2, hrow, by
    simp only [Assume.holds]
    exact ⟨by simp, by simp, fun _ => Modest.zero, by simp, by simp⟩⟩
end Go.Proofs.YtieonnnlhhdfpaaGreatDoor

/- JournalEncodes answers true and leaves its argument as it was, for every entry, where the library's variables that it reads are as the program's own text lays them (the card ties that). Its condition: the argument holds at most 1048576 values and letters. -/
namespace Go.Proofs.YtieonnnlhhdfpaaGreatDoor
open Go.ChangeShapes Go.WideShapes Go.ChangeAt Go.RowKit
open Go.ChangeMaps (open_string shut_string)
set_option linter.unusedVariables false

namespace PJEnc
theorem own : ownKnob Tryz.prog.godebug = none := by kernel_rfl
theorem laidOut : laidOutB Tryz.prog = true := by kernel_rfl
theorem op_bulk {H : Type} {o : Opp} {d : DataW H} (h : OpData o d) (hb : Rows.uptoBulk d ≤ 1048576) : o.small ∧ o.svc.tags.length ≤ 1048576 ∧ o.node.addr.size ≤ 1048576 := by
  obtain ⟨dt, hdt, rfl⟩ := h
  simp only [Rows.uptoBulkAll, Rows.uptoBulk, tx_bulk] at hb
  obtain ⟨ht1, ht2⟩ := texts_bulk hdt
  exact ⟨⟨by omega, by omega, ⟨by omega, by omega, by omega, by omega, fun x hx => by have := ht2 x hx; omega⟩, ⟨by omega, by omega, by omega, by omega⟩⟩, by omega, by omega⟩
theorem ent_bulk {H : Type} {i : Int} {l : List OV} {D : Nat → DataW H} {spare : List (DataW H)} {d : DataW H} (hi : 0 ≤ i ∧ i ≤ 18446744073709551615) (hd : d = .nil ∧ l = [] ∨ d = .slice ((List.range l.length).map D) spare ∧ ∀ i (h : i < l.length), OpData l[i].o (D i)) (hr : ∀ x ∈ l, x.o.rng) (hb : Rows.uptoBulk d ≤ 1048576) :
    EntOk i l ∧ ∀ x ∈ l, x.o.node.addr.size ≤ 1048576 := by
  have h2 : l.length ≤ 1048576 ∧ ∀ x ∈ l, x.o.small ∧ x.o.svc.tags.length ≤ 1048576 ∧ x.o.node.addr.size ≤ 1048576 := by
    rcases hd with ⟨_, rfl⟩ | ⟨rfl, hD⟩
    · simp
    · simp only [Rows.uptoBulk] at hb
      refine ⟨?_, fun x hx => ?_⟩
      · have := bulkR_len ((List.range l.length).map D)
        simp only [List.length_map, List.length_range] at this
        omega
      · obtain ⟨k, hk, rfl⟩ := List.getElem_of_mem hx
        have := bulkR_mem (l := (List.range l.length).map D) (d := D k) (List.mem_map.2 ⟨k, List.mem_range.2 hk, rfl⟩)
        exact op_bulk (hD k hk) (by omega)
  exact ⟨⟨hi.1, hi.2, by omega, fun x hx => ⟨(h2.2 x hx).1, by have := (h2.2 x hx).2.1; omega⟩, hr, fun x hx => by have := (h2.2 x hx).2.1; omega⟩, fun x hx => (h2.2 x hx).2.2⟩
abbrev laidL : List (String × DataW Unit) := Rows.journalEncodesUptoRow.laid
theorem reads (os : Os) {H : Type} (enc : TypeId × Value → H) : ∃ places, DataW.whole enc Tryz.prog ((World.laidAll Tryz.prog os laidL).forCall (fun _ _ => 0) ⟨#[], #[.agg #[.int .u64 0, .slice none 0 0]], []⟩).memory Tryz.f3.params.toList Rows.journalEncodesSpec.vars false (#[.agg #[.int .u64 0, .slice none 0 0]] : Array Value).toList 8 = some ([.agg [.lit (.int .u64 0), .nil]], [], places) :=
  ⟨[], by kernel_rfl⟩

set_option maxRecDepth 100000 in
theorem lifted (os : Os) (started : os.Started) (H : Type) (enc : TypeId × Value → H) (F : Stop.Interp) :
    ReturnsInHanded {} Tryz.checked os 3 .any ((Rows.OpenSpec.upto Rows.journalEncodesSpec).preRow enc Tryz.prog Tryz.f3 Rows.journalEncodesUptoRow.domain false laidL) (((Rows.OpenSpec.upto Rows.journalEncodesSpec).at F).post enc Tryz.prog Tryz.f3 false true false false) := by
  obtain ⟨places, hx⟩ := reads os enc
  refine returnsInHanded_of_row (C := Tryz.checked) (s := Rows.OpenSpec.upto Rows.journalEncodesSpec) own started (by kernel_rfl) Tryz.func3
    (rowWitness (enc := enc) (C := Tryz.checked) (World.laidAll Tryz.prog os laidL) #[.agg #[.int .u64 0, .slice none 0 0]] (World.laidAll_os _ _ _) (World.shaped_of_ZipB (by kernel_rfl) (by kernel_rfl)) (by kernel_rfl)
      (OpenSpec.preRow_of_cond 8 hx (by kernel_rfl) (fun k hk => by cases hk; kernel_rfl) (by kernel_rfl) (laidMet_laidAll _ (by kernel_rfl) (by kernel_rfl)))) ?_
  intro W base args ds gs before hval0 hW _ hcond _ hL _ _
  have hk : Vs W := vs_of (by kernel_rfl) (.tail _ (.tail _ (.head _))) (.tail _ (.tail _ (.tail _ (.tail _ (.tail _ (.head _)))))) (.tail _ (.tail _ (.tail _ (.tail _ (.head _))))) hL
  have hc : Rows.uptoSmall H (ds ++ gs) = true := hcond _ rfl
  have hW' := hW
  obtain ⟨p, q, hA0, hV, rfl, _, _⟩ := hW
  have hA : DataW.TrodAll enc Tryz.prog W 0 (fun _ => true) true Tryz.f3.params.toList args.toList ds p := hA0
  have hval : ∀ (j : Nat) t v, Tryz.f3.params[j]? = some t → args[j]? = some v → Value.okWide Tryz.prog W .any base t v := hval0
  rw [Tryz.params3] at hA hval
  obtain ⟨v0, d0, rfl, rfl, h0⟩ := trodAll_one hA
  obtain ⟨rfl, rfl⟩ := trodVars_none hV
  obtain ⟨cs0, rfl, hz0⟩ := okWide_struct Tryz.underlying25 (hval 0 25 v0 rfl rfl)
  rw [cells_ent] at hz0
  have k0 := h0
  obtain ⟨fu0, e0⟩ := h0
  obtain ⟨i, ao, c, l, D, sp, d, rfl, hi, hd, hat, hrg, hd0⟩ := open_ent hz0 (by simpa [Value.cells] using e0)
  dsimp only at hd0
  have hb : Rows.uptoBulkAll ([d0] ++ ([] : List (DataW H))) ≤ 1048576 := of_decide_eq_true hc
  rw [hd0] at hb
  simp only [Rows.uptoBulkAll, Rows.uptoBulk, List.append_nil] at hb
  obtain ⟨hr, hna⟩ := ent_bulk hi hd hrg (by omega)
  clear hA0 hval hval0 hL hc hcond
  simp only [List.append_nil] at hW'
  have hlt : ∀ x, x ∈ p → x.block < W.heap.size := fun x hx => hW'.lt x (by simp [hx])
  refine (journalEncodes_calls i ao c l W hk hr hna hat).mono fun e W' ⟨he, hg⟩ => ?_
  subst he
  exact ⟨_, rfl, _, _, _, [], _, [], hW', trodAll_mk1 (shut_bool Tryz.underlying4 _), trodAll_mk1 (Below.trod laidOut (by kernel_rfl) (of_decide_eq_true (by kernel_rfl)) k0 hg hlt), rfl, hg.frame _, fun h => by cases h⟩
end PJEnc

theorem journalEncodes_said : Rows.JournalEncodesUptoSaid :=
  OpenClaim.holds_of_cond 3 Tryz.f3 rfl rfl rfl rfl rfl rfl rfl ⟨rfl, rfl, rfl, rfl, rfl⟩ rfl rfl rfl rfl rfl (by kernel_rfl) Tryz.func3 (by kernel_rfl)
    (of_decide_eq_true (by kernel_rfl)) (by unfold Func.isWrapper; first | (rw [if_pos (by decide +kernel)]; kernel_rfl) | (rw [if_neg (by decide +kernel)]; exact ⟨rfl, rfl⟩))
    (fun os started H enc _ F => by rw [OpenClaim.pre_eq_preRow]; exact PJEnc.lifted os started H enc F)

theorem journalEncodes_holds : Rows.JournalEncodesUptoCardSaid :=
  Claim7.holds_tied_plain_at .later [] _ _ _ _ journalEncodes_said (fun _ h => by cases h) (by kernel_rfl) (fun _ h => by cases h) journalEncodesUpto_row_tie rfl ⟨rfl, rfl⟩ (by kernel_rfl) rfl
    (fun f fn hf hfn => by
      obtain rfl : f = 3 := Option.some.inj (Eq.trans hf.symm (by kernel_rfl))
      obtain rfl : fn = Tryz.f3 := (Option.some.inj (Tryz.func3.symm.trans hfn)).symm
      exact ⟨by kernel_rfl, fun j t ht => by
        rw [Tryz.params3] at ht
        have hm := Array.mem_of_getElem? ht
        simp at hm
        subst hm
        exact (show Tryz.prog.wantsStandIn 25 = false by kernel_rfl)⟩)
    (by kernel_rfl)
#print axioms journalEncodes_holds
end Go.Proofs.YtieonnnlhhdfpaaGreatDoor
