import Derived.Test.YtmkohdepgfahnaaGreatDoorJNum
import Derived.Deep.Slices
import Derived.SizedLaws
import Derived.ProofKit
import Derived.Test.YtmkohdepgfahnaaGreatDoorJLTells
import Derived.Test.YtmkohdepgfahnaaGreatDoorRcReach
/- Layer 13 (journal): arguments of type []byte, byte, opened. -/
namespace Go.Proofs.YtmkohdepgfahnaaGreatDoor
open Go.RowKit Go.Deep Go.ChangeShapes Go.WideShapes
set_option linter.unusedVariables false

def byteData {H : Type} (c : UInt8) : DataW H := .lit (.int .u8 (c.toNat : Int))
def BytesData {H : Type} (l : List UInt8) (d : DataW H) : Prop := d = .nil ∧ l = [] ∨ ∃ sp, d = .slice (l.map byteData) sp
theorem cells_b : Tryz.prog.cellsOf 5 = 1 := by kernel_rfl
theorem bytes_b : Tryz.prog.bytesOf 5 = 1 := by kernel_rfl
theorem u8_bounds {n : Int} (h : (Lit.int .u8 n).wf = true) : 0 ≤ n ∧ n < 256 := by
  have h1 : IntKind.u8.min = 0 := rfl
  have h2 : IntKind.u8.max = 255 := rfl
  simp only [Lit.wf, Bool.and_eq_true, decide_eq_true_eq, h1, h2] at h
  omega
theorem u8_of {n : Int} (h : (Lit.int .u8 n).wf = true) : ∃ c : UInt8, n = (c.toNat : Int) := ⟨UInt8.ofNat n.toNat, by
  have := u8_bounds h
  rw [UInt8.toNat_ofNat']; omega⟩
theorem open_bytes {H : Type} {enc : TypeId × Value → H} {W : World} {fuel : Nat} {ao : Option Addr} {len cap : Nat} {x : DataW H × List MemPlace}
    (h : DataW.trod enc Tryz.prog W 0 (fun _ => true) true fuel 23 [.slice ao len cap] = some x) :
    ∃ l : List UInt8, l.length = len ∧ BytesData l x.1 ∧ BAt W ao l := by
  rcases open_slice Tryz.underlying23 h with ⟨hc, hx⟩ | ⟨a, len', cap', m, n, D, Pl, hc, hb, hl, hm, hmm, hx, hel⟩
  · simp at hc
    obtain ⟨rfl, rfl, rfl⟩ := hc
    exact ⟨[], rfl, .inl ⟨by rw [hx], rfl⟩, fun h => absurd rfl h⟩
  · simp at hc
    obtain ⟨rfl, rfl, rfl⟩ := hc
    simp only [if_true] at hmm
    subst hmm
    rw [cells_b] at hel
    have each : ∀ i, i < len → ∃ p : UInt8, D i = byteData p ∧ W.cell? (a.add i) = some (.int .u8 (p.toNat : Int)) := by
      intro i hi
      obtain ⟨cs', h1, h2⟩ := hel i (by omega)
      obtain ⟨_, hlen, hcell⟩ := World.cells?_some h1
      match cs', hlen with
      | [v0], _ =>
        obtain ⟨s1, q1, r1, w1⟩ := DataW.trod_int Tryz.underlying5 h2
        have e0 := hcell 0 (by omega)
        rw [add_add] at e0
        obtain ⟨c, rfl⟩ := u8_of w1
        simp at q1
        subst q1
        refine ⟨c, ?_, by simpa using e0⟩
        have := congrArg Prod.fst r1
        simpa [byteData] using this
    obtain ⟨f, hf⟩ : ∃ f : Nat → UInt8, ∀ i, i < len → _ := @choose_lt UInt8 ⟨0⟩ len _ each
    refine ⟨(List.range len).map f, by simp, .inr ⟨(List.range (m - len)).map fun j => D (len + j), ?_⟩, fun hne => ?_⟩
    · rw [hx]
      simp only [DataW.slice.injEq, and_true]
      rw [List.map_map]
      exact List.map_congr_left fun i hi => (hf i (List.mem_range.1 hi)).1
    · have h0 : 0 < len := by
        rcases Nat.eq_zero_or_pos len with h | h
        · subst h; exact absurd rfl hne
        · exact h
      obtain ⟨b, off, spot⟩ := a
      have hspot : spot = none := by simpa [Addr.add] using World.cell?_spot (hf 0 h0).2
      subst hspot
      refine ⟨b, off, rfl, fun j u hj => ?_⟩
      have hj' : j < len := by have := (List.getElem?_eq_some_iff.1 hj).1; simpa [bs] using this
      have hu : u = .int .u8 ((f j).toNat : Int) := by simp [bs, hj'] at hj; exact hj.symm
      rw [hu, ← add_plain]
      exact (hf j hj').2
theorem bytes_reach {H : Type} {l : List UInt8} {d : DataW H} (hd : BytesData l d) (hw : ∀ n ∈ d.weights Tryz.prog 23, n ≤ reachBytes) : l.length ≤ 140737488351232 := by
  rcases hd with ⟨_, rfl⟩ | ⟨sp, rfl⟩
  · simp
  · simp only [DataW.weights, Tryz.underlying23, bytes_b] at hw
    have := hw _ (List.mem_cons_self ..)
    simp only [List.length_map, reachBytes] at this
    omega
theorem bytes_form {H : Type} {enc : TypeId × Value → H} {W : World} {fuel : Nat} {v : Value} {x : DataW H × List MemPlace}
    (h : DataW.trod enc Tryz.prog W 0 (fun _ => true) true fuel 23 [v] = some x) : ∃ ao n c, v = .slice ao n c := by
  rcases open_slice Tryz.underlying23 h with ⟨hc, _⟩ | ⟨a, len', cap', _, _, _, _, hc, _⟩
  · simp at hc; exact ⟨_, _, _, hc⟩
  · simp at hc; exact ⟨_, _, _, hc⟩
end Go.Proofs.YtmkohdepgfahnaaGreatDoor

/- Layer 13 (journal): arguments of type api.Entry, opened. -/
namespace Go.Proofs.YtmkohdepgfahnaaGreatDoor
open Go.RowKit Go.Deep Go.ChangeShapes Go.WideShapes
set_option linter.unusedVariables false

def OpData {H : Type} (o : Opp) (d : DataW H) : Prop := ∃ dt, TextsData o.svc.tags dt ∧ d = .agg [.lit (.int .i64 o.kind), .agg [txData o.node.name, txData o.node.addr, .lit (.int .u64 o.node.made), .lit (.int .u64 o.node.changed)],
      .agg [txData o.svc.node, txData o.svc.id, txData o.svc.name, .lit (.int .i64 o.svc.port), dt, .lit (.int .u64 o.svc.made), .lit (.int .u64 o.svc.changed)], .agg [txData o.chk.node, txData o.chk.id, txData o.chk.service, .lit (.int .i64 o.chk.status), txData o.chk.note, .lit (.int .u64 o.chk.made), .lit (.int .u64 o.chk.changed)], .lit (.bool o.cas), .lit (.int .u64 o.want)]
theorem u64_wf {n : Int} (h : (Lit.int .u64 n).wf = true) : 0 ≤ n ∧ n ≤ 18446744073709551615 := by
  have h1 : IntKind.u64.min = 0 := rfl
  have h2 : IntKind.u64.max = 18446744073709551615 := rfl
  simp only [Lit.wf, Bool.and_eq_true, decide_eq_true_eq, h1, h2] at h
  exact h
theorem bytes_op : Tryz.prog.bytesOf 55 = 256 := by kernel_rfl
theorem cells_ent : Tryz.prog.cellsOf 31 = 2 := by kernel_rfl
theorem cells_opl : Tryz.prog.cellsOf 29 = 1 := by kernel_rfl
set_option maxRecDepth 100000 in
theorem want_of {H : Type} {enc : TypeId × Value → H} {W : World} {fuel : Nat} {o : Opp} {t : Value} {x : DataW H × List MemPlace}
    (h : DataW.trod enc Tryz.prog W 0 (fun _ => true) true fuel 55 (o.v t).toList = some x) : o.rng := by
  obtain ⟨xs, k, hk, hxy, _, hxl, hf⟩ := DataW.trod_struct Tryz.underlying55 h
  match xs, hxl with
  | [y0, y1, y2, y3, y4, y5], _ =>
    have g5 := hf 5 _ rfl
    simp [cells_u, Opp.v] at g5
    obtain ⟨n5, q5, r5, w5⟩ := DataW.trod_int Tryz.underlying28 g5
    simp at q5
    have := u64_wf w5
    rw [← q5] at this
    exact ⟨this.1, this.2⟩
set_option maxRecDepth 100000 in
theorem open_ops {H : Type} {enc : TypeId × Value → H} {W : World} {fuel : Nat} {ao : Option Addr} {len cap : Nat} {x : DataW H × List MemPlace}
    (h : DataW.trod enc Tryz.prog W 0 (fun _ => true) true fuel 29 [.slice ao len cap] = some x) :
    ∃ (l : List OV) (D : Nat → DataW H) (spare : List (DataW H)), l.length = len ∧ (x.1 = .nil ∧ l = [] ∨ x.1 = .slice ((List.range l.length).map D) spare ∧ ∀ i (h : i < l.length), OpData l[i].o (D i)) ∧ OpsAt W ao l ∧ ∀ x ∈ l, x.o.rng := by
  rcases open_slice Tryz.underlying29 h with ⟨hc, hx⟩ | ⟨a, len', cap', m, n, D, Pl, hc, hb, hl, hm, hmm, hx, hel⟩
  · simp at hc
    obtain ⟨rfl, rfl, rfl⟩ := hc
    exact ⟨[], fun _ => .nil, [], rfl, .inl ⟨by rw [hx], rfl⟩, ⟨fun h => absurd rfl h, fun c hc => by simp at hc⟩, fun c hc => by simp at hc⟩
  · simp at hc
    obtain ⟨rfl, rfl, rfl⟩ := hc
    simp only [if_true] at hmm
    subst hmm
    rw [cells_op] at hel
    have each : ∀ i, i < len → ∃ y : OV, OpData y.o (D i) ∧ (∀ j, j < 21 → W.cell? (a.add (i * 21 + j)) = y.v.toList[j]?) ∧ CellsAt W y.ta (y.o.svc.tags.map Value.string) ∧ y.o.rng := by
      intro i hi
      obtain ⟨cs', h1, h2⟩ := hel i (by omega)
      obtain ⟨_, hlen, hcell⟩ := World.cells?_some h1
      obtain ⟨o, ta, tc, dt, e1, hdt, hct, hd⟩ := open_op (cs := cs'.toArray) (by simpa using hlen) (by simpa using h2)
      refine ⟨⟨o, ta, tc⟩, ⟨dt, hdt, by simpa using hd⟩, fun j hj => ?_, hct, ?_⟩
      · have := hcell j (by omega)
        rw [add_add] at this
        have e2 : cs' = (OV.v ⟨o, ta, tc⟩).toList := by
          have := congrArg Array.toList e1
          exact this
        rw [this, ← e2]
      · have e2 : cs' = (o.v (.slice ta o.svc.tags.length tc)).toList := by
          have := congrArg Array.toList e1
          simpa using this
        rw [e2] at h2
        exact want_of h2
    obtain ⟨f, hf⟩ : ∃ f : Nat → OV, ∀ i, i < len → _ := @choose_lt OV ⟨⟨oppZ, none, 0⟩⟩ len _ each
    have hlen : ((List.range len).map f).length = len := by simp
    refine ⟨(List.range len).map f, D, (List.range (m - len)).map fun j => D (len + j), hlen, .inr ⟨?_, fun i hi => ?_⟩, ⟨fun hne => ?_, fun c hc => ?_⟩, fun c hc => ?_⟩
    · rw [hx, hlen]
    · have hi' : i < len := by simpa using hi
      have := (hf i hi').1
      simpa using this
    · have h0 : 0 < len := by
        rcases Nat.eq_zero_or_pos len with h | h
        · subst h; exact absurd rfl hne
        · exact h
      obtain ⟨b, off, spot⟩ := a
      have hspot : spot = none := by
        have := (hf 0 h0).2.1 0 (by decide)
        have h2 : (f 0).v.toList[0]? = some (.int .i64 (f 0).o.kind) := rfl
        rw [h2] at this
        simpa [Addr.add] using World.cell?_spot this
      subst hspot
      refine ⟨b, off, rfl, fun j u hj => ?_⟩
      have hjl : j < len * 21 := by
        have := (List.getElem?_eq_some_iff.1 hj).1
        rw [ocs_length, hlen] at this
        exact this
      have hi : j / 21 < len := by omega
      have hg : ((List.range len).map f)[j / 21]? = some (f (j / 21)) := by simp [hi]
      have hfa := flat_at (fun c : OV => c.v.toList) 21 (fun _ => rfl) ((List.range len).map f) (j / 21) (j % 21) _ hg (by omega)
      have hjj : j / 21 * 21 + j % 21 = j := by omega
      rw [hjj] at hfa
      have hj2 : (f (j / 21)).v.toList[j % 21]? = some u := by rw [← hfa]; exact hj
      have := (hf _ hi).2.1 (j % 21) (by omega)
      rw [hj2, hjj, add_plain] at this
      exact this
    · obtain ⟨i, hi, rfl⟩ := List.mem_map.1 hc
      exact (hf i (List.mem_range.1 hi)).2.2.1
    · obtain ⟨i, hi, rfl⟩ := List.mem_map.1 hc
      exact (hf i (List.mem_range.1 hi)).2.2.2
set_option maxRecDepth 100000 in
/-- By the form's own reach. -/
theorem ops_reach {H : Type} {l : List OV} {D : Nat → DataW H} {spare : List (DataW H)} {d : DataW H} (hd : d = .nil ∧ l = [] ∨ d = .slice ((List.range l.length).map D) spare ∧ ∀ i (h : i < l.length), OpData l[i].o (D i)) (hw : ∀ n ∈ d.weights Tryz.prog 29, n ≤ reachBytes) :
    l.length * 256 ≤ 140737488351232 ∧ ∀ x ∈ l, x.o.small ∧ x.o.svc.tags.length ≤ 8796093021952 := by
  rcases hd with ⟨_, rfl⟩ | ⟨rfl, hD⟩
  · simp
  · simp only [DataW.weights, Tryz.underlying29, bytes_op] at hw
    refine ⟨?_, fun x hx => ?_⟩
    · have := hw _ (List.mem_cons_self ..)
      simp only [List.length_map, List.length_range, reachBytes] at this
      omega
    · obtain ⟨i, hi, rfl⟩ := List.getElem_of_mem hx
      obtain ⟨dt, hdt, hdi⟩ := hD i hi
      exact op_reach hdt hdi fun n hn => hw n (List.mem_cons_of_mem _ (List.mem_append_left _ (weights_in (List.mem_map.2 ⟨i, List.mem_range.2 hi, rfl⟩) n hn)))
set_option maxRecDepth 100000 in
theorem open_ent {H : Type} {enc : TypeId × Value → H} {W : World} {fuel : Nat} {cs : Array Value} {x : DataW H × List MemPlace} (hz : cs.size = 2)
    (h : DataW.trod enc Tryz.prog W 0 (fun _ => true) true fuel 31 cs.toList = some x) :
    ∃ (i : Int) (ao : Option Addr) (c : Nat) (l : List OV) (D : Nat → DataW H) (spare : List (DataW H)) (d : DataW H), cs = #[.int .u64 i, .slice ao l.length c] ∧ (0 ≤ i ∧ i ≤ 18446744073709551615) ∧ (d = .nil ∧ l = [] ∨ d = .slice ((List.range l.length).map D) spare ∧ ∀ i (h : i < l.length), OpData l[i].o (D i)) ∧ OpsAt W ao l ∧ (∀ x ∈ l, x.o.rng) ∧ x.1 = .agg [.lit (.int .u64 i), d] := by
  obtain ⟨c0, c1, rfl⟩ : ∃ c0 c1, cs = #[c0, c1] := by
    match cs, hz with
    | ⟨[c0, c1]⟩, _ => exact ⟨c0, c1, rfl⟩
  obtain ⟨xs, k, hk, hxy, _, hxl, hf⟩ := DataW.trod_struct Tryz.underlying31 h
  match xs, hxl with
  | [y0, y1], _ =>
    have g0 := hf 0 _ rfl
    have g1 := hf 1 _ rfl
    simp [cells_u, cells_opl] at g0 g1
    obtain ⟨n0, q0, r0, w0⟩ := DataW.trod_int Tryz.underlying28 g0
    obtain ⟨ta, tn, tc, rfl⟩ : ∃ ta tn tc, c1 = .slice ta tn tc := by
      rcases open_slice Tryz.underlying29 g1 with ⟨hc, _⟩ | ⟨a, len', cap', _, _, _, _, hc, _⟩
      · simp at hc; exact ⟨_, _, _, hc⟩
      · simp at hc; exact ⟨_, _, _, hc⟩
    obtain ⟨l, D, sp, rfl, hd, hat, hr⟩ := open_ops g1
    simp at q0
    subst q0
    refine ⟨n0, ta, tc, l, D, sp, y1.1, rfl, u64_wf w0, hd, hat, hr, ?_⟩
    rw [hxy]
    simp only [List.map_cons, List.map_nil, r0]
set_option maxRecDepth 100000 in
theorem ent_ok {H : Type} {i : Int} {l : List OV} {D : Nat → DataW H} {spare : List (DataW H)} {d dd : DataW H} (hi : 0 ≤ i ∧ i ≤ 18446744073709551615) (hd : d = .nil ∧ l = [] ∨ d = .slice ((List.range l.length).map D) spare ∧ ∀ i (h : i < l.length), OpData l[i].o (D i)) (hr : ∀ x ∈ l, x.o.rng) (hdd : dd = .agg [.lit (.int .u64 i), d]) (hw : ∀ n ∈ dd.weights Tryz.prog 31, n ≤ reachBytes) : EntOk i l := by
  subst hdd
  rw [DataW.weights, Tryz.underlying31] at hw
  obtain ⟨h1, h2⟩ := ops_reach hd fun k hk => hw k (by simp only [DataW.weightsEach, List.map_cons, List.map_nil, List.mem_append]; exact .inr (.inl hk))
  exact ⟨hi.1, hi.2, by omega, fun x hx => ⟨(h2 x hx).1, by have := (h2 x hx).2; omega⟩, hr, fun x hx => by have := (h2 x hx).2; omega⟩
end Go.Proofs.YtmkohdepgfahnaaGreatDoor
