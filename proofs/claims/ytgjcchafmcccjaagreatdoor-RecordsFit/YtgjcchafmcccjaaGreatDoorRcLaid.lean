import Derived.Test.YtgjcchafmcccjaaGreatDoorRows
import Derived.Test.YtgjcchafmcccjaaGreatDoorRwSort
import Derived.Test.YtgjcchafmcccjaaGreatDoorRcFixS
import Derived.Test.YtgjcchafmcccjaaGreatDoorRwPut
import Derived.Deep.Slices
import Derived.SizedLaws
import Derived.ProofKit
import Derived.Test.YtgjcchafmcccjaaGreatDoorRcOctet
import Derived.Lay
import Derived.Lib.LaidTab
import Derived.MakeChecks
/- Layer 9 (records): arguments of types api.Node, api.Service, api.Check, opened; what their bulk bounds. -/
namespace Go.Proofs.YtgjcchafmcccjaaGreatDoor
open Go.RowKit Go.Deep Go.ChangeShapes Go.WideShapes
set_option linter.unusedVariables false

def txData {H : Type} (t : ByteArray) : DataW H := .lit (.string t.data.toList)
theorem cells_tx : Tryz.prog.cellsOf 9 = 1 := by kernel_rfl
theorem cells_i : Tryz.prog.cellsOf 3 = 1 := by kernel_rfl
theorem cells_u : Tryz.prog.cellsOf 23 = 1 := by kernel_rfl
theorem cells_txs : Tryz.prog.cellsOf 22 = 1 := by kernel_rfl
theorem cells_node : Tryz.prog.cellsOf 27 = 4 := by kernel_rfl
theorem cells_svc : Tryz.prog.cellsOf 25 = 7 := by kernel_rfl
def TextsData {H : Type} (l : List ByteArray) (d : DataW H) : Prop := d = .nil ∧ l = [] ∨ ∃ sp, d = .slice (l.map txData) sp
theorem open_texts {H : Type} {enc : TypeId × Value → H} {W : World} {fuel : Nat} {ao : Option Addr} {len cap : Nat} {x : DataW H × List MemPlace}
    (h : DataW.trod enc Tryz.prog W 0 (fun _ => true) true fuel 22 [.slice ao len cap] = some x) :
    ∃ l : List ByteArray, l.length = len ∧ TextsData l x.1 ∧ CellsAt W ao (l.map Value.string) := by
  rcases open_slice Tryz.underlying22 h with ⟨hc, hx⟩ | ⟨a, len', cap', m, n, D, Pl, hc, hb, hl, hm, hmm, hx, hel⟩
  · simp at hc
    obtain ⟨rfl, rfl, rfl⟩ := hc
    exact ⟨[], rfl, .inl ⟨by rw [hx], rfl⟩, fun h => absurd rfl h⟩
  · simp at hc
    obtain ⟨rfl, rfl, rfl⟩ := hc
    simp only [if_true] at hmm
    subst hmm
    rw [cells_tx] at hel
    have each : ∀ i, i < len → ∃ p : ByteArray, D i = txData p ∧ W.cell? (a.add i) = some (.string p) := by
      intro i hi
      obtain ⟨cs', h1, h2⟩ := hel i (by omega)
      obtain ⟨_, hlen, hcell⟩ := World.cells?_some h1
      match cs', hlen with
      | [v0], _ =>
        obtain ⟨s1, q1, r1, w1⟩ := DataW.trod_string Tryz.underlying9 h2
        have e0 := hcell 0 (by omega)
        rw [add_add] at e0
        simp at q1
        subst q1
        refine ⟨s1, ?_, by simpa using e0⟩
        have := congrArg Prod.fst r1
        simpa [txData] using this
    obtain ⟨f, hf⟩ : ∃ f : Nat → ByteArray, ∀ i, i < len → _ := @choose_lt ByteArray ⟨⟨#[]⟩⟩ len _ each
    refine ⟨(List.range len).map f, by simp, .inr ⟨(List.range (m - len)).map fun j => D (len + j), ?_⟩, fun hne => ?_⟩
    · rw [hx]
      simp only [DataW.slice.injEq, and_true]
      rw [List.map_map]
      exact List.map_congr_left fun i hi => (hf i (List.mem_range.1 hi)).1
    · have h0 : 0 < len := by
        rcases Nat.eq_zero_or_pos len with h | h
        · subst h; exact absurd rfl hne
        · exact h
      obtain ⟨b, off, spot⟩ := a
      have hspot : spot = none := by simpa [Addr.add] using World.cell?_spot (hf 0 h0).2
      subst hspot
      refine ⟨b, off, rfl, fun j u hj => ?_⟩
      have hj' : j < len := by have := (List.getElem?_eq_some_iff.1 hj).1; simpa using this
      have hu : u = .string (f j) := by simp [hj'] at hj; exact hj.symm
      rw [hu, ← add_plain]
      exact (hf j hj').2


set_option maxRecDepth 100000 in
theorem open_node {H : Type} {enc : TypeId × Value → H} {W : World} {fuel : Nat} {cs : Array Value} {x : DataW H × List MemPlace} (hz : cs.size = 4)
    (h : DataW.trod enc Tryz.prog W 0 (fun _ => true) true fuel 27 cs.toList = some x) :
    ∃ n : Nd, cs = n.v ∧ x.1 = .agg [txData n.name, txData n.addr, .lit (.int .u64 n.made), .lit (.int .u64 n.changed)] := by
  obtain ⟨c0, c1, c2, c3, rfl⟩ : ∃ c0 c1 c2 c3, cs = #[c0, c1, c2, c3] := by
    match cs, hz with
    | ⟨[c0, c1, c2, c3]⟩, _ => exact ⟨c0, c1, c2, c3, rfl⟩
  obtain ⟨xs, k, hk, hxy, _, hxl, hf⟩ := DataW.trod_struct Tryz.underlying27 h
  match xs, hxl with
  | [y0, y1, y2, y3], _ =>
    have g0 := hf 0 _ rfl
    have g1 := hf 1 _ rfl
    have g2 := hf 2 _ rfl
    have g3 := hf 3 _ rfl
    simp [cells_tx, cells_u] at g0 g1 g2 g3
    obtain ⟨s0, q0, r0, _⟩ := DataW.trod_string Tryz.underlying9 g0
    obtain ⟨s1, q1, r1, _⟩ := DataW.trod_string Tryz.underlying9 g1
    obtain ⟨n2, q2, r2, _⟩ := DataW.trod_int Tryz.underlying23 g2
    obtain ⟨n3, q3, r3, _⟩ := DataW.trod_int Tryz.underlying23 g3
    simp at q0 q1 q2 q3
    subst q0 q1 q2 q3
    refine ⟨⟨s0, s1, n2, n3⟩, rfl, ?_⟩
    rw [hxy]
    simp only [List.map_cons, List.map_nil, r0, r1, r2, r3, txData]
set_option maxRecDepth 100000 in
theorem open_svc {H : Type} {enc : TypeId × Value → H} {W : World} {fuel : Nat} {cs : Array Value} {x : DataW H × List MemPlace} (hz : cs.size = 7)
    (h : DataW.trod enc Tryz.prog W 0 (fun _ => true) true fuel 25 cs.toList = some x) :
    ∃ (s : Sp) (ta : Option Addr) (tc : Nat) (dt : DataW H), cs = s.v (.slice ta s.tags.length tc) ∧ TextsData s.tags dt ∧ CellsAt W ta (s.tags.map Value.string) ∧ x.1 = .agg [txData s.node, txData s.id, txData s.name, .lit (.int .i64 s.port), dt, .lit (.int .u64 s.made), .lit (.int .u64 s.changed)] := by
  obtain ⟨c0, c1, c2, c3, c4, c5, c6, rfl⟩ : ∃ c0 c1 c2 c3 c4 c5 c6, cs = #[c0, c1, c2, c3, c4, c5, c6] := by
    match cs, hz with
    | ⟨[c0, c1, c2, c3, c4, c5, c6]⟩, _ => exact ⟨c0, c1, c2, c3, c4, c5, c6, rfl⟩
  obtain ⟨xs, k, hk, hxy, _, hxl, hf⟩ := DataW.trod_struct Tryz.underlying25 h
  match xs, hxl with
  | [y0, y1, y2, y3, y4, y5, y6], _ =>
    have g0 := hf 0 _ rfl
    have g1 := hf 1 _ rfl
    have g2 := hf 2 _ rfl
    have g3 := hf 3 _ rfl
    have g4 := hf 4 _ rfl
    have g5 := hf 5 _ rfl
    have g6 := hf 6 _ rfl
    simp [cells_tx, cells_u, cells_i, cells_txs] at g0 g1 g2 g3 g4 g5 g6
    obtain ⟨s0, q0, r0, _⟩ := DataW.trod_string Tryz.underlying9 g0
    obtain ⟨s1, q1, r1, _⟩ := DataW.trod_string Tryz.underlying9 g1
    obtain ⟨s2, q2, r2, _⟩ := DataW.trod_string Tryz.underlying9 g2
    obtain ⟨n3, q3, r3, _⟩ := DataW.trod_int Tryz.underlying3 g3
    obtain ⟨n5, q5, r5, _⟩ := DataW.trod_int Tryz.underlying23 g5
    obtain ⟨n6, q6, r6, _⟩ := DataW.trod_int Tryz.underlying23 g6
    obtain ⟨ta, tn, tc, rfl⟩ : ∃ ta tn tc, c4 = .slice ta tn tc := by
      rcases open_slice Tryz.underlying22 g4 with ⟨hc, _⟩ | ⟨a, len', cap', _, _, _, _, hc, _⟩
      · simp at hc; exact ⟨_, _, _, hc⟩
      · simp at hc; exact ⟨_, _, _, hc⟩
    obtain ⟨l, rfl, hd, hcl⟩ := open_texts g4
    simp at q0 q1 q2 q3 q5 q6
    subst q0 q1 q2 q3 q5 q6
    refine ⟨⟨s0, s1, s2, n3, l, n5, n6⟩, ta, tc, y4.1, rfl, hd, hcl, ?_⟩
    rw [hxy]
    simp only [List.map_cons, List.map_nil, r0, r1, r2, r3, r5, r6, txData]
theorem bulkR_pos {H : Type} (d : DataW H) : 1 ≤ Rows.uptoBulk d := by
  cases d with
  | lit l => cases l <;> simp [Rows.uptoBulk]
  | _ => simp [Rows.uptoBulk]
theorem bulkR_mem {H : Type} : ∀ {l : List (DataW H)} {d : DataW H}, d ∈ l → Rows.uptoBulk d ≤ Rows.uptoBulkAll l
  | e :: l, d, h => by
    simp only [Rows.uptoBulkAll]
    rcases List.mem_cons.1 h with rfl | h
    · omega
    · have := bulkR_mem h; omega
theorem bulkR_len {H : Type} : ∀ l : List (DataW H), l.length ≤ Rows.uptoBulkAll l
  | [] => by simp
  | d :: l => by
    have h1 := bulkR_pos d
    have h2 := bulkR_len l
    simp only [Rows.uptoBulkAll, List.length_cons]
    omega
theorem texts_bulk {H : Type} {l : List ByteArray} {d : DataW H} (h : TextsData l d) : l.length ≤ Rows.uptoBulk d ∧ ∀ s ∈ l, s.size ≤ Rows.uptoBulk d := by
  rcases h with ⟨_, rfl⟩ | ⟨sp, rfl⟩
  · simp
  · simp only [Rows.uptoBulk]
    have h1 := bulkR_len (l.map (txData (H := H)))
    rw [List.length_map] at h1
    refine ⟨by omega, fun s hs => ?_⟩
    have h2 := bulkR_mem (List.mem_map_of_mem (f := txData (H := H)) hs)
    have h3 : Rows.uptoBulk (txData (H := H) s) = s.size + 1 := by
      unfold txData
      simp only [Rows.uptoBulk, Array.length_toList]
      rfl
    omega
theorem tx_bulk {H : Type} (s : ByteArray) : Rows.uptoBulk (txData (H := H) s) = s.size + 1 := by
  unfold txData
  simp only [Rows.uptoBulk, Array.length_toList]
  rfl
end Go.Proofs.YtgjcchafmcccjaaGreatDoor

/- Layer 9 (records): an argument of type api.Op, opened. -/
namespace Go.Proofs.YtgjcchafmcccjaaGreatDoor
open Go.RowKit Go.Deep Go.ChangeShapes Go.WideShapes
set_option linter.unusedVariables false

theorem cells_bool : Tryz.prog.cellsOf 4 = 1 := by kernel_rfl
end Go.Proofs.YtgjcchafmcccjaaGreatDoor

/- Layer 9 (records): what the form's own reach bounds of arguments of types api.Node, api.Service, api.Check, api.Op. -/
namespace Go.Proofs.YtgjcchafmcccjaaGreatDoor
open Go.RowKit Go.Deep Go.ChangeShapes Go.WideShapes
set_option linter.unusedVariables false

theorem bytes_tx : Tryz.prog.bytesOf 9 = 16 := by kernel_rfl
theorem weights_in {H : Type} {P : Program} {e : TypeId} : ∀ {l : List (DataW H)} {d : DataW H}, d ∈ l → ∀ n ∈ d.weights P e, n ∈ DataW.weightsAll P e l
  | d0 :: l, d, hd, n, hn => by
    simp only [DataW.weightsAll, List.mem_append]
    rcases List.mem_cons.1 hd with rfl | h
    · exact .inl hn
    · exact .inr (weights_in h n hn)
  | [], _, hd, _, _ => by simp at hd
theorem tx_reach {H : Type} {s : ByteArray} {t : TypeId} (hw : ∀ n ∈ (txData (H := H) s).weights Tryz.prog t, n ≤ reachBytes) : s.size ≤ 140737488351232 := by
  have := hw s.data.toList.length (by simp [txData, DataW.weights])
  simpa [reachBytes] using this
theorem texts_reach {H : Type} {l : List ByteArray} {d : DataW H} (hd : TextsData l d) (hw : ∀ n ∈ d.weights Tryz.prog 22, n ≤ reachBytes) : l.length ≤ 8796093021952 ∧ ∀ p ∈ l, p.size ≤ 140737488351232 := by
  rcases hd with ⟨_, rfl⟩ | ⟨sp, rfl⟩
  · simp
  · simp only [DataW.weights, Tryz.underlying22, bytes_tx] at hw
    refine ⟨?_, ?_⟩
    · have := hw _ (List.mem_cons_self ..)
      simp only [List.length_map, reachBytes] at this
      omega
    · intro p hp
      exact tx_reach (H := H) (t := 9) fun n hn => hw n (List.mem_cons_of_mem _ (List.mem_append_left _ (weights_in (List.mem_map_of_mem hp) n hn)))
theorem node_reach {H : Type} {n : Nd} {d : DataW H} (hd : d = .agg [txData n.name, txData n.addr, .lit (.int .u64 n.made), .lit (.int .u64 n.changed)]) (hw : ∀ k ∈ d.weights Tryz.prog 27, k ≤ reachBytes) : n.name.size ≤ 140737488351232 ∧ n.addr.size ≤ 140737488351232 := by
  rw [hd] at hw
  simp only [DataW.weights, Tryz.underlying27] at hw
  exact ⟨(tx_reach (H := H) (t := 9) fun k hk => hw k (by simp only [DataW.weightsEach, List.map_cons, List.map_nil, List.mem_append]; exact .inl hk)), (tx_reach (H := H) (t := 9) fun k hk => hw k (by simp only [DataW.weightsEach, List.map_cons, List.map_nil, List.mem_append]; exact .inr (.inl hk)))⟩
theorem svc_reach {H : Type} {s : Sp} {dt d : DataW H} (ht : TextsData s.tags dt) (hd : d = .agg [txData s.node, txData s.id, txData s.name, .lit (.int .i64 s.port), dt, .lit (.int .u64 s.made), .lit (.int .u64 s.changed)]) (hw : ∀ k ∈ d.weights Tryz.prog 25, k ≤ reachBytes) : s.small ∧ s.tags.length ≤ 8796093021952 := by
  rw [hd] at hw
  simp only [DataW.weights, Tryz.underlying25] at hw
  have h1 : s.node.size ≤ 140737488351232 := (tx_reach (H := H) (t := 9) fun k hk => hw k (by simp only [DataW.weightsEach, List.map_cons, List.map_nil, List.mem_append]; exact .inl hk))
  have h2 : s.id.size ≤ 140737488351232 := (tx_reach (H := H) (t := 9) fun k hk => hw k (by simp only [DataW.weightsEach, List.map_cons, List.map_nil, List.mem_append]; exact .inr (.inl hk)))
  have h3 : s.name.size ≤ 140737488351232 := (tx_reach (H := H) (t := 9) fun k hk => hw k (by simp only [DataW.weightsEach, List.map_cons, List.map_nil, List.mem_append]; exact .inr (.inr (.inl hk))))
  have h4 := texts_reach ht fun k hk => hw k (by simp only [DataW.weightsEach, List.map_cons, List.map_nil, List.mem_append]; exact .inr (.inr (.inr (.inr (.inl hk)))))
  exact ⟨⟨by omega, by omega, by omega, by have := h4.1; omega, fun x hx => by have := h4.2 x hx; omega⟩, h4.1⟩
end Go.Proofs.YtgjcchafmcccjaaGreatDoor

/- What the listed variables read as, one by one. -/
namespace Go.Proofs.YtgjcchafmcccjaaGreatDoor
open Go.RowKit
set_option linter.unusedVariables false

theorem laid_entry {P : Program} {W : World} : ∀ {laid : List (String × DataW Unit)} {ps : List MemPlace}, DataW.LaidVars P W laid ps → ∀ {n : String} {d : DataW Unit}, (n, d) ∈ laid →
    ∃ g t cs fuel q, P.globalNamed n = some g ∧ (P.globals[g]?).map (·.type) = some t ∧ W.var? P n = some cs ∧ DataW.trod (fun _ => ()) P W 0 (fun _ => true) false fuel t cs.toList = some (d, q) := by
  intro laid
  induction laid with
  | nil => intro ps _ n d hm; simp at hm
  | cons x laid ih =>
    intro ps h n d hm
    obtain ⟨g, t, cs, fuel, p, q, hg, ht, hv, hd, hr, _⟩ := h
    rcases List.mem_cons.1 hm with rfl | hm
    · exact ⟨g, t, cs, fuel, p, hg, ht, hv, hd⟩
    · exact ih hr hm
set_option maxRecDepth 100000 in
theorem pow_of {W : World} {t : TypeId} {cs : Array Value} {fuel : Nat} {q : List MemPlace} (ht : t = 178) (hv : W.var? Tryz.prog "internal/strconv.uint64pow10" = some cs) (hd : DataW.trod (fun _ => ()) Tryz.prog W 0 (fun _ => true) false fuel t cs.toList = some (Lib.tabData .u64 Lib.pow10Tab, q)) : Lib.TabIs Tryz.prog W "internal/strconv.uint64pow10" .u64 Lib.pow10Tab := by
  subst ht
  unfold Lib.TabIs
  rw [hv, ← Lib.cells_of_tab Tryz.underlying178 Tryz.underlying23 (by kernel_rfl) (by kernel_rfl) hd]
set_option maxRecDepth 100000 in
theorem err_of {W : World} {n : String} {t : TypeId} {cs : Array Value} {fuel : Nat} {q : List MemPlace} {nm : String} {d : DataW Unit} (ht : t = 100) (hv : W.var? Tryz.prog n = some cs) (hd : DataW.trod (fun _ => ()) Tryz.prog W 0 (fun _ => true) false fuel t cs.toList = some (.iface nm d, q)) : ∃ t p, W.var? Tryz.prog n = some #[.iface t p] := by
  subst ht
  obtain ⟨_, u, v, hcs, _, _⟩ := iface_of_trod Tryz.underlying100 hd
  exact ⟨u, v, by rw [hv]; congr 1; exact Array.toList_inj.1 hcs⟩
set_option maxRecDepth 100000 in
theorem vs_of {W : World} {laid : List (String × DataW Unit)} (hp : (laid.all fun x => x.2.handleName?.isNone) = true) {nm1 nm2 : String} {d1 d2 : DataW Unit}
    (h1 : ("internal/strconv.uint64pow10", Lib.tabData .u64 Lib.pow10Tab) ∈ laid) (h2 : ("strconv.ErrSyntax", .iface nm1 d1) ∈ laid) (h3 : ("strconv.ErrRange", .iface nm2 d2) ∈ laid) (h : laidMetH Tryz.prog laid W) : Vs W := by
  rw [MakeChecks.laidMetH_plain _ _ _ hp] at h
  obtain ⟨ps, hl, _⟩ := h
  obtain ⟨g1, t1, c1, f1, q1, hg1, ht1, hv1, hd1⟩ := laid_entry hl h1
  obtain ⟨g2, t2, c2, f2, q2, hg2, ht2, hv2, hd2⟩ := laid_entry hl h2
  obtain ⟨g3, t3, c3, f3, q3, hg3, ht3, hv3, hd3⟩ := laid_entry hl h3
  have ty : ∀ {n : String} {g : Nat} {t t' : TypeId}, Tryz.prog.globalNamed n = some g → (Tryz.prog.globals[g]?).map (·.type) = some t → ((Tryz.prog.globalNamed n).bind fun g => (Tryz.prog.globals[g]?).map (·.type)) = some t' → t = t' := fun ha hb hc => by
    rw [ha, Option.bind_some, hb] at hc
    exact Option.some.inj hc
  exact ⟨pow_of (ty hg1 ht1 (by kernel_rfl)) hv1 hd1, err_of (ty hg2 ht2 (by kernel_rfl)) hv2 hd2, err_of (ty hg3 ht3 (by kernel_rfl)) hv3 hd3⟩
end Go.Proofs.YtgjcchafmcccjaaGreatDoor
