import Derived.Test.YtieonnnlhhdfpaaGreatDoorRows
import Derived.Test.YtieonnnlhhdfpaaGreatDoorRwSort
import Derived.Test.YtieonnnlhhdfpaaGreatDoorRcFixS
import Derived.Test.YtieonnnlhhdfpaaGreatDoorJAppS
import Derived.Deep.Slices
import Derived.SizedLaws
import Derived.ProofKit
/- Layer 9 (records): arguments of types api.Node, api.Service, api.Check, opened; what their bulk bounds. -/
namespace Go.Proofs.YtieonnnlhhdfpaaGreatDoor
open Go.RowKit Go.Deep Go.ChangeShapes Go.WideShapes
set_option linter.unusedVariables false

def txData {H : Type} (t : ByteArray) : DataW H := .lit (.string t.data.toList)
theorem cells_tx : Tryz.prog.cellsOf 9 = 1 := by kernel_rfl
theorem cells_i : Tryz.prog.cellsOf 3 = 1 := by kernel_rfl
theorem cells_u : Tryz.prog.cellsOf 22 = 1 := by kernel_rfl
theorem cells_txs : Tryz.prog.cellsOf 50 = 1 := by kernel_rfl
theorem cells_node : Tryz.prog.cellsOf 54 = 4 := by kernel_rfl
theorem cells_svc : Tryz.prog.cellsOf 52 = 7 := by kernel_rfl
theorem cells_chk : Tryz.prog.cellsOf 56 = 7 := by kernel_rfl
def TextsData {H : Type} (l : List ByteArray) (d : DataW H) : Prop := d = .nil ∧ l = [] ∨ ∃ sp, d = .slice (l.map txData) sp
theorem open_texts {H : Type} {enc : TypeId × Value → H} {W : World} {fuel : Nat} {ao : Option Addr} {len cap : Nat} {x : DataW H × List MemPlace}
    (h : DataW.trod enc Tryz.prog W 0 (fun _ => true) true fuel 50 [.slice ao len cap] = some x) :
    ∃ l : List ByteArray, l.length = len ∧ TextsData l x.1 ∧ CellsAt W ao (l.map Value.string) := by
  rcases open_slice Tryz.underlying50 h with ⟨hc, hx⟩ | ⟨a, len', cap', m, n, D, Pl, hc, hb, hl, hm, hmm, hx, hel⟩
  · simp at hc
    obtain ⟨rfl, rfl, rfl⟩ := hc
    exact ⟨[], rfl, .inl ⟨by rw [hx], rfl⟩, fun h => absurd rfl h⟩
  · simp at hc
    obtain ⟨rfl, rfl, rfl⟩ := hc
    simp only [if_true] at hmm
    subst hmm
    rw [cells_tx] at hel
    have each : ∀ i, i < len → ∃ p : ByteArray, D i = txData p ∧ W.cell? (a.add i) = some (.string p) := by
      intro i hi
      obtain ⟨cs', h1, h2⟩ := hel i (by omega)
      obtain ⟨_, hlen, hcell⟩ := World.cells?_some h1
      match cs', hlen with
      | [v0], _ =>
        obtain ⟨s1, q1, r1, w1⟩ := DataW.trod_string Tryz.underlying9 h2
        have e0 := hcell 0 (by omega)
        rw [add_add] at e0
        simp at q1
        subst q1
        refine ⟨s1, ?_, by simpa using e0⟩
        have := congrArg Prod.fst r1
        simpa [txData] using this
    obtain ⟨f, hf⟩ : ∃ f : Nat → ByteArray, ∀ i, i < len → _ := @choose_lt ByteArray ⟨⟨#[]⟩⟩ len _ each
    refine ⟨(List.range len).map f, by simp, .inr ⟨(List.range (m - len)).map fun j => D (len + j), ?_⟩, fun hne => ?_⟩
    · rw [hx]
      simp only [DataW.slice.injEq, and_true]
      rw [List.map_map]
      exact List.map_congr_left fun i hi => (hf i (List.mem_range.1 hi)).1
    · have h0 : 0 < len := by
        rcases Nat.eq_zero_or_pos len with h | h
        · subst h; exact absurd rfl hne
        · exact h
      obtain ⟨b, off, spot⟩ := a
      have hspot : spot = none := by simpa [Addr.add] using World.cell?_spot (hf 0 h0).2
      subst hspot
      refine ⟨b, off, rfl, fun j u hj => ?_⟩
      have hj' : j < len := by have := (List.getElem?_eq_some_iff.1 hj).1; simpa using this
      have hu : u = .string (f j) := by simp [hj'] at hj; exact hj.symm
      rw [hu, ← add_plain]
      exact (hf j hj').2


set_option maxRecDepth 100000 in
theorem open_node {H : Type} {enc : TypeId × Value → H} {W : World} {fuel : Nat} {cs : Array Value} {x : DataW H × List MemPlace} (hz : cs.size = 4)
    (h : DataW.trod enc Tryz.prog W 0 (fun _ => true) true fuel 54 cs.toList = some x) :
    ∃ n : Nd, cs = n.v ∧ x.1 = .agg [txData n.name, txData n.addr, .lit (.int .u64 n.made), .lit (.int .u64 n.changed)] := by
  obtain ⟨c0, c1, c2, c3, rfl⟩ : ∃ c0 c1 c2 c3, cs = #[c0, c1, c2, c3] := by
    match cs, hz with
    | ⟨[c0, c1, c2, c3]⟩, _ => exact ⟨c0, c1, c2, c3, rfl⟩
  obtain ⟨xs, k, hk, hxy, _, hxl, hf⟩ := DataW.trod_struct Tryz.underlying54 h
  match xs, hxl with
  | [y0, y1, y2, y3], _ =>
    have g0 := hf 0 _ rfl
    have g1 := hf 1 _ rfl
    have g2 := hf 2 _ rfl
    have g3 := hf 3 _ rfl
    simp [cells_tx, cells_u] at g0 g1 g2 g3
    obtain ⟨s0, q0, r0, _⟩ := DataW.trod_string Tryz.underlying9 g0
    obtain ⟨s1, q1, r1, _⟩ := DataW.trod_string Tryz.underlying9 g1
    obtain ⟨n2, q2, r2, _⟩ := DataW.trod_int Tryz.underlying22 g2
    obtain ⟨n3, q3, r3, _⟩ := DataW.trod_int Tryz.underlying22 g3
    simp at q0 q1 q2 q3
    subst q0 q1 q2 q3
    refine ⟨⟨s0, s1, n2, n3⟩, rfl, ?_⟩
    rw [hxy]
    simp only [List.map_cons, List.map_nil, r0, r1, r2, r3, txData]
set_option maxRecDepth 100000 in
theorem open_svc {H : Type} {enc : TypeId × Value → H} {W : World} {fuel : Nat} {cs : Array Value} {x : DataW H × List MemPlace} (hz : cs.size = 7)
    (h : DataW.trod enc Tryz.prog W 0 (fun _ => true) true fuel 52 cs.toList = some x) :
    ∃ (s : Sp) (ta : Option Addr) (tc : Nat) (dt : DataW H), cs = s.v (.slice ta s.tags.length tc) ∧ TextsData s.tags dt ∧ CellsAt W ta (s.tags.map Value.string) ∧ x.1 = .agg [txData s.node, txData s.id, txData s.name, .lit (.int .i64 s.port), dt, .lit (.int .u64 s.made), .lit (.int .u64 s.changed)] := by
  obtain ⟨c0, c1, c2, c3, c4, c5, c6, rfl⟩ : ∃ c0 c1 c2 c3 c4 c5 c6, cs = #[c0, c1, c2, c3, c4, c5, c6] := by
    match cs, hz with
    | ⟨[c0, c1, c2, c3, c4, c5, c6]⟩, _ => exact ⟨c0, c1, c2, c3, c4, c5, c6, rfl⟩
  obtain ⟨xs, k, hk, hxy, _, hxl, hf⟩ := DataW.trod_struct Tryz.underlying52 h
  match xs, hxl with
  | [y0, y1, y2, y3, y4, y5, y6], _ =>
    have g0 := hf 0 _ rfl
    have g1 := hf 1 _ rfl
    have g2 := hf 2 _ rfl
    have g3 := hf 3 _ rfl
    have g4 := hf 4 _ rfl
    have g5 := hf 5 _ rfl
    have g6 := hf 6 _ rfl
    simp [cells_tx, cells_u, cells_i, cells_txs] at g0 g1 g2 g3 g4 g5 g6
    obtain ⟨s0, q0, r0, _⟩ := DataW.trod_string Tryz.underlying9 g0
    obtain ⟨s1, q1, r1, _⟩ := DataW.trod_string Tryz.underlying9 g1
    obtain ⟨s2, q2, r2, _⟩ := DataW.trod_string Tryz.underlying9 g2
    obtain ⟨n3, q3, r3, _⟩ := DataW.trod_int Tryz.underlying3 g3
    obtain ⟨n5, q5, r5, _⟩ := DataW.trod_int Tryz.underlying22 g5
    obtain ⟨n6, q6, r6, _⟩ := DataW.trod_int Tryz.underlying22 g6
    obtain ⟨ta, tn, tc, rfl⟩ : ∃ ta tn tc, c4 = .slice ta tn tc := by
      rcases open_slice Tryz.underlying50 g4 with ⟨hc, _⟩ | ⟨a, len', cap', _, _, _, _, hc, _⟩
      · simp at hc; exact ⟨_, _, _, hc⟩
      · simp at hc; exact ⟨_, _, _, hc⟩
    obtain ⟨l, rfl, hd, hcl⟩ := open_texts g4
    simp at q0 q1 q2 q3 q5 q6
    subst q0 q1 q2 q3 q5 q6
    refine ⟨⟨s0, s1, s2, n3, l, n5, n6⟩, ta, tc, y4.1, rfl, hd, hcl, ?_⟩
    rw [hxy]
    simp only [List.map_cons, List.map_nil, r0, r1, r2, r3, r5, r6, txData]
set_option maxRecDepth 100000 in
theorem open_chk {H : Type} {enc : TypeId × Value → H} {W : World} {fuel : Nat} {cs : Array Value} {x : DataW H × List MemPlace} (hz : cs.size = 7)
    (h : DataW.trod enc Tryz.prog W 0 (fun _ => true) true fuel 56 cs.toList = some x) :
    ∃ c : Ck, cs = c.v ∧ x.1 = .agg [txData c.node, txData c.id, txData c.service, .lit (.int .i64 c.status), txData c.note, .lit (.int .u64 c.made), .lit (.int .u64 c.changed)] := by
  obtain ⟨c0, c1, c2, c3, c4, c5, c6, rfl⟩ : ∃ c0 c1 c2 c3 c4 c5 c6, cs = #[c0, c1, c2, c3, c4, c5, c6] := by
    match cs, hz with
    | ⟨[c0, c1, c2, c3, c4, c5, c6]⟩, _ => exact ⟨c0, c1, c2, c3, c4, c5, c6, rfl⟩
  obtain ⟨xs, k, hk, hxy, _, hxl, hf⟩ := DataW.trod_struct Tryz.underlying56 h
  match xs, hxl with
  | [y0, y1, y2, y3, y4, y5, y6], _ =>
    have g0 := hf 0 _ rfl
    have g1 := hf 1 _ rfl
    have g2 := hf 2 _ rfl
    have g3 := hf 3 _ rfl
    have g4 := hf 4 _ rfl
    have g5 := hf 5 _ rfl
    have g6 := hf 6 _ rfl
    simp [cells_tx, cells_u, cells_i] at g0 g1 g2 g3 g4 g5 g6
    obtain ⟨s0, q0, r0, _⟩ := DataW.trod_string Tryz.underlying9 g0
    obtain ⟨s1, q1, r1, _⟩ := DataW.trod_string Tryz.underlying9 g1
    obtain ⟨s2, q2, r2, _⟩ := DataW.trod_string Tryz.underlying9 g2
    obtain ⟨n3, q3, r3, _⟩ := DataW.trod_int Tryz.underlying3 g3
    obtain ⟨s4, q4, r4, _⟩ := DataW.trod_string Tryz.underlying9 g4
    obtain ⟨n5, q5, r5, _⟩ := DataW.trod_int Tryz.underlying22 g5
    obtain ⟨n6, q6, r6, _⟩ := DataW.trod_int Tryz.underlying22 g6
    simp at q0 q1 q2 q3 q4 q5 q6
    subst q0 q1 q2 q3 q4 q5 q6
    refine ⟨⟨s0, s1, s2, n3, s4, n5, n6⟩, rfl, ?_⟩
    rw [hxy]
    simp only [List.map_cons, List.map_nil, r0, r1, r2, r3, r4, r5, r6, txData]
theorem bulkR_pos {H : Type} (d : DataW H) : 1 ≤ Rows.uptoBulk d := by
  cases d with
  | lit l => cases l <;> simp [Rows.uptoBulk]
  | _ => simp [Rows.uptoBulk]
theorem bulkR_mem {H : Type} : ∀ {l : List (DataW H)} {d : DataW H}, d ∈ l → Rows.uptoBulk d ≤ Rows.uptoBulkAll l
  | e :: l, d, h => by
    simp only [Rows.uptoBulkAll]
    rcases List.mem_cons.1 h with rfl | h
    · omega
    · have := bulkR_mem h; omega
theorem bulkR_len {H : Type} : ∀ l : List (DataW H), l.length ≤ Rows.uptoBulkAll l
  | [] => by simp
  | d :: l => by
    have h1 := bulkR_pos d
    have h2 := bulkR_len l
    simp only [Rows.uptoBulkAll, List.length_cons]
    omega
theorem texts_bulk {H : Type} {l : List ByteArray} {d : DataW H} (h : TextsData l d) : l.length ≤ Rows.uptoBulk d ∧ ∀ s ∈ l, s.size ≤ Rows.uptoBulk d := by
  rcases h with ⟨_, rfl⟩ | ⟨sp, rfl⟩
  · simp
  · simp only [Rows.uptoBulk]
    have h1 := bulkR_len (l.map (txData (H := H)))
    rw [List.length_map] at h1
    refine ⟨by omega, fun s hs => ?_⟩
    have h2 := bulkR_mem (List.mem_map_of_mem (f := txData (H := H)) hs)
    have h3 : Rows.uptoBulk (txData (H := H) s) = s.size + 1 := by
      unfold txData
      simp only [Rows.uptoBulk, Array.length_toList]
      rfl
    omega
theorem tx_bulk {H : Type} (s : ByteArray) : Rows.uptoBulk (txData (H := H) s) = s.size + 1 := by
  unfold txData
  simp only [Rows.uptoBulk, Array.length_toList]
  rfl
end Go.Proofs.YtieonnnlhhdfpaaGreatDoor

/- Layer 9 (records): an argument of type api.Op, opened. -/
namespace Go.Proofs.YtieonnnlhhdfpaaGreatDoor
open Go.RowKit Go.Deep Go.ChangeShapes Go.WideShapes
set_option linter.unusedVariables false

theorem cells_op : Tryz.prog.cellsOf 58 = 21 := by kernel_rfl
theorem cells_bool : Tryz.prog.cellsOf 4 = 1 := by kernel_rfl
set_option maxRecDepth 100000 in
set_option maxHeartbeats 1000000 in
theorem open_op {H : Type} {enc : TypeId × Value → H} {W : World} {fuel : Nat} {cs : Array Value} {x : DataW H × List MemPlace} (hz : cs.size = 21)
    (h : DataW.trod enc Tryz.prog W 0 (fun _ => true) true fuel 58 cs.toList = some x) :
    ∃ (o : Opp) (ta : Option Addr) (tc : Nat) (dt : DataW H), cs = o.v (.slice ta o.svc.tags.length tc) ∧ TextsData o.svc.tags dt ∧ CellsAt W ta (o.svc.tags.map Value.string) ∧ x.1 = .agg [.lit (.int .i64 o.kind), .agg [txData o.node.name, txData o.node.addr, .lit (.int .u64 o.node.made), .lit (.int .u64 o.node.changed)],
      .agg [txData o.svc.node, txData o.svc.id, txData o.svc.name, .lit (.int .i64 o.svc.port), dt, .lit (.int .u64 o.svc.made), .lit (.int .u64 o.svc.changed)], .agg [txData o.chk.node, txData o.chk.id, txData o.chk.service, .lit (.int .i64 o.chk.status), txData o.chk.note, .lit (.int .u64 o.chk.made), .lit (.int .u64 o.chk.changed)], .lit (.bool o.cas), .lit (.int .u64 o.want)] := by
  obtain ⟨c0, c1, c2, c3, c4, c5, c6, c7, c8, c9, c10, c11, c12, c13, c14, c15, c16, c17, c18, c19, c20, rfl⟩ : ∃ c0 c1 c2 c3 c4 c5 c6 c7 c8 c9 c10 c11 c12 c13 c14 c15 c16 c17 c18 c19 c20, cs = #[c0, c1, c2, c3, c4, c5, c6, c7, c8, c9, c10, c11, c12, c13, c14, c15, c16, c17, c18, c19, c20] := by
    match cs, hz with
    | ⟨[c0, c1, c2, c3, c4, c5, c6, c7, c8, c9, c10, c11, c12, c13, c14, c15, c16, c17, c18, c19, c20]⟩, _ => exact ⟨c0, c1, c2, c3, c4, c5, c6, c7, c8, c9, c10, c11, c12, c13, c14, c15, c16, c17, c18, c19, c20, rfl⟩
  obtain ⟨xs, k, hk, hxy, _, hxl, hf⟩ := DataW.trod_struct Tryz.underlying58 h
  match xs, hxl with
  | [y0, y1, y2, y3, y4, y5], _ =>
    have g0 := hf 0 _ rfl
    have g1 := hf 1 _ rfl
    have g2 := hf 2 _ rfl
    have g3 := hf 3 _ rfl
    have g4 := hf 4 _ rfl
    have g5 := hf 5 _ rfl
    simp [cells_node, cells_svc, cells_chk, cells_bool, cells_i, cells_u] at g0 g1 g2 g3 g4 g5
    obtain ⟨n0, q0, r0, _⟩ := DataW.trod_int Tryz.underlying3 g0
    obtain ⟨b4, q4, r4⟩ := DataW.trod_bool Tryz.underlying4 g4
    obtain ⟨n5, q5, r5, _⟩ := DataW.trod_int Tryz.underlying22 g5
    obtain ⟨n, e1, r1⟩ := open_node (cs := #[c1, c2, c3, c4]) rfl g1
    obtain ⟨s, ta, tc, dt, e2, hd, hc, r2⟩ := open_svc (cs := #[c5, c6, c7, c8, c9, c10, c11]) rfl g2
    obtain ⟨c, e3, r3⟩ := open_chk (cs := #[c12, c13, c14, c15, c16, c17, c18]) rfl g3
    simp [Nd.v] at e1
    simp [Sp.v] at e2
    simp [Ck.v] at e3
    obtain ⟨rfl, rfl, rfl, rfl⟩ := e1
    obtain ⟨rfl, rfl, rfl, rfl, rfl, rfl, rfl⟩ := e2
    obtain ⟨rfl, rfl, rfl, rfl, rfl, rfl, rfl⟩ := e3
    simp at q0 q4 q5
    subst q0 q4 q5
    refine ⟨⟨n0, n, s, c, b4, n5⟩, ta, tc, dt, rfl, hd, hc, ?_⟩
    rw [hxy]
    simp only [List.map_cons, List.map_nil, r0, r1, r2, r3, r4, r5]
end Go.Proofs.YtieonnnlhhdfpaaGreatDoor

/- Layer 9 (records): what the form's own reach bounds of arguments of types api.Node, api.Service, api.Check, api.Op. -/
namespace Go.Proofs.YtieonnnlhhdfpaaGreatDoor
open Go.RowKit Go.Deep Go.ChangeShapes Go.WideShapes
set_option linter.unusedVariables false

theorem bytes_tx : Tryz.prog.bytesOf 9 = 16 := by kernel_rfl
theorem weights_in {H : Type} {P : Program} {e : TypeId} : ∀ {l : List (DataW H)} {d : DataW H}, d ∈ l → ∀ n ∈ d.weights P e, n ∈ DataW.weightsAll P e l
  | d0 :: l, d, hd, n, hn => by
    simp only [DataW.weightsAll, List.mem_append]
    rcases List.mem_cons.1 hd with rfl | h
    · exact .inl hn
    · exact .inr (weights_in h n hn)
  | [], _, hd, _, _ => by simp at hd
theorem tx_reach {H : Type} {s : ByteArray} {t : TypeId} (hw : ∀ n ∈ (txData (H := H) s).weights Tryz.prog t, n ≤ reachBytes) : s.size ≤ 140737488351232 := by
  have := hw s.data.toList.length (by simp [txData, DataW.weights])
  simpa [reachBytes] using this
theorem texts_reach {H : Type} {l : List ByteArray} {d : DataW H} (hd : TextsData l d) (hw : ∀ n ∈ d.weights Tryz.prog 50, n ≤ reachBytes) : l.length ≤ 8796093021952 ∧ ∀ p ∈ l, p.size ≤ 140737488351232 := by
  rcases hd with ⟨_, rfl⟩ | ⟨sp, rfl⟩
  · simp
  · simp only [DataW.weights, Tryz.underlying50, bytes_tx] at hw
    refine ⟨?_, ?_⟩
    · have := hw _ (List.mem_cons_self ..)
      simp only [List.length_map, reachBytes] at this
      omega
    · intro p hp
      exact tx_reach (H := H) (t := 9) fun n hn => hw n (List.mem_cons_of_mem _ (List.mem_append_left _ (weights_in (List.mem_map_of_mem hp) n hn)))
theorem node_reach {H : Type} {n : Nd} {d : DataW H} (hd : d = .agg [txData n.name, txData n.addr, .lit (.int .u64 n.made), .lit (.int .u64 n.changed)]) (hw : ∀ k ∈ d.weights Tryz.prog 54, k ≤ reachBytes) : n.name.size ≤ 140737488351232 ∧ n.addr.size ≤ 140737488351232 := by
  rw [hd] at hw
  simp only [DataW.weights, Tryz.underlying54] at hw
  exact ⟨(tx_reach (H := H) (t := 9) fun k hk => hw k (by simp only [DataW.weightsEach, List.map_cons, List.map_nil, List.mem_append]; exact .inl hk)), (tx_reach (H := H) (t := 9) fun k hk => hw k (by simp only [DataW.weightsEach, List.map_cons, List.map_nil, List.mem_append]; exact .inr (.inl hk)))⟩
theorem svc_reach {H : Type} {s : Sp} {dt d : DataW H} (ht : TextsData s.tags dt) (hd : d = .agg [txData s.node, txData s.id, txData s.name, .lit (.int .i64 s.port), dt, .lit (.int .u64 s.made), .lit (.int .u64 s.changed)]) (hw : ∀ k ∈ d.weights Tryz.prog 52, k ≤ reachBytes) : s.small ∧ s.tags.length ≤ 8796093021952 := by
  rw [hd] at hw
  simp only [DataW.weights, Tryz.underlying52] at hw
  have h1 : s.node.size ≤ 140737488351232 := (tx_reach (H := H) (t := 9) fun k hk => hw k (by simp only [DataW.weightsEach, List.map_cons, List.map_nil, List.mem_append]; exact .inl hk))
  have h2 : s.id.size ≤ 140737488351232 := (tx_reach (H := H) (t := 9) fun k hk => hw k (by simp only [DataW.weightsEach, List.map_cons, List.map_nil, List.mem_append]; exact .inr (.inl hk)))
  have h3 : s.name.size ≤ 140737488351232 := (tx_reach (H := H) (t := 9) fun k hk => hw k (by simp only [DataW.weightsEach, List.map_cons, List.map_nil, List.mem_append]; exact .inr (.inr (.inl hk))))
  have h4 := texts_reach ht fun k hk => hw k (by simp only [DataW.weightsEach, List.map_cons, List.map_nil, List.mem_append]; exact .inr (.inr (.inr (.inr (.inl hk)))))
  exact ⟨⟨by omega, by omega, by omega, by have := h4.1; omega, fun x hx => by have := h4.2 x hx; omega⟩, h4.1⟩
theorem chk_reach {H : Type} {c : Ck} {d : DataW H} (hd : d = .agg [txData c.node, txData c.id, txData c.service, .lit (.int .i64 c.status), txData c.note, .lit (.int .u64 c.made), .lit (.int .u64 c.changed)]) (hw : ∀ k ∈ d.weights Tryz.prog 56, k ≤ reachBytes) : c.small := by
  rw [hd] at hw
  simp only [DataW.weights, Tryz.underlying56] at hw
  have h1 : c.node.size ≤ 140737488351232 := (tx_reach (H := H) (t := 9) fun k hk => hw k (by simp only [DataW.weightsEach, List.map_cons, List.map_nil, List.mem_append]; exact .inl hk))
  have h2 : c.id.size ≤ 140737488351232 := (tx_reach (H := H) (t := 9) fun k hk => hw k (by simp only [DataW.weightsEach, List.map_cons, List.map_nil, List.mem_append]; exact .inr (.inl hk)))
  have h3 : c.service.size ≤ 140737488351232 := (tx_reach (H := H) (t := 9) fun k hk => hw k (by simp only [DataW.weightsEach, List.map_cons, List.map_nil, List.mem_append]; exact .inr (.inr (.inl hk))))
  have h4 : c.note.size ≤ 140737488351232 := (tx_reach (H := H) (t := 9) fun k hk => hw k (by simp only [DataW.weightsEach, List.map_cons, List.map_nil, List.mem_append]; exact .inr (.inr (.inr (.inr (.inl hk))))))
  exact ⟨by omega, by omega, by omega, by omega⟩
set_option maxRecDepth 100000 in
theorem op_reach {H : Type} {o : Opp} {dt d : DataW H} (ht : TextsData o.svc.tags dt) (hd : d = .agg [.lit (.int .i64 o.kind), .agg [txData o.node.name, txData o.node.addr, .lit (.int .u64 o.node.made), .lit (.int .u64 o.node.changed)],
      .agg [txData o.svc.node, txData o.svc.id, txData o.svc.name, .lit (.int .i64 o.svc.port), dt, .lit (.int .u64 o.svc.made), .lit (.int .u64 o.svc.changed)], .agg [txData o.chk.node, txData o.chk.id, txData o.chk.service, .lit (.int .i64 o.chk.status), txData o.chk.note, .lit (.int .u64 o.chk.made), .lit (.int .u64 o.chk.changed)], .lit (.bool o.cas), .lit (.int .u64 o.want)]) (hw : ∀ k ∈ d.weights Tryz.prog 58, k ≤ reachBytes) : o.small ∧ o.svc.tags.length ≤ 8796093021952 := by
  rw [hd] at hw
  rw [DataW.weights, Tryz.underlying58] at hw
  have h1 := node_reach (n := o.node) (d := (.agg [txData o.node.name, txData o.node.addr, .lit (.int .u64 o.node.made), .lit (.int .u64 o.node.changed)] : DataW H)) rfl fun k hk => hw k (by simp only [DataW.weightsEach, List.map_cons, List.map_nil, List.mem_append]; exact .inr (.inl hk))
  have h2 := svc_reach (s := o.svc) ht (d := (.agg [txData o.svc.node, txData o.svc.id, txData o.svc.name, .lit (.int .i64 o.svc.port), dt, .lit (.int .u64 o.svc.made), .lit (.int .u64 o.svc.changed)] : DataW H)) rfl fun k hk => hw k (by simp only [DataW.weightsEach, List.map_cons, List.map_nil, List.mem_append]; exact .inr (.inr (.inl hk)))
  have h3 := chk_reach (c := o.chk) (d := (.agg [txData o.chk.node, txData o.chk.id, txData o.chk.service, .lit (.int .i64 o.chk.status), txData o.chk.note, .lit (.int .u64 o.chk.made), .lit (.int .u64 o.chk.changed)] : DataW H)) rfl fun k hk => hw k (by simp only [DataW.weightsEach, List.map_cons, List.map_nil, List.mem_append]; exact .inr (.inr (.inr (.inl hk))))
  exact ⟨⟨by omega, by omega, h2.1, h3⟩, h2.2⟩
end Go.Proofs.YtieonnnlhhdfpaaGreatDoor
