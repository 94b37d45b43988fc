import Derived.Test.YtmkohdepgfahnaaGreatDoorRcArgs
import Derived.Test.YtmkohdepgfahnaaGreatDoorRcOpD
/- Layer 9 (records): an argument of type api.Op, opened. -/
namespace Go.Proofs.YtmkohdepgfahnaaGreatDoor
open Go.RowKit Go.Deep Go.ChangeShapes Go.WideShapes
set_option linter.unusedVariables false

theorem cells_op : Tryz.prog.cellsOf 55 = 21 := by kernel_rfl
theorem cells_bool : Tryz.prog.cellsOf 4 = 1 := by kernel_rfl
set_option maxRecDepth 100000 in
set_option maxHeartbeats 1000000 in
theorem open_op {H : Type} {enc : TypeId × Value → H} {W : World} {fuel : Nat} {cs : Array Value} {x : DataW H × List MemPlace} (hz : cs.size = 21)
    (h : DataW.trod enc Tryz.prog W 0 (fun _ => true) true fuel 55 cs.toList = some x) :
    ∃ (o : Opp) (ta : Option Addr) (tc : Nat) (dt : DataW H), cs = o.v (.slice ta o.svc.tags.length tc) ∧ TextsData o.svc.tags dt ∧ CellsAt W ta (o.svc.tags.map Value.string) ∧ x.1 = .agg [.lit (.int .i64 o.kind), .agg [txData o.node.name, txData o.node.addr, .lit (.int .u64 o.node.made), .lit (.int .u64 o.node.changed)],
      .agg [txData o.svc.node, txData o.svc.id, txData o.svc.name, .lit (.int .i64 o.svc.port), dt, .lit (.int .u64 o.svc.made), .lit (.int .u64 o.svc.changed)], .agg [txData o.chk.node, txData o.chk.id, txData o.chk.service, .lit (.int .i64 o.chk.status), txData o.chk.note, .lit (.int .u64 o.chk.made), .lit (.int .u64 o.chk.changed)], .lit (.bool o.cas), .lit (.int .u64 o.want)] := by
  obtain ⟨c0, c1, c2, c3, c4, c5, c6, c7, c8, c9, c10, c11, c12, c13, c14, c15, c16, c17, c18, c19, c20, rfl⟩ : ∃ c0 c1 c2 c3 c4 c5 c6 c7 c8 c9 c10 c11 c12 c13 c14 c15 c16 c17 c18 c19 c20, cs = #[c0, c1, c2, c3, c4, c5, c6, c7, c8, c9, c10, c11, c12, c13, c14, c15, c16, c17, c18, c19, c20] := by
    match cs, hz with
    | ⟨[c0, c1, c2, c3, c4, c5, c6, c7, c8, c9, c10, c11, c12, c13, c14, c15, c16, c17, c18, c19, c20]⟩, _ => exact ⟨c0, c1, c2, c3, c4, c5, c6, c7, c8, c9, c10, c11, c12, c13, c14, c15, c16, c17, c18, c19, c20, rfl⟩
  obtain ⟨xs, k, hk, hxy, _, hxl, hf⟩ := DataW.trod_struct Tryz.underlying55 h
  match xs, hxl with
  | [y0, y1, y2, y3, y4, y5], _ =>
    have g0 := hf 0 _ rfl
    have g1 := hf 1 _ rfl
    have g2 := hf 2 _ rfl
    have g3 := hf 3 _ rfl
    have g4 := hf 4 _ rfl
    have g5 := hf 5 _ rfl
    simp [cells_node, cells_svc, cells_chk, cells_bool, cells_i, cells_u] at g0 g1 g2 g3 g4 g5
    obtain ⟨n0, q0, r0, _⟩ := DataW.trod_int Tryz.underlying3 g0
    obtain ⟨b4, q4, r4⟩ := DataW.trod_bool Tryz.underlying4 g4
    obtain ⟨n5, q5, r5, _⟩ := DataW.trod_int Tryz.underlying28 g5
    obtain ⟨n, e1, r1⟩ := open_node (cs := #[c1, c2, c3, c4]) rfl g1
    obtain ⟨s, ta, tc, dt, e2, hd, hc, r2⟩ := open_svc (cs := #[c5, c6, c7, c8, c9, c10, c11]) rfl g2
    obtain ⟨c, e3, r3⟩ := open_chk (cs := #[c12, c13, c14, c15, c16, c17, c18]) rfl g3
    simp [Nd.v] at e1
    simp [Sp.v] at e2
    simp [Ck.v] at e3
    obtain ⟨rfl, rfl, rfl, rfl⟩ := e1
    obtain ⟨rfl, rfl, rfl, rfl, rfl, rfl, rfl⟩ := e2
    obtain ⟨rfl, rfl, rfl, rfl, rfl, rfl, rfl⟩ := e3
    simp at q0 q4 q5
    subst q0 q4 q5
    refine ⟨⟨n0, n, s, c, b4, n5⟩, ta, tc, dt, rfl, hd, hc, ?_⟩
    rw [hxy]
    simp only [List.map_cons, List.map_nil, r0, r1, r2, r3, r4, r5]
end Go.Proofs.YtmkohdepgfahnaaGreatDoor

/- Layer 9 (records): what the form's own reach bounds of arguments of types api.Node, api.Service, api.Check, api.Op. -/
namespace Go.Proofs.YtmkohdepgfahnaaGreatDoor
open Go.RowKit Go.Deep Go.ChangeShapes Go.WideShapes
set_option linter.unusedVariables false

theorem bytes_tx : Tryz.prog.bytesOf 9 = 16 := by kernel_rfl
theorem weights_in {H : Type} {P : Program} {e : TypeId} : ∀ {l : List (DataW H)} {d : DataW H}, d ∈ l → ∀ n ∈ d.weights P e, n ∈ DataW.weightsAll P e l
  | d0 :: l, d, hd, n, hn => by
    simp only [DataW.weightsAll, List.mem_append]
    rcases List.mem_cons.1 hd with rfl | h
    · exact .inl hn
    · exact .inr (weights_in h n hn)
  | [], _, hd, _, _ => by simp at hd
theorem tx_reach {H : Type} {s : ByteArray} {t : TypeId} (hw : ∀ n ∈ (txData (H := H) s).weights Tryz.prog t, n ≤ reachBytes) : s.size ≤ 140737488351232 := by
  have := hw s.data.toList.length (by simp [txData, DataW.weights])
  simpa [reachBytes] using this
theorem texts_reach {H : Type} {l : List ByteArray} {d : DataW H} (hd : TextsData l d) (hw : ∀ n ∈ d.weights Tryz.prog 49, n ≤ reachBytes) : l.length ≤ 8796093021952 ∧ ∀ p ∈ l, p.size ≤ 140737488351232 := by
  rcases hd with ⟨_, rfl⟩ | ⟨sp, rfl⟩
  · simp
  · simp only [DataW.weights, Tryz.underlying49, bytes_tx] at hw
    refine ⟨?_, ?_⟩
    · have := hw _ (List.mem_cons_self ..)
      simp only [List.length_map, reachBytes] at this
      omega
    · intro p hp
      exact tx_reach (H := H) (t := 9) fun n hn => hw n (List.mem_cons_of_mem _ (List.mem_append_left _ (weights_in (List.mem_map_of_mem hp) n hn)))
theorem node_reach {H : Type} {n : Nd} {d : DataW H} (hd : d = .agg [txData n.name, txData n.addr, .lit (.int .u64 n.made), .lit (.int .u64 n.changed)]) (hw : ∀ k ∈ d.weights Tryz.prog 48, k ≤ reachBytes) : n.name.size ≤ 140737488351232 ∧ n.addr.size ≤ 140737488351232 := by
  rw [hd] at hw
  simp only [DataW.weights, Tryz.underlying48] at hw
  exact ⟨(tx_reach (H := H) (t := 9) fun k hk => hw k (by simp only [DataW.weightsEach, List.map_cons, List.map_nil, List.mem_append]; exact .inl hk)), (tx_reach (H := H) (t := 9) fun k hk => hw k (by simp only [DataW.weightsEach, List.map_cons, List.map_nil, List.mem_append]; exact .inr (.inl hk)))⟩
theorem svc_reach {H : Type} {s : Sp} {dt d : DataW H} (ht : TextsData s.tags dt) (hd : d = .agg [txData s.node, txData s.id, txData s.name, .lit (.int .i64 s.port), dt, .lit (.int .u64 s.made), .lit (.int .u64 s.changed)]) (hw : ∀ k ∈ d.weights Tryz.prog 51, k ≤ reachBytes) : s.small ∧ s.tags.length ≤ 8796093021952 := by
  rw [hd] at hw
  simp only [DataW.weights, Tryz.underlying51] at hw
  have h1 : s.node.size ≤ 140737488351232 := (tx_reach (H := H) (t := 9) fun k hk => hw k (by simp only [DataW.weightsEach, List.map_cons, List.map_nil, List.mem_append]; exact .inl hk))
  have h2 : s.id.size ≤ 140737488351232 := (tx_reach (H := H) (t := 9) fun k hk => hw k (by simp only [DataW.weightsEach, List.map_cons, List.map_nil, List.mem_append]; exact .inr (.inl hk)))
  have h3 : s.name.size ≤ 140737488351232 := (tx_reach (H := H) (t := 9) fun k hk => hw k (by simp only [DataW.weightsEach, List.map_cons, List.map_nil, List.mem_append]; exact .inr (.inr (.inl hk))))
  have h4 := texts_reach ht fun k hk => hw k (by simp only [DataW.weightsEach, List.map_cons, List.map_nil, List.mem_append]; exact .inr (.inr (.inr (.inr (.inl hk)))))
  exact ⟨⟨by omega, by omega, by omega, by have := h4.1; omega, fun x hx => by have := h4.2 x hx; omega⟩, h4.1⟩
theorem chk_reach {H : Type} {c : Ck} {d : DataW H} (hd : d = .agg [txData c.node, txData c.id, txData c.service, .lit (.int .i64 c.status), txData c.note, .lit (.int .u64 c.made), .lit (.int .u64 c.changed)]) (hw : ∀ k ∈ d.weights Tryz.prog 53, k ≤ reachBytes) : c.small := by
  rw [hd] at hw
  simp only [DataW.weights, Tryz.underlying53] at hw
  have h1 : c.node.size ≤ 140737488351232 := (tx_reach (H := H) (t := 9) fun k hk => hw k (by simp only [DataW.weightsEach, List.map_cons, List.map_nil, List.mem_append]; exact .inl hk))
  have h2 : c.id.size ≤ 140737488351232 := (tx_reach (H := H) (t := 9) fun k hk => hw k (by simp only [DataW.weightsEach, List.map_cons, List.map_nil, List.mem_append]; exact .inr (.inl hk)))
  have h3 : c.service.size ≤ 140737488351232 := (tx_reach (H := H) (t := 9) fun k hk => hw k (by simp only [DataW.weightsEach, List.map_cons, List.map_nil, List.mem_append]; exact .inr (.inr (.inl hk))))
  have h4 : c.note.size ≤ 140737488351232 := (tx_reach (H := H) (t := 9) fun k hk => hw k (by simp only [DataW.weightsEach, List.map_cons, List.map_nil, List.mem_append]; exact .inr (.inr (.inr (.inr (.inl hk))))))
  exact ⟨by omega, by omega, by omega, by omega⟩
set_option maxRecDepth 100000 in
theorem op_reach {H : Type} {o : Opp} {dt d : DataW H} (ht : TextsData o.svc.tags dt) (hd : d = .agg [.lit (.int .i64 o.kind), .agg [txData o.node.name, txData o.node.addr, .lit (.int .u64 o.node.made), .lit (.int .u64 o.node.changed)],
      .agg [txData o.svc.node, txData o.svc.id, txData o.svc.name, .lit (.int .i64 o.svc.port), dt, .lit (.int .u64 o.svc.made), .lit (.int .u64 o.svc.changed)], .agg [txData o.chk.node, txData o.chk.id, txData o.chk.service, .lit (.int .i64 o.chk.status), txData o.chk.note, .lit (.int .u64 o.chk.made), .lit (.int .u64 o.chk.changed)], .lit (.bool o.cas), .lit (.int .u64 o.want)]) (hw : ∀ k ∈ d.weights Tryz.prog 55, k ≤ reachBytes) : o.small ∧ o.svc.tags.length ≤ 8796093021952 := by
  rw [hd] at hw
  rw [DataW.weights, Tryz.underlying55] at hw
  have h1 := node_reach (n := o.node) (d := (.agg [txData o.node.name, txData o.node.addr, .lit (.int .u64 o.node.made), .lit (.int .u64 o.node.changed)] : DataW H)) rfl fun k hk => hw k (by simp only [DataW.weightsEach, List.map_cons, List.map_nil, List.mem_append]; exact .inr (.inl hk))
  have h2 := svc_reach (s := o.svc) ht (d := (.agg [txData o.svc.node, txData o.svc.id, txData o.svc.name, .lit (.int .i64 o.svc.port), dt, .lit (.int .u64 o.svc.made), .lit (.int .u64 o.svc.changed)] : DataW H)) rfl fun k hk => hw k (by simp only [DataW.weightsEach, List.map_cons, List.map_nil, List.mem_append]; exact .inr (.inr (.inl hk)))
  have h3 := chk_reach (c := o.chk) (d := (.agg [txData o.chk.node, txData o.chk.id, txData o.chk.service, .lit (.int .i64 o.chk.status), txData o.chk.note, .lit (.int .u64 o.chk.made), .lit (.int .u64 o.chk.changed)] : DataW H)) rfl fun k hk => hw k (by simp only [DataW.weightsEach, List.map_cons, List.map_nil, List.mem_append]; exact .inr (.inr (.inr (.inl hk))))
  exact ⟨⟨by omega, by omega, h2.1, h3⟩, h2.2⟩
end Go.Proofs.YtmkohdepgfahnaaGreatDoor
