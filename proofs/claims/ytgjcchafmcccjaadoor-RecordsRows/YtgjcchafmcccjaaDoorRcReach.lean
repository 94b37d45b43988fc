import Derived.Test.YtgjcchafmcccjaaDoorRwSort
import Derived.Test.YtgjcchafmcccjaaDoorRcFixS
import Derived.Test.YtgjcchafmcccjaaDoorRcRowC
import Derived.Test.YtgjcchafmcccjaaDoorRcArgs
/- Layer 9 (records): operations, plain. -/
namespace Go.Proofs.YtgjcchafmcccjaaDoor
open Go.RowKit
set_option linter.unusedVariables false

structure Opp where
  kind : Int
  node : Nd
  svc : Sp
  chk : Ck
  cas : Bool
  want : Int
def Opp.v (o : Opp) (t : Value) : Array Value := #[.int .i64 o.kind, .string o.node.name, .string o.node.addr, .int .u64 o.node.made, .int .u64 o.node.changed,
  .string o.svc.node, .string o.svc.id, .string o.svc.name, .int .i64 o.svc.port, t, .int .u64 o.svc.made, .int .u64 o.svc.changed,
  .string o.chk.node, .string o.chk.id, .string o.chk.service, .int .i64 o.chk.status, .string o.chk.note, .int .u64 o.chk.made, .int .u64 o.chk.changed, .bool o.cas, .int .u64 o.want]
def oppZ : Opp := ⟨0, nodeZ, svcZ, chkZ, false, 0⟩
def wantF (o : Opp) : Int := if o.cas then o.want else 0
/-- The error of an operation, and its normal form where there is none. -/
def oppE (o : Opp) : Int :=
  if o.kind = 1 then nodeE o.node else if o.kind = 2 then svcE o.svc else if o.kind = 3 then chkE o.chk else
  if o.kind = 4 then labE o.node.name else if o.kind = 5 then idE o.svc.node o.svc.id else if o.kind = 6 then idE o.chk.node o.chk.id else 96
def oppN (o : Opp) : Opp :=
  if o.kind = 1 then ⟨o.kind, fixN o.node, svcZ, chkZ, o.cas, wantF o⟩ else if o.kind = 2 then ⟨o.kind, nodeZ, svcF o.svc, chkZ, o.cas, wantF o⟩ else if o.kind = 3 then ⟨o.kind, nodeZ, svcZ, chkF o.chk, o.cas, wantF o⟩ else
  if o.kind = 4 then ⟨o.kind, ⟨labT o.node.name, ⟨#[]⟩, 0, 0⟩, svcZ, chkZ, o.cas, wantF o⟩ else if o.kind = 5 then ⟨o.kind, nodeZ, ⟨labT o.svc.node, labT o.svc.id, ⟨#[]⟩, 0, [], 0, 0⟩, chkZ, o.cas, wantF o⟩ else
  ⟨o.kind, nodeZ, svcZ, ⟨labT o.chk.node, labT o.chk.id, ⟨#[]⟩, 0, ⟨#[]⟩, 0, 0⟩, o.cas, wantF o⟩
def oppF (o : Opp) : Opp := if oppE o = 0 then oppN o else oppZ
structure Opp.small (o : Opp) : Prop where
  name : o.node.name.size ≤ 140737488351296
  addr : o.node.addr.size ≤ 140737488351296
  svc : o.svc.small
  chk : o.chk.small
/-- An operation is answered, its tags in memory of their own. -/
def OppA (w : World) (r : Opp) (x : Int) (e : Ending) (w' : World) : Prop := ∃ v, e = .returned (.tuple #[.agg (r.v v), .int .i64 x]) ∧ w'.ownsRow w.heap.size 9 1 v r.svc.tags.length (r.svc.tags.map Value.string) ∧ Below w.heap.size w w'
theorem info_op : (Tryd.prog.info? 51).map (·.size) = some 21 := by kernel_rfl
theorem load_op {w : World} {g : Nat} {cs : Array Value} (h : Blk w g cs 51) (hs : cs.size = 21) : (loadVar 51 ⟨g, 0, none⟩).run Tryd.prog w = .ok (.agg cs) w :=
  run_loadVar_row (P := Tryd.prog) w g 51 51 cs (0, 0) _ h Tryd.underlying51 rfl (by rw [info_op, hs])
theorem three_new (w : World) (o1 o2 o3 : Obj) : (((w.alloc o1).alloc o2).alloc o3).heap[w.heap.size]? = some o1 ∧ (((w.alloc o1).alloc o2).alloc o3).heap[w.heap.size + 1]? = some o2 ∧ (((w.alloc o1).alloc o2).alloc o3).heap[w.heap.size + 1 + 1]? = some o3 ∧
    Below w.heap.size w (((w.alloc o1).alloc o2).alloc o3) := ⟨(three_alloc w o1 o2 o3).1, (three_alloc w o1 o2 o3).2.1, (three_alloc w o1 o2 o3).2.2.1, (three_alloc w o1 o2 o3).2.2.2.1⟩
theorem row_putK {w : World} {B g : Nat} {e T : TypeId} {size : Nat} {v : Value} {n : Nat} {xs : List Value} {cs : Array Value} (hg : Blk w g cs T) (hT : T ≠ e) (h : w.ownsRow B e size v n xs) (l : List Value) (k : Nat) : (putC w g k l).ownsRow B e size v n xs := by
  refine ⟨h.1, ?_⟩
  rcases h.2 with h1 | ⟨g', cap, cur, h1, h2, h3, h4⟩
  · exact .inl h1
  · refine .inr ⟨g', cap, cur, h1, h2, putC_other (fun e' => ?_) l w k h3, h4⟩
    subst e'
    have hg' : w.heap[g']? = some (.cells cs T) := hg
    rw [h3] at hg'
    injection hg' with hg'
    injection hg' with _ hg'
    exact hT hg'.symm
end Go.Proofs.YtgjcchafmcccjaaDoor

/- Layer 9 (records): an argument of type api.Op, opened. -/
namespace Go.Proofs.YtgjcchafmcccjaaDoor
open Go.RowKit Go.Deep Go.ChangeShapes Go.WideShapes
set_option linter.unusedVariables false

theorem cells_op : Tryd.prog.cellsOf 51 = 21 := by kernel_rfl
theorem cells_bool : Tryd.prog.cellsOf 4 = 1 := by kernel_rfl
set_option maxRecDepth 100000 in
set_option maxHeartbeats 1000000 in
theorem open_op {H : Type} {enc : TypeId × Value → H} {W : World} {fuel : Nat} {cs : Array Value} {x : DataW H × List MemPlace} (hz : cs.size = 21)
    (h : DataW.trod enc Tryd.prog W 0 (fun _ => true) true fuel 51 cs.toList = some x) :
    ∃ (o : Opp) (ta : Option Addr) (tc : Nat) (dt : DataW H), cs = o.v (.slice ta o.svc.tags.length tc) ∧ TextsData o.svc.tags dt ∧ CellsAt W ta (o.svc.tags.map Value.string) ∧ x.1 = .agg [.lit (.int .i64 o.kind), .agg [txData o.node.name, txData o.node.addr, .lit (.int .u64 o.node.made), .lit (.int .u64 o.node.changed)],
      .agg [txData o.svc.node, txData o.svc.id, txData o.svc.name, .lit (.int .i64 o.svc.port), dt, .lit (.int .u64 o.svc.made), .lit (.int .u64 o.svc.changed)], .agg [txData o.chk.node, txData o.chk.id, txData o.chk.service, .lit (.int .i64 o.chk.status), txData o.chk.note, .lit (.int .u64 o.chk.made), .lit (.int .u64 o.chk.changed)], .lit (.bool o.cas), .lit (.int .u64 o.want)] := by
  obtain ⟨c0, c1, c2, c3, c4, c5, c6, c7, c8, c9, c10, c11, c12, c13, c14, c15, c16, c17, c18, c19, c20, rfl⟩ : ∃ c0 c1 c2 c3 c4 c5 c6 c7 c8 c9 c10 c11 c12 c13 c14 c15 c16 c17 c18 c19 c20, cs = #[c0, c1, c2, c3, c4, c5, c6, c7, c8, c9, c10, c11, c12, c13, c14, c15, c16, c17, c18, c19, c20] := by
    match cs, hz with
    | ⟨[c0, c1, c2, c3, c4, c5, c6, c7, c8, c9, c10, c11, c12, c13, c14, c15, c16, c17, c18, c19, c20]⟩, _ => exact ⟨c0, c1, c2, c3, c4, c5, c6, c7, c8, c9, c10, c11, c12, c13, c14, c15, c16, c17, c18, c19, c20, rfl⟩
  obtain ⟨xs, k, hk, hxy, _, hxl, hf⟩ := DataW.trod_struct Tryd.underlying51 h
  match xs, hxl with
  | [y0, y1, y2, y3, y4, y5], _ =>
    have g0 := hf 0 _ rfl
    have g1 := hf 1 _ rfl
    have g2 := hf 2 _ rfl
    have g3 := hf 3 _ rfl
    have g4 := hf 4 _ rfl
    have g5 := hf 5 _ rfl
    simp [cells_node, cells_svc, cells_chk, cells_bool, cells_i, cells_u] at g0 g1 g2 g3 g4 g5
    obtain ⟨n0, q0, r0, _⟩ := DataW.trod_int Tryd.underlying3 g0
    obtain ⟨b4, q4, r4⟩ := DataW.trod_bool Tryd.underlying4 g4
    obtain ⟨n5, q5, r5, _⟩ := DataW.trod_int Tryd.underlying42 g5
    obtain ⟨n, e1, r1⟩ := open_node (cs := #[c1, c2, c3, c4]) rfl g1
    obtain ⟨s, ta, tc, dt, e2, hd, hc, r2⟩ := open_svc (cs := #[c5, c6, c7, c8, c9, c10, c11]) rfl g2
    obtain ⟨c, e3, r3⟩ := open_chk (cs := #[c12, c13, c14, c15, c16, c17, c18]) rfl g3
    simp [Nd.v] at e1
    simp [Sp.v] at e2
    simp [Ck.v] at e3
    obtain ⟨rfl, rfl, rfl, rfl⟩ := e1
    obtain ⟨rfl, rfl, rfl, rfl, rfl, rfl, rfl⟩ := e2
    obtain ⟨rfl, rfl, rfl, rfl, rfl, rfl, rfl⟩ := e3
    simp at q0 q4 q5
    subst q0 q4 q5
    refine ⟨⟨n0, n, s, c, b4, n5⟩, ta, tc, dt, rfl, hd, hc, ?_⟩
    rw [hxy]
    simp only [List.map_cons, List.map_nil, r0, r1, r2, r3, r4, r5]
end Go.Proofs.YtgjcchafmcccjaaDoor

/- Layer 9 (records): what the form's own reach bounds of arguments of types api.Node, api.Service, api.Check, api.Op. -/
namespace Go.Proofs.YtgjcchafmcccjaaDoor
open Go.RowKit Go.Deep Go.ChangeShapes Go.WideShapes
set_option linter.unusedVariables false

theorem bytes_tx : Tryd.prog.bytesOf 9 = 16 := by kernel_rfl
theorem weights_in {H : Type} {P : Program} {e : TypeId} : ∀ {l : List (DataW H)} {d : DataW H}, d ∈ l → ∀ n ∈ d.weights P e, n ∈ DataW.weightsAll P e l
  | d0 :: l, d, hd, n, hn => by
    simp only [DataW.weightsAll, List.mem_append]
    rcases List.mem_cons.1 hd with rfl | h
    · exact .inl hn
    · exact .inr (weights_in h n hn)
  | [], _, hd, _, _ => by simp at hd
theorem tx_reach {H : Type} {s : ByteArray} {t : TypeId} (hw : ∀ n ∈ (txData (H := H) s).weights Tryd.prog t, n ≤ reachBytes) : s.size ≤ 140737488351232 := by
  have := hw s.data.toList.length (by simp [txData, DataW.weights])
  simpa [reachBytes] using this
theorem texts_reach {H : Type} {l : List ByteArray} {d : DataW H} (hd : TextsData l d) (hw : ∀ n ∈ d.weights Tryd.prog 45, n ≤ reachBytes) : l.length ≤ 8796093021952 ∧ ∀ p ∈ l, p.size ≤ 140737488351232 := by
  rcases hd with ⟨_, rfl⟩ | ⟨sp, rfl⟩
  · simp
  · simp only [DataW.weights, Tryd.underlying45, bytes_tx] at hw
    refine ⟨?_, ?_⟩
    · have := hw _ (List.mem_cons_self ..)
      simp only [List.length_map, reachBytes] at this
      omega
    · intro p hp
      exact tx_reach (H := H) (t := 9) fun n hn => hw n (List.mem_cons_of_mem _ (List.mem_append_left _ (weights_in (List.mem_map_of_mem hp) n hn)))
theorem node_reach {H : Type} {n : Nd} {d : DataW H} (hd : d = .agg [txData n.name, txData n.addr, .lit (.int .u64 n.made), .lit (.int .u64 n.changed)]) (hw : ∀ k ∈ d.weights Tryd.prog 44, k ≤ reachBytes) : n.name.size ≤ 140737488351232 ∧ n.addr.size ≤ 140737488351232 := by
  rw [hd] at hw
  simp only [DataW.weights, Tryd.underlying44] at hw
  exact ⟨(tx_reach (H := H) (t := 9) fun k hk => hw k (by simp only [DataW.weightsEach, List.map_cons, List.map_nil, List.mem_append]; exact .inl hk)), (tx_reach (H := H) (t := 9) fun k hk => hw k (by simp only [DataW.weightsEach, List.map_cons, List.map_nil, List.mem_append]; exact .inr (.inl hk)))⟩
theorem svc_reach {H : Type} {s : Sp} {dt d : DataW H} (ht : TextsData s.tags dt) (hd : d = .agg [txData s.node, txData s.id, txData s.name, .lit (.int .i64 s.port), dt, .lit (.int .u64 s.made), .lit (.int .u64 s.changed)]) (hw : ∀ k ∈ d.weights Tryd.prog 47, k ≤ reachBytes) : s.small ∧ s.tags.length ≤ 8796093021952 := by
  rw [hd] at hw
  simp only [DataW.weights, Tryd.underlying47] at hw
  have h1 : s.node.size ≤ 140737488351232 := (tx_reach (H := H) (t := 9) fun k hk => hw k (by simp only [DataW.weightsEach, List.map_cons, List.map_nil, List.mem_append]; exact .inl hk))
  have h2 : s.id.size ≤ 140737488351232 := (tx_reach (H := H) (t := 9) fun k hk => hw k (by simp only [DataW.weightsEach, List.map_cons, List.map_nil, List.mem_append]; exact .inr (.inl hk)))
  have h3 : s.name.size ≤ 140737488351232 := (tx_reach (H := H) (t := 9) fun k hk => hw k (by simp only [DataW.weightsEach, List.map_cons, List.map_nil, List.mem_append]; exact .inr (.inr (.inl hk))))
  have h4 := texts_reach ht fun k hk => hw k (by simp only [DataW.weightsEach, List.map_cons, List.map_nil, List.mem_append]; exact .inr (.inr (.inr (.inr (.inl hk)))))
  exact ⟨⟨by omega, by omega, by omega, by have := h4.1; omega, fun x hx => by have := h4.2 x hx; omega⟩, h4.1⟩
theorem chk_reach {H : Type} {c : Ck} {d : DataW H} (hd : d = .agg [txData c.node, txData c.id, txData c.service, .lit (.int .i64 c.status), txData c.note, .lit (.int .u64 c.made), .lit (.int .u64 c.changed)]) (hw : ∀ k ∈ d.weights Tryd.prog 49, k ≤ reachBytes) : c.small := by
  rw [hd] at hw
  simp only [DataW.weights, Tryd.underlying49] at hw
  have h1 : c.node.size ≤ 140737488351232 := (tx_reach (H := H) (t := 9) fun k hk => hw k (by simp only [DataW.weightsEach, List.map_cons, List.map_nil, List.mem_append]; exact .inl hk))
  have h2 : c.id.size ≤ 140737488351232 := (tx_reach (H := H) (t := 9) fun k hk => hw k (by simp only [DataW.weightsEach, List.map_cons, List.map_nil, List.mem_append]; exact .inr (.inl hk)))
  have h3 : c.service.size ≤ 140737488351232 := (tx_reach (H := H) (t := 9) fun k hk => hw k (by simp only [DataW.weightsEach, List.map_cons, List.map_nil, List.mem_append]; exact .inr (.inr (.inl hk))))
  have h4 : c.note.size ≤ 140737488351232 := (tx_reach (H := H) (t := 9) fun k hk => hw k (by simp only [DataW.weightsEach, List.map_cons, List.map_nil, List.mem_append]; exact .inr (.inr (.inr (.inr (.inl hk))))))
  exact ⟨by omega, by omega, by omega, by omega⟩
set_option maxRecDepth 100000 in
theorem op_reach {H : Type} {o : Opp} {dt d : DataW H} (ht : TextsData o.svc.tags dt) (hd : d = .agg [.lit (.int .i64 o.kind), .agg [txData o.node.name, txData o.node.addr, .lit (.int .u64 o.node.made), .lit (.int .u64 o.node.changed)],
      .agg [txData o.svc.node, txData o.svc.id, txData o.svc.name, .lit (.int .i64 o.svc.port), dt, .lit (.int .u64 o.svc.made), .lit (.int .u64 o.svc.changed)], .agg [txData o.chk.node, txData o.chk.id, txData o.chk.service, .lit (.int .i64 o.chk.status), txData o.chk.note, .lit (.int .u64 o.chk.made), .lit (.int .u64 o.chk.changed)], .lit (.bool o.cas), .lit (.int .u64 o.want)]) (hw : ∀ k ∈ d.weights Tryd.prog 51, k ≤ reachBytes) : o.small ∧ o.svc.tags.length ≤ 8796093021952 := by
  rw [hd] at hw
  rw [DataW.weights, Tryd.underlying51] at hw
  have h1 := node_reach (n := o.node) (d := (.agg [txData o.node.name, txData o.node.addr, .lit (.int .u64 o.node.made), .lit (.int .u64 o.node.changed)] : DataW H)) rfl fun k hk => hw k (by simp only [DataW.weightsEach, List.map_cons, List.map_nil, List.mem_append]; exact .inr (.inl hk))
  have h2 := svc_reach (s := o.svc) ht (d := (.agg [txData o.svc.node, txData o.svc.id, txData o.svc.name, .lit (.int .i64 o.svc.port), dt, .lit (.int .u64 o.svc.made), .lit (.int .u64 o.svc.changed)] : DataW H)) rfl fun k hk => hw k (by simp only [DataW.weightsEach, List.map_cons, List.map_nil, List.mem_append]; exact .inr (.inr (.inl hk)))
  have h3 := chk_reach (c := o.chk) (d := (.agg [txData o.chk.node, txData o.chk.id, txData o.chk.service, .lit (.int .i64 o.chk.status), txData o.chk.note, .lit (.int .u64 o.chk.made), .lit (.int .u64 o.chk.changed)] : DataW H)) rfl fun k hk => hw k (by simp only [DataW.weightsEach, List.map_cons, List.map_nil, List.mem_append]; exact .inr (.inr (.inr (.inl hk))))
  exact ⟨⟨by omega, by omega, h2.1, h3⟩, h2.2⟩
end Go.Proofs.YtgjcchafmcccjaaDoor
