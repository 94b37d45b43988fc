import Derived.Test.YthgcnmilaifkoaaGreatDoorJRopH
import Derived.Test.YthgcnmilaifkoaaGreatDoorJTxs
import Derived.Test.YthgcnmilaifkoaaGreatDoorJRn3
import Derived.Test.YthgcnmilaifkoaaGreatDoorRows
import Derived.Test.YthgcnmilaifkoaaGreatDoorRcFixT
import Derived.Test.YthgcnmilaifkoaaGreatDoorRwPut
import Derived.Deep.Slices
import Derived.SizedLaws
import Derived.ProofKit
import Derived.Test.YthgcnmilaifkoaaGreatDoorJPay
/- Layer 13 (journal): JournalTells, the walk. -/
namespace Go.Proofs.YthgcnmilaifkoaaGreatDoor
open Go.RowKit
set_option linter.unusedVariables false

theorem ops_len {l l' : List OV} (h : ops l' = ops l) : l'.length = l.length := by
 have := congrArg List.length h
 simpa [ops] using this
end Go.Proofs.YthgcnmilaifkoaaGreatDoor

/- Layer 9 (records): arguments of types api.Node, api.Service, api.Check, opened; what their bulk bounds. -/
namespace Go.Proofs.YthgcnmilaifkoaaGreatDoor
open Go.RowKit Go.Deep Go.ChangeShapes Go.WideShapes
set_option linter.unusedVariables false

def txData {H : Type} (t : ByteArray) : DataW H := .lit (.string t.data.toList)
theorem cells_tx : Tryz.prog.cellsOf 9 = 1 := by kernel_rfl
theorem cells_i : Tryz.prog.cellsOf 3 = 1 := by kernel_rfl
theorem cells_u : Tryz.prog.cellsOf 22 = 1 := by kernel_rfl
theorem cells_txs : Tryz.prog.cellsOf 39 = 1 := by kernel_rfl
theorem cells_node : Tryz.prog.cellsOf 43 = 4 := by kernel_rfl
theorem cells_svc : Tryz.prog.cellsOf 41 = 7 := by kernel_rfl
theorem cells_chk : Tryz.prog.cellsOf 45 = 7 := by kernel_rfl
def TextsData {H : Type} (l : List ByteArray) (d : DataW H) : Prop := d = .nil ∧ l = [] ∨ ∃ sp, d = .slice (l.map txData) sp
theorem open_texts {H : Type} {enc : TypeId × Value → H} {W : World} {fuel : Nat} {ao : Option Addr} {len cap : Nat} {x : DataW H × List MemPlace}
  (h : DataW.trod enc Tryz.prog W 0 (fun _ => true) true fuel 39 [.slice ao len cap] = some x) :
  ∃ l : List ByteArray, l.length = len ∧ TextsData l x.1 ∧ CellsAt W ao (l.map Value.string) := by
 rcases open_slice Tryz.underlying39 h with ⟨hc, hx⟩ | ⟨a, len', cap', m, n, D, Pl, hc, hb, hl, hm, hmm, hx, hel⟩
 ·simp at hc
  obtain ⟨rfl, rfl, rfl⟩ := hc
  exact ⟨[], rfl, .inl ⟨by rw [hx], rfl⟩, fun h => absurd rfl h⟩
 ·simp at hc
  obtain ⟨rfl, rfl, rfl⟩ := hc
  simp only [if_true] at hmm
  subst hmm
  rw [cells_tx] at hel
  have each : ∀ i, i < len → ∃ p : ByteArray, D i = txData p ∧ W.cell? (a.add i) = some (.string p) := by
   intro i hi
   obtain ⟨cs', h1, h2⟩ := hel i (by omega)
   obtain ⟨_, hlen, hcell⟩ := World.cells?_some h1
   match cs', hlen with
   | [v0], _ =>
    obtain ⟨s1, q1, r1, w1⟩ := DataW.trod_string Tryz.underlying9 h2
    have e0 := hcell 0 (by omega)
    rw [add_add] at e0
    simp at q1
    subst q1
    refine ⟨s1, ?_, by simpa using e0⟩
    have := congrArg Prod.fst r1
    simpa [txData] using this
  obtain ⟨f, hf⟩ : ∃ f : Nat → ByteArray, ∀ i, i < len → _ := @choose_lt ByteArray ⟨⟨#[]⟩⟩ len _ each
  refine ⟨(List.range len).map f, by simp, .inr ⟨(List.range (m - len)).map fun j => D (len + j), ?_⟩, fun hne => ?_⟩
  ·rw [hx]
   simp only [DataW.slice.injEq, and_true]
   rw [List.map_map]
   exact List.map_congr_left fun i hi => (hf i (List.mem_range.1 hi)).1
  ·have h0 : 0 < len := by
    rcases Nat.eq_zero_or_pos len with h | h
    ·subst h; exact absurd rfl hne
    ·exact h
   obtain ⟨b, off, spot⟩ := a
   have hspot : spot = none := by simpa [Addr.add] using World.cell?_spot (hf 0 h0).2
   subst hspot
   refine ⟨b, off, rfl, fun j u hj => ?_⟩
   have hj' : j < len := by have := (List.getElem?_eq_some_iff.1 hj).1; simpa using this
   have hu : u = .string (f j) := by simp [hj'] at hj; exact hj.symm
   rw [hu, ← add_plain]
   exact (hf j hj').2


set_option maxRecDepth 100000 in
theorem open_node {H : Type} {enc : TypeId × Value → H} {W : World} {fuel : Nat} {cs : Array Value} {x : DataW H × List MemPlace} (hz : cs.size = 4)
  (h : DataW.trod enc Tryz.prog W 0 (fun _ => true) true fuel 43 cs.toList = some x) :
  ∃ n : Nd, cs = n.v ∧ x.1 = .agg [txData n.name, txData n.addr, .lit (.int .u64 n.made), .lit (.int .u64 n.changed)] := by
 obtain ⟨c0, c1, c2, c3, rfl⟩ : ∃ c0 c1 c2 c3, cs = #[c0, c1, c2, c3] := by
  match cs, hz with
  | ⟨[c0, c1, c2, c3]⟩, _ => exact ⟨c0, c1, c2, c3, rfl⟩
 obtain ⟨xs, k, hk, hxy, _, hxl, hf⟩ := DataW.trod_struct Tryz.underlying43 h
 match xs, hxl with
 | [y0, y1, y2, y3], _ =>
  have g0 := hf 0 _ rfl
  have g1 := hf 1 _ rfl
  have g2 := hf 2 _ rfl
  have g3 := hf 3 _ rfl
  simp [cells_tx, cells_u] at g0 g1 g2 g3
  obtain ⟨s0, q0, r0, _⟩ := DataW.trod_string Tryz.underlying9 g0
  obtain ⟨s1, q1, r1, _⟩ := DataW.trod_string Tryz.underlying9 g1
  obtain ⟨n2, q2, r2, _⟩ := DataW.trod_int Tryz.underlying22 g2
  obtain ⟨n3, q3, r3, _⟩ := DataW.trod_int Tryz.underlying22 g3
  simp at q0 q1 q2 q3
  subst q0 q1 q2 q3
  refine ⟨⟨s0, s1, n2, n3⟩, rfl, ?_⟩
  rw [hxy]
  simp only [List.map_cons, List.map_nil, r0, r1, r2, r3, txData]
set_option maxRecDepth 100000 in
theorem open_svc {H : Type} {enc : TypeId × Value → H} {W : World} {fuel : Nat} {cs : Array Value} {x : DataW H × List MemPlace} (hz : cs.size = 7)
  (h : DataW.trod enc Tryz.prog W 0 (fun _ => true) true fuel 41 cs.toList = some x) :
  ∃ (s : Sp) (ta : Option Addr) (tc : Nat) (dt : DataW H), cs = s.v (.slice ta s.tags.length tc) ∧ TextsData s.tags dt ∧ CellsAt W ta (s.tags.map Value.string) ∧ x.1 = .agg [txData s.node, txData s.id, txData s.name, .lit (.int .i64 s.port), dt, .lit (.int .u64 s.made), .lit (.int .u64 s.changed)] := by
 obtain ⟨c0, c1, c2, c3, c4, c5, c6, rfl⟩ : ∃ c0 c1 c2 c3 c4 c5 c6, cs = #[c0, c1, c2, c3, c4, c5, c6] := by
  match cs, hz with
  | ⟨[c0, c1, c2, c3, c4, c5, c6]⟩, _ => exact ⟨c0, c1, c2, c3, c4, c5, c6, rfl⟩
 obtain ⟨xs, k, hk, hxy, _, hxl, hf⟩ := DataW.trod_struct Tryz.underlying41 h
 match xs, hxl with
 | [y0, y1, y2, y3, y4, y5, y6], _ =>
  have g0 := hf 0 _ rfl
  have g1 := hf 1 _ rfl
  have g2 := hf 2 _ rfl
  have g3 := hf 3 _ rfl
  have g4 := hf 4 _ rfl
  have g5 := hf 5 _ rfl
  have g6 := hf 6 _ rfl
  simp [cells_tx, cells_u, cells_i, cells_txs] at g0 g1 g2 g3 g4 g5 g6
  obtain ⟨s0, q0, r0, _⟩ := DataW.trod_string Tryz.underlying9 g0
  obtain ⟨s1, q1, r1, _⟩ := DataW.trod_string Tryz.underlying9 g1
  obtain ⟨s2, q2, r2, _⟩ := DataW.trod_string Tryz.underlying9 g2
  obtain ⟨n3, q3, r3, _⟩ := DataW.trod_int Tryz.underlying3 g3
  obtain ⟨n5, q5, r5, _⟩ := DataW.trod_int Tryz.underlying22 g5
  obtain ⟨n6, q6, r6, _⟩ := DataW.trod_int Tryz.underlying22 g6
  obtain ⟨ta, tn, tc, rfl⟩ : ∃ ta tn tc, c4 = .slice ta tn tc := by
   rcases open_slice Tryz.underlying39 g4 with ⟨hc, _⟩ | ⟨a, len', cap', _, _, _, _, hc, _⟩
   ·simp at hc; exact ⟨_, _, _, hc⟩
   ·simp at hc; exact ⟨_, _, _, hc⟩
  obtain ⟨l, rfl, hd, hcl⟩ := open_texts g4
  simp at q0 q1 q2 q3 q5 q6
  subst q0 q1 q2 q3 q5 q6
  refine ⟨⟨s0, s1, s2, n3, l, n5, n6⟩, ta, tc, y4.1, rfl, hd, hcl, ?_⟩
  rw [hxy]
  simp only [List.map_cons, List.map_nil, r0, r1, r2, r3, r5, r6, txData]
set_option maxRecDepth 100000 in
theorem open_chk {H : Type} {enc : TypeId × Value → H} {W : World} {fuel : Nat} {cs : Array Value} {x : DataW H × List MemPlace} (hz : cs.size = 7)
  (h : DataW.trod enc Tryz.prog W 0 (fun _ => true) true fuel 45 cs.toList = some x) :
  ∃ c : Ck, cs = c.v ∧ x.1 = .agg [txData c.node, txData c.id, txData c.service, .lit (.int .i64 c.status), txData c.note, .lit (.int .u64 c.made), .lit (.int .u64 c.changed)] := by
 obtain ⟨c0, c1, c2, c3, c4, c5, c6, rfl⟩ : ∃ c0 c1 c2 c3 c4 c5 c6, cs = #[c0, c1, c2, c3, c4, c5, c6] := by
  match cs, hz with
  | ⟨[c0, c1, c2, c3, c4, c5, c6]⟩, _ => exact ⟨c0, c1, c2, c3, c4, c5, c6, rfl⟩
 obtain ⟨xs, k, hk, hxy, _, hxl, hf⟩ := DataW.trod_struct Tryz.underlying45 h
 match xs, hxl with
 | [y0, y1, y2, y3, y4, y5, y6], _ =>
  have g0 := hf 0 _ rfl
  have g1 := hf 1 _ rfl
  have g2 := hf 2 _ rfl
  have g3 := hf 3 _ rfl
  have g4 := hf 4 _ rfl
  have g5 := hf 5 _ rfl
  have g6 := hf 6 _ rfl
  simp [cells_tx, cells_u, cells_i] at g0 g1 g2 g3 g4 g5 g6
  obtain ⟨s0, q0, r0, _⟩ := DataW.trod_string Tryz.underlying9 g0
  obtain ⟨s1, q1, r1, _⟩ := DataW.trod_string Tryz.underlying9 g1
  obtain ⟨s2, q2, r2, _⟩ := DataW.trod_string Tryz.underlying9 g2
  obtain ⟨n3, q3, r3, _⟩ := DataW.trod_int Tryz.underlying3 g3
  obtain ⟨s4, q4, r4, _⟩ := DataW.trod_string Tryz.underlying9 g4
  obtain ⟨n5, q5, r5, _⟩ := DataW.trod_int Tryz.underlying22 g5
  obtain ⟨n6, q6, r6, _⟩ := DataW.trod_int Tryz.underlying22 g6
  simp at q0 q1 q2 q3 q4 q5 q6
  subst q0 q1 q2 q3 q4 q5 q6
  refine ⟨⟨s0, s1, s2, n3, s4, n5, n6⟩, rfl, ?_⟩
  rw [hxy]
  simp only [List.map_cons, List.map_nil, r0, r1, r2, r3, r4, r5, r6, txData]
theorem bulkR_pos {H : Type} (d : DataW H) : 1 ≤ Rows.uptoBulk d := by
 cases d with
 | lit l => cases l <;> simp [Rows.uptoBulk]
 | _ => simp [Rows.uptoBulk]
theorem bulkR_mem {H : Type} : ∀ {l : List (DataW H)} {d : DataW H}, d ∈ l → Rows.uptoBulk d ≤ Rows.uptoBulkAll l
 | e :: l, d, h => by
  simp only [Rows.uptoBulkAll]
  rcases List.mem_cons.1 h with rfl | h
  ·omega
  ·have := bulkR_mem h; omega
theorem bulkR_len {H : Type} : ∀ l : List (DataW H), l.length ≤ Rows.uptoBulkAll l
 | [] => by simp
 | d :: l => by
  have h1 := bulkR_pos d
  have h2 := bulkR_len l
  simp only [Rows.uptoBulkAll, List.length_cons]
  omega
theorem texts_bulk {H : Type} {l : List ByteArray} {d : DataW H} (h : TextsData l d) : l.length ≤ Rows.uptoBulk d ∧ ∀ s ∈ l, s.size ≤ Rows.uptoBulk d := by
 rcases h with ⟨_, rfl⟩ | ⟨sp, rfl⟩
 ·simp
 ·simp only [Rows.uptoBulk]
  have h1 := bulkR_len (l.map (txData (H := H)))
  rw [List.length_map] at h1
  refine ⟨by omega, fun s hs => ?_⟩
  have h2 := bulkR_mem (List.mem_map_of_mem (f := txData (H := H)) hs)
  have h3 : Rows.uptoBulk (txData (H := H) s) = s.size + 1 := by
   unfold txData
   simp only [Rows.uptoBulk, Array.length_toList]
   rfl
  omega
theorem tx_bulk {H : Type} (s : ByteArray) : Rows.uptoBulk (txData (H := H) s) = s.size + 1 := by
 unfold txData
 simp only [Rows.uptoBulk, Array.length_toList]
 rfl
end Go.Proofs.YthgcnmilaifkoaaGreatDoor

/- Layer 9 (records): an argument of type api.Op, opened. -/
namespace Go.Proofs.YthgcnmilaifkoaaGreatDoor
open Go.RowKit Go.Deep Go.ChangeShapes Go.WideShapes
set_option linter.unusedVariables false

theorem cells_op : Tryz.prog.cellsOf 47 = 21 := by kernel_rfl
theorem cells_bool : Tryz.prog.cellsOf 4 = 1 := by kernel_rfl
set_option maxRecDepth 100000 in
set_option maxHeartbeats 1000000 in
theorem open_op {H : Type} {enc : TypeId × Value → H} {W : World} {fuel : Nat} {cs : Array Value} {x : DataW H × List MemPlace} (hz : cs.size = 21)
  (h : DataW.trod enc Tryz.prog W 0 (fun _ => true) true fuel 47 cs.toList = some x) :
  ∃ (o : Opp) (ta : Option Addr) (tc : Nat) (dt : DataW H), cs = o.v (.slice ta o.svc.tags.length tc) ∧ TextsData o.svc.tags dt ∧ CellsAt W ta (o.svc.tags.map Value.string) ∧ x.1 = .agg [.lit (.int .i64 o.kind), .agg [txData o.node.name, txData o.node.addr, .lit (.int .u64 o.node.made), .lit (.int .u64 o.node.changed)],
   .agg [txData o.svc.node, txData o.svc.id, txData o.svc.name, .lit (.int .i64 o.svc.port), dt, .lit (.int .u64 o.svc.made), .lit (.int .u64 o.svc.changed)], .agg [txData o.chk.node, txData o.chk.id, txData o.chk.service, .lit (.int .i64 o.chk.status), txData o.chk.note, .lit (.int .u64 o.chk.made), .lit (.int .u64 o.chk.changed)], .lit (.bool o.cas), .lit (.int .u64 o.want)] := by
 obtain ⟨c0, c1, c2, c3, c4, c5, c6, c7, c8, c9, c10, c11, c12, c13, c14, c15, c16, c17, c18, c19, c20, rfl⟩ : ∃ c0 c1 c2 c3 c4 c5 c6 c7 c8 c9 c10 c11 c12 c13 c14 c15 c16 c17 c18 c19 c20, cs = #[c0, c1, c2, c3, c4, c5, c6, c7, c8, c9, c10, c11, c12, c13, c14, c15, c16, c17, c18, c19, c20] := by
  match cs, hz with
  | ⟨[c0, c1, c2, c3, c4, c5, c6, c7, c8, c9, c10, c11, c12, c13, c14, c15, c16, c17, c18, c19, c20]⟩, _ => exact ⟨c0, c1, c2, c3, c4, c5, c6, c7, c8, c9, c10, c11, c12, c13, c14, c15, c16, c17, c18, c19, c20, rfl⟩
 obtain ⟨xs, k, hk, hxy, _, hxl, hf⟩ := DataW.trod_struct Tryz.underlying47 h
 match xs, hxl with
 | [y0, y1, y2, y3, y4, y5], _ =>
  have g0 := hf 0 _ rfl
  have g1 := hf 1 _ rfl
  have g2 := hf 2 _ rfl
  have g3 := hf 3 _ rfl
  have g4 := hf 4 _ rfl
  have g5 := hf 5 _ rfl
  simp [cells_node, cells_svc, cells_chk, cells_bool, cells_i, cells_u] at g0 g1 g2 g3 g4 g5
  obtain ⟨n0, q0, r0, _⟩ := DataW.trod_int Tryz.underlying3 g0
  obtain ⟨b4, q4, r4⟩ := DataW.trod_bool Tryz.underlying4 g4
  obtain ⟨n5, q5, r5, _⟩ := DataW.trod_int Tryz.underlying22 g5
  obtain ⟨n, e1, r1⟩ := open_node (cs := #[c1, c2, c3, c4]) rfl g1
  obtain ⟨s, ta, tc, dt, e2, hd, hc, r2⟩ := open_svc (cs := #[c5, c6, c7, c8, c9, c10, c11]) rfl g2
  obtain ⟨c, e3, r3⟩ := open_chk (cs := #[c12, c13, c14, c15, c16, c17, c18]) rfl g3
  simp [Nd.v] at e1
  simp [Sp.v] at e2
  simp [Ck.v] at e3
  obtain ⟨rfl, rfl, rfl, rfl⟩ := e1
  obtain ⟨rfl, rfl, rfl, rfl, rfl, rfl, rfl⟩ := e2
  obtain ⟨rfl, rfl, rfl, rfl, rfl, rfl, rfl⟩ := e3
  simp at q0 q4 q5
  subst q0 q4 q5
  refine ⟨⟨n0, n, s, c, b4, n5⟩, ta, tc, dt, rfl, hd, hc, ?_⟩
  rw [hxy]
  simp only [List.map_cons, List.map_nil, r0, r1, r2, r3, r4, r5]
end Go.Proofs.YthgcnmilaifkoaaGreatDoor

/- Layer 9 (records): what the form's own reach bounds of arguments of types api.Node, api.Service, api.Check, api.Op. -/
namespace Go.Proofs.YthgcnmilaifkoaaGreatDoor
open Go.RowKit Go.Deep Go.ChangeShapes Go.WideShapes
set_option linter.unusedVariables false

end Go.Proofs.YthgcnmilaifkoaaGreatDoor

/- Layer 13 (journal): arguments of type []byte, byte, opened. -/
namespace Go.Proofs.YthgcnmilaifkoaaGreatDoor
open Go.RowKit Go.Deep Go.ChangeShapes Go.WideShapes
set_option linter.unusedVariables false

end Go.Proofs.YthgcnmilaifkoaaGreatDoor

/- Layer 13 (journal): arguments of type api.Entry, opened. -/
namespace Go.Proofs.YthgcnmilaifkoaaGreatDoor
open Go.RowKit Go.Deep Go.ChangeShapes Go.WideShapes
set_option linter.unusedVariables false

def OpData {H : Type} (o : Opp) (d : DataW H) : Prop := ∃ dt, TextsData o.svc.tags dt ∧ d = .agg [.lit (.int .i64 o.kind), .agg [txData o.node.name, txData o.node.addr, .lit (.int .u64 o.node.made), .lit (.int .u64 o.node.changed)],
   .agg [txData o.svc.node, txData o.svc.id, txData o.svc.name, .lit (.int .i64 o.svc.port), dt, .lit (.int .u64 o.svc.made), .lit (.int .u64 o.svc.changed)], .agg [txData o.chk.node, txData o.chk.id, txData o.chk.service, .lit (.int .i64 o.chk.status), txData o.chk.note, .lit (.int .u64 o.chk.made), .lit (.int .u64 o.chk.changed)], .lit (.bool o.cas), .lit (.int .u64 o.want)]
theorem u64_wf {n : Int} (h : (Lit.int .u64 n).wf = true) : 0 ≤ n ∧ n ≤ 18446744073709551615 := by
 have h1 : IntKind.u64.min = 0 := rfl
 have h2 : IntKind.u64.max = 18446744073709551615 := rfl
 simp only [Lit.wf, Bool.and_eq_true, decide_eq_true_eq, h1, h2] at h
 exact h
theorem cells_ent : Tryz.prog.cellsOf 31 = 2 := by kernel_rfl
theorem cells_opl : Tryz.prog.cellsOf 29 = 1 := by kernel_rfl
set_option maxRecDepth 100000 in
theorem want_of {H : Type} {enc : TypeId × Value → H} {W : World} {fuel : Nat} {o : Opp} {t : Value} {x : DataW H × List MemPlace}
  (h : DataW.trod enc Tryz.prog W 0 (fun _ => true) true fuel 47 (o.v t).toList = some x) : o.rng := by
 obtain ⟨xs, k, hk, hxy, _, hxl, hf⟩ := DataW.trod_struct Tryz.underlying47 h
 match xs, hxl with
 | [y0, y1, y2, y3, y4, y5], _ =>
  have g5 := hf 5 _ rfl
  simp [cells_u, Opp.v] at g5
  obtain ⟨n5, q5, r5, w5⟩ := DataW.trod_int Tryz.underlying22 g5
  simp at q5
  have := u64_wf w5
  rw [← q5] at this
  exact ⟨this.1, this.2⟩
set_option maxRecDepth 100000 in
theorem open_ops {H : Type} {enc : TypeId × Value → H} {W : World} {fuel : Nat} {ao : Option Addr} {len cap : Nat} {x : DataW H × List MemPlace}
  (h : DataW.trod enc Tryz.prog W 0 (fun _ => true) true fuel 29 [.slice ao len cap] = some x) :
  ∃ (l : List OV) (D : Nat → DataW H) (spare : List (DataW H)), l.length = len ∧ (x.1 = .nil ∧ l = [] ∨ x.1 = .slice ((List.range l.length).map D) spare ∧ ∀ i (h : i < l.length), OpData l[i].o (D i)) ∧ OpsAt W ao l ∧ ∀ x ∈ l, x.o.rng := by
 rcases open_slice Tryz.underlying29 h with ⟨hc, hx⟩ | ⟨a, len', cap', m, n, D, Pl, hc, hb, hl, hm, hmm, hx, hel⟩
 ·simp at hc
  obtain ⟨rfl, rfl, rfl⟩ := hc
  exact ⟨[], fun _ => .nil, [], rfl, .inl ⟨by rw [hx], rfl⟩, ⟨fun h => absurd rfl h, fun c hc => by simp at hc⟩, fun c hc => by simp at hc⟩
 ·simp at hc
  obtain ⟨rfl, rfl, rfl⟩ := hc
  simp only [if_true] at hmm
  subst hmm
  rw [cells_op] at hel
  have each : ∀ i, i < len → ∃ y : OV, OpData y.o (D i) ∧ (∀ j, j < 21 → W.cell? (a.add (i * 21 + j)) = y.v.toList[j]?) ∧ CellsAt W y.ta (y.o.svc.tags.map Value.string) ∧ y.o.rng := by
   intro i hi
   obtain ⟨cs', h1, h2⟩ := hel i (by omega)
   obtain ⟨_, hlen, hcell⟩ := World.cells?_some h1
   obtain ⟨o, ta, tc, dt, e1, hdt, hct, hd⟩ := open_op (cs := cs'.toArray) (by simpa using hlen) (by simpa using h2)
   refine ⟨⟨o, ta, tc⟩, ⟨dt, hdt, by simpa using hd⟩, fun j hj => ?_, hct, ?_⟩
   ·have := hcell j (by omega)
    rw [add_add] at this
    have e2 : cs' = (OV.v ⟨o, ta, tc⟩).toList := by
     have := congrArg Array.toList e1
     exact this
    rw [this, ← e2]
   ·have e2 : cs' = (o.v (.slice ta o.svc.tags.length tc)).toList := by
     have := congrArg Array.toList e1
     simpa using this
    rw [e2] at h2
    exact want_of h2
  obtain ⟨f, hf⟩ : ∃ f : Nat → OV, ∀ i, i < len → _ := @choose_lt OV ⟨⟨oppZ, none, 0⟩⟩ len _ each
  have hlen : ((List.range len).map f).length = len := by simp
  refine ⟨(List.range len).map f, D, (List.range (m - len)).map fun j => D (len + j), hlen, .inr ⟨?_, fun i hi => ?_⟩, ⟨fun hne => ?_, fun c hc => ?_⟩, fun c hc => ?_⟩
  ·rw [hx, hlen]
  ·have hi' : i < len := by simpa using hi
   have := (hf i hi').1
   simpa using this
  ·have h0 : 0 < len := by
    rcases Nat.eq_zero_or_pos len with h | h
    ·subst h; exact absurd rfl hne
    ·exact h
   obtain ⟨b, off, spot⟩ := a
   have hspot : spot = none := by
    have := (hf 0 h0).2.1 0 (by decide)
    have h2 : (f 0).v.toList[0]? = some (.int .i64 (f 0).o.kind) := rfl
    rw [h2] at this
    simpa [Addr.add] using World.cell?_spot this
   subst hspot
   refine ⟨b, off, rfl, fun j u hj => ?_⟩
   have hjl : j < len * 21 := by
    have := (List.getElem?_eq_some_iff.1 hj).1
    rw [ocs_length, hlen] at this
    exact this
   have hi : j / 21 < len := by omega
   have hg : ((List.range len).map f)[j / 21]? = some (f (j / 21)) := by simp [hi]
   have hfa := flat_at (fun c : OV => c.v.toList) 21 (fun _ => rfl) ((List.range len).map f) (j / 21) (j % 21) _ hg (by omega)
   have hjj : j / 21 * 21 + j % 21 = j := by omega
   rw [hjj] at hfa
   have hj2 : (f (j / 21)).v.toList[j % 21]? = some u := by rw [← hfa]; exact hj
   have := (hf _ hi).2.1 (j % 21) (by omega)
   rw [hj2, hjj, add_plain] at this
   exact this
  ·obtain ⟨i, hi, rfl⟩ := List.mem_map.1 hc
   exact (hf i (List.mem_range.1 hi)).2.2.1
  ·obtain ⟨i, hi, rfl⟩ := List.mem_map.1 hc
   exact (hf i (List.mem_range.1 hi)).2.2.2
set_option maxRecDepth 100000 in
theorem open_ent {H : Type} {enc : TypeId × Value → H} {W : World} {fuel : Nat} {cs : Array Value} {x : DataW H × List MemPlace} (hz : cs.size = 2)
  (h : DataW.trod enc Tryz.prog W 0 (fun _ => true) true fuel 31 cs.toList = some x) :
  ∃ (i : Int) (ao : Option Addr) (c : Nat) (l : List OV) (D : Nat → DataW H) (spare : List (DataW H)) (d : DataW H), cs = #[.int .u64 i, .slice ao l.length c] ∧ (0 ≤ i ∧ i ≤ 18446744073709551615) ∧ (d = .nil ∧ l = [] ∨ d = .slice ((List.range l.length).map D) spare ∧ ∀ i (h : i < l.length), OpData l[i].o (D i)) ∧ OpsAt W ao l ∧ (∀ x ∈ l, x.o.rng) ∧ x.1 = .agg [.lit (.int .u64 i), d] := by
 obtain ⟨c0, c1, rfl⟩ : ∃ c0 c1, cs = #[c0, c1] := by
  match cs, hz with
  | ⟨[c0, c1]⟩, _ => exact ⟨c0, c1, rfl⟩
 obtain ⟨xs, k, hk, hxy, _, hxl, hf⟩ := DataW.trod_struct Tryz.underlying31 h
 match xs, hxl with
 | [y0, y1], _ =>
  have g0 := hf 0 _ rfl
  have g1 := hf 1 _ rfl
  simp [cells_u, cells_opl] at g0 g1
  obtain ⟨n0, q0, r0, w0⟩ := DataW.trod_int Tryz.underlying22 g0
  obtain ⟨ta, tn, tc, rfl⟩ : ∃ ta tn tc, c1 = .slice ta tn tc := by
   rcases open_slice Tryz.underlying29 g1 with ⟨hc, _⟩ | ⟨a, len', cap', _, _, _, _, hc, _⟩
   ·simp at hc; exact ⟨_, _, _, hc⟩
   ·simp at hc; exact ⟨_, _, _, hc⟩
  obtain ⟨l, D, sp, rfl, hd, hat, hr⟩ := open_ops g1
  simp at q0
  subst q0
  refine ⟨n0, ta, tc, l, D, sp, y1.1, rfl, u64_wf w0, hd, hat, hr, ?_⟩
  rw [hxy]
  simp only [List.map_cons, List.map_nil, r0]
end Go.Proofs.YthgcnmilaifkoaaGreatDoor
