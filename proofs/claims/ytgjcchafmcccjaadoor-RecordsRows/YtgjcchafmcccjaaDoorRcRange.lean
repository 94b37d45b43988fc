/- Layer 9 (records): arguments of types api.Node, api.Service, api.Check, with the ranges of their numbers. -/
import Derived.Test.YtgjcchafmcccjaaDoorRcReach
import Derived.Test.YtgjcchafmcccjaaDoorRcLawW
namespace Go.Proofs.YtgjcchafmcccjaaDoor
open Go.RowKit Go.Deep Go.ChangeShapes Go.WideShapes
set_option linter.unusedVariables false

theorem wf_u {n : Int} (h : (Lit.int .u64 n).wf = true) : 0 ≤ n ∧ n ≤ 18446744073709551615 := by
  have h1 : IntKind.u64.min ≤ n ∧ n ≤ IntKind.u64.max := by simpa [Lit.wf] using h
  exact h1
theorem wf_i {n : Int} (h : (Lit.int .i64 n).wf = true) : -9223372036854775808 ≤ n ∧ n ≤ 9223372036854775807 := by
  have h1 : IntKind.i64.min ≤ n ∧ n ≤ 9223372036854775807 := by simpa [Lit.wf] using h
  exact h1
theorem wrap_iR (m : Int) : IntKind.i64.wrap m = if 9223372036854775808 ≤ m % 18446744073709551616 then m % 18446744073709551616 - 18446744073709551616 else m % 18446744073709551616 := by
  unfold IntKind.wrap
  simp only [show IntKind.i64.bits = 64 from rfl, show IntKind.i64.signed = true from rfl, Bool.true_and, ge_iff_le]
  by_cases h : 9223372036854775808 ≤ m % 18446744073709551616
  · rw [if_pos h, if_pos (by simpa using h)]
    rfl
  · rw [if_neg h, if_neg (by simpa using h)]
    rfl
theorem wrap_back {n : Int} (h : -9223372036854775808 ≤ n ∧ n ≤ 9223372036854775807) : IntKind.i64.wrap (IntKind.u64.wrap n) = n := by
  have h1 : IntKind.u64.wrap n = n % 18446744073709551616 := rfl
  rw [h1, wrap_iR]
  split <;> omega
theorem wrap_uR (n : Int) : 0 ≤ IntKind.u64.wrap n ∧ IntKind.u64.wrap n ≤ 18446744073709551615 := by
  have h1 : IntKind.u64.wrap n = n % 18446744073709551616 := rfl
  rw [h1]
  omega
set_option maxRecDepth 100000 in
theorem range_node {H : Type} {enc : TypeId × Value → H} {W : World} {fuel : Nat} {cs : Array Value} {x : DataW H × List MemPlace} (hz : cs.size = 4)
    (h : DataW.trod enc Tryd.prog W 0 (fun _ => true) true fuel 44 cs.toList = some x) :
    ∃ n : Nd, cs = n.v ∧ x.1 = .agg [txData n.name, txData n.addr, .lit (.int .u64 n.made), .lit (.int .u64 n.changed)] ∧ (0 ≤ n.made ∧ n.made ≤ 18446744073709551615) ∧ (0 ≤ n.changed ∧ n.changed ≤ 18446744073709551615) := by
  obtain ⟨c0, c1, c2, c3, rfl⟩ : ∃ c0 c1 c2 c3, cs = #[c0, c1, c2, c3] := by
    match cs, hz with
    | ⟨[c0, c1, c2, c3]⟩, _ => exact ⟨c0, c1, c2, c3, rfl⟩
  obtain ⟨xs, k, hk, hxy, _, hxl, hf⟩ := DataW.trod_struct Tryd.underlying44 h
  match xs, hxl with
  | [y0, y1, y2, y3], _ =>
    have g0 := hf 0 _ rfl
    have g1 := hf 1 _ rfl
    have g2 := hf 2 _ rfl
    have g3 := hf 3 _ rfl
    simp [cells_tx, cells_u] at g0 g1 g2 g3
    obtain ⟨s0, q0, r0, _⟩ := DataW.trod_string Tryd.underlying9 g0
    obtain ⟨s1, q1, r1, _⟩ := DataW.trod_string Tryd.underlying9 g1
    obtain ⟨n2, q2, r2, f2⟩ := DataW.trod_int Tryd.underlying42 g2
    obtain ⟨n3, q3, r3, f3⟩ := DataW.trod_int Tryd.underlying42 g3
    simp at q0 q1 q2 q3
    subst q0 q1 q2 q3
    refine ⟨⟨s0, s1, n2, n3⟩, rfl, ?_, wf_u f2, wf_u f3⟩
    rw [hxy]
    simp only [List.map_cons, List.map_nil, r0, r1, r2, r3, txData]
set_option maxRecDepth 100000 in
theorem range_svc {H : Type} {enc : TypeId × Value → H} {W : World} {fuel : Nat} {cs : Array Value} {x : DataW H × List MemPlace} (hz : cs.size = 7)
    (h : DataW.trod enc Tryd.prog W 0 (fun _ => true) true fuel 47 cs.toList = some x) :
    ∃ (s : Sp) (ta : Option Addr) (tc : Nat) (dt : DataW H), cs = s.v (.slice ta s.tags.length tc) ∧ TextsData s.tags dt ∧ CellsAt W ta (s.tags.map Value.string) ∧ x.1 = .agg [txData s.node, txData s.id, txData s.name, .lit (.int .i64 s.port), dt, .lit (.int .u64 s.made), .lit (.int .u64 s.changed)] ∧ (-9223372036854775808 ≤ s.port ∧ s.port ≤ 9223372036854775807) ∧ (0 ≤ s.made ∧ s.made ≤ 18446744073709551615) ∧ (0 ≤ s.changed ∧ s.changed ≤ 18446744073709551615) := by
  obtain ⟨c0, c1, c2, c3, c4, c5, c6, rfl⟩ : ∃ c0 c1 c2 c3 c4 c5 c6, cs = #[c0, c1, c2, c3, c4, c5, c6] := by
    match cs, hz with
    | ⟨[c0, c1, c2, c3, c4, c5, c6]⟩, _ => exact ⟨c0, c1, c2, c3, c4, c5, c6, rfl⟩
  obtain ⟨xs, k, hk, hxy, _, hxl, hf⟩ := DataW.trod_struct Tryd.underlying47 h
  match xs, hxl with
  | [y0, y1, y2, y3, y4, y5, y6], _ =>
    have g0 := hf 0 _ rfl
    have g1 := hf 1 _ rfl
    have g2 := hf 2 _ rfl
    have g3 := hf 3 _ rfl
    have g4 := hf 4 _ rfl
    have g5 := hf 5 _ rfl
    have g6 := hf 6 _ rfl
    simp [cells_tx, cells_u, cells_i, cells_txs] at g0 g1 g2 g3 g4 g5 g6
    obtain ⟨s0, q0, r0, _⟩ := DataW.trod_string Tryd.underlying9 g0
    obtain ⟨s1, q1, r1, _⟩ := DataW.trod_string Tryd.underlying9 g1
    obtain ⟨s2, q2, r2, _⟩ := DataW.trod_string Tryd.underlying9 g2
    obtain ⟨n3, q3, r3, f3⟩ := DataW.trod_int Tryd.underlying3 g3
    obtain ⟨n5, q5, r5, f5⟩ := DataW.trod_int Tryd.underlying42 g5
    obtain ⟨n6, q6, r6, f6⟩ := DataW.trod_int Tryd.underlying42 g6
    obtain ⟨ta, tn, tc, rfl⟩ : ∃ ta tn tc, c4 = .slice ta tn tc := by
      rcases open_slice Tryd.underlying45 g4 with ⟨hc, _⟩ | ⟨a, len', cap', _, _, _, _, hc, _⟩
      · simp at hc; exact ⟨_, _, _, hc⟩
      · simp at hc; exact ⟨_, _, _, hc⟩
    obtain ⟨l, rfl, hd, hcl⟩ := open_texts g4
    simp at q0 q1 q2 q3 q5 q6
    subst q0 q1 q2 q3 q5 q6
    refine ⟨⟨s0, s1, s2, n3, l, n5, n6⟩, ta, tc, y4.1, rfl, hd, hcl, ?_, wf_i f3, wf_u f5, wf_u f6⟩
    rw [hxy]
    simp only [List.map_cons, List.map_nil, r0, r1, r2, r3, r5, r6, txData]
set_option maxRecDepth 100000 in
theorem range_chk {H : Type} {enc : TypeId × Value → H} {W : World} {fuel : Nat} {cs : Array Value} {x : DataW H × List MemPlace} (hz : cs.size = 7)
    (h : DataW.trod enc Tryd.prog W 0 (fun _ => true) true fuel 49 cs.toList = some x) :
    ∃ c : Ck, cs = c.v ∧ x.1 = .agg [txData c.node, txData c.id, txData c.service, .lit (.int .i64 c.status), txData c.note, .lit (.int .u64 c.made), .lit (.int .u64 c.changed)] ∧ (-9223372036854775808 ≤ c.status ∧ c.status ≤ 9223372036854775807) ∧ (0 ≤ c.made ∧ c.made ≤ 18446744073709551615) ∧ (0 ≤ c.changed ∧ c.changed ≤ 18446744073709551615) := by
  obtain ⟨c0, c1, c2, c3, c4, c5, c6, rfl⟩ : ∃ c0 c1 c2 c3 c4 c5 c6, cs = #[c0, c1, c2, c3, c4, c5, c6] := by
    match cs, hz with
    | ⟨[c0, c1, c2, c3, c4, c5, c6]⟩, _ => exact ⟨c0, c1, c2, c3, c4, c5, c6, rfl⟩
  obtain ⟨xs, k, hk, hxy, _, hxl, hf⟩ := DataW.trod_struct Tryd.underlying49 h
  match xs, hxl with
  | [y0, y1, y2, y3, y4, y5, y6], _ =>
    have g0 := hf 0 _ rfl
    have g1 := hf 1 _ rfl
    have g2 := hf 2 _ rfl
    have g3 := hf 3 _ rfl
    have g4 := hf 4 _ rfl
    have g5 := hf 5 _ rfl
    have g6 := hf 6 _ rfl
    simp [cells_tx, cells_u, cells_i] at g0 g1 g2 g3 g4 g5 g6
    obtain ⟨s0, q0, r0, _⟩ := DataW.trod_string Tryd.underlying9 g0
    obtain ⟨s1, q1, r1, _⟩ := DataW.trod_string Tryd.underlying9 g1
    obtain ⟨s2, q2, r2, _⟩ := DataW.trod_string Tryd.underlying9 g2
    obtain ⟨n3, q3, r3, f3⟩ := DataW.trod_int Tryd.underlying3 g3
    obtain ⟨s4, q4, r4, _⟩ := DataW.trod_string Tryd.underlying9 g4
    obtain ⟨n5, q5, r5, f5⟩ := DataW.trod_int Tryd.underlying42 g5
    obtain ⟨n6, q6, r6, f6⟩ := DataW.trod_int Tryd.underlying42 g6
    simp at q0 q1 q2 q3 q4 q5 q6
    subst q0 q1 q2 q3 q4 q5 q6
    refine ⟨⟨s0, s1, s2, n3, s4, n5, n6⟩, rfl, ?_, wf_i f3, wf_u f5, wf_u f6⟩
    rw [hxy]
    simp only [List.map_cons, List.map_nil, r0, r1, r2, r3, r4, r5, r6, txData]
theorem svc_reachT {H : Type} {s : Sp} {dt d : DataW H} (ht : TextsData s.tags dt) (hd : d = .agg [txData s.node, txData s.id, txData s.name, .lit (.int .i64 s.port), dt, .lit (.int .u64 s.made), .lit (.int .u64 s.changed)]) (hw : ∀ k ∈ d.weights Tryd.prog 47, k ≤ reachBytes) : s.small ∧ (s.node.size ≤ 140737488351232 ∧ s.id.size ≤ 140737488351232 ∧ s.name.size ≤ 140737488351232) ∧ s.tags.length ≤ 8796093021952 ∧ ∀ x ∈ s.tags, x.size ≤ 140737488351232 := by
  rw [hd] at hw
  simp only [DataW.weights, Tryd.underlying47] at hw
  have h1 : s.node.size ≤ 140737488351232 := (tx_reach (H := H) (t := 9) fun k hk => hw k (by simp only [DataW.weightsEach, List.map_cons, List.map_nil, List.mem_append]; exact .inl hk))
  have h2 : s.id.size ≤ 140737488351232 := (tx_reach (H := H) (t := 9) fun k hk => hw k (by simp only [DataW.weightsEach, List.map_cons, List.map_nil, List.mem_append]; exact .inr (.inl hk)))
  have h3 : s.name.size ≤ 140737488351232 := (tx_reach (H := H) (t := 9) fun k hk => hw k (by simp only [DataW.weightsEach, List.map_cons, List.map_nil, List.mem_append]; exact .inr (.inr (.inl hk))))
  have h4 := texts_reach ht fun k hk => hw k (by simp only [DataW.weightsEach, List.map_cons, List.map_nil, List.mem_append]; exact .inr (.inr (.inr (.inr (.inl hk)))))
  exact ⟨⟨by omega, by omega, by omega, by have := h4.1; omega, fun x hx => by have := h4.2 x hx; omega⟩, ⟨h1, h2, h3⟩, h4.1, h4.2⟩
theorem chk_reachT {H : Type} {c : Ck} {d : DataW H} (hd : d = .agg [txData c.node, txData c.id, txData c.service, .lit (.int .i64 c.status), txData c.note, .lit (.int .u64 c.made), .lit (.int .u64 c.changed)]) (hw : ∀ k ∈ d.weights Tryd.prog 49, k ≤ reachBytes) : c.small ∧ c.node.size ≤ 140737488351232 ∧ c.id.size ≤ 140737488351232 ∧ c.service.size ≤ 140737488351232 ∧ c.note.size ≤ 140737488351232 := by
  rw [hd] at hw
  simp only [DataW.weights, Tryd.underlying49] at hw
  have h1 : c.node.size ≤ 140737488351232 := (tx_reach (H := H) (t := 9) fun k hk => hw k (by simp only [DataW.weightsEach, List.map_cons, List.map_nil, List.mem_append]; exact .inl hk))
  have h2 : c.id.size ≤ 140737488351232 := (tx_reach (H := H) (t := 9) fun k hk => hw k (by simp only [DataW.weightsEach, List.map_cons, List.map_nil, List.mem_append]; exact .inr (.inl hk)))
  have h3 : c.service.size ≤ 140737488351232 := (tx_reach (H := H) (t := 9) fun k hk => hw k (by simp only [DataW.weightsEach, List.map_cons, List.map_nil, List.mem_append]; exact .inr (.inr (.inl hk))))
  have h4 : c.note.size ≤ 140737488351232 := (tx_reach (H := H) (t := 9) fun k hk => hw k (by simp only [DataW.weightsEach, List.map_cons, List.map_nil, List.mem_append]; exact .inr (.inr (.inr (.inr (.inl hk))))))
  exact ⟨⟨by omega, by omega, by omega, by omega⟩, h1, h2, h3, h4⟩
theorem zzR : (0 : Int) ≤ 0 ∧ (0 : Int) ≤ 18446744073709551615 := by decide
theorem zeR : (⟨#[]⟩ : ByteArray).size ≤ 140737488351232 := Nat.zero_le _
theorem recOk {n : Nd} {s : Sp} {c : Ck} (n1 : n.name.size ≤ 140737488351232) (n2 : n.addr.size ≤ 140737488351232) (nr : (0 ≤ n.made ∧ n.made ≤ 18446744073709551615) ∧ (0 ≤ n.changed ∧ n.changed ≤ 18446744073709551615))
    (s1 : s.node.size ≤ 140737488351232 ∧ s.id.size ≤ 140737488351232 ∧ s.name.size ≤ 140737488351232) (s2 : s.tags.length ≤ 8796093021952 ∧ ∀ x ∈ s.tags, x.size ≤ 140737488351232) (sr : (-9223372036854775808 ≤ s.port ∧ s.port ≤ 9223372036854775807) ∧ (0 ≤ s.made ∧ s.made ≤ 18446744073709551615) ∧ (0 ≤ s.changed ∧ s.changed ≤ 18446744073709551615))
    (c1 : c.node.size ≤ 140737488351232 ∧ c.id.size ≤ 140737488351232 ∧ c.service.size ≤ 140737488351232 ∧ c.note.size ≤ 140737488351232) (cr : (-9223372036854775808 ≤ c.status ∧ c.status ≤ 9223372036854775807) ∧ (0 ≤ c.made ∧ c.made ≤ 18446744073709551615) ∧ (0 ≤ c.changed ∧ c.changed ≤ 18446744073709551615)) : RecOk n s c := by
  refine ⟨?_, ?_, ?_, s2.1, fun x hx => by have := s2.2 x hx; omega, wrap_back sr.1, wrap_back cr.1⟩
  · intro x hx
    simp only [nodeCs, List.mem_cons, List.not_mem_nil, or_false] at hx
    rcases hx with rfl | rfl | rfl | rfl
    · exact ⟨n1, zzR, by simp, by simp⟩
    · exact ⟨n2, zzR, by simp, by simp⟩
    · exact ⟨zeR, nr.1, by simp, by simp⟩
    · exact ⟨zeR, nr.2, by simp, by simp⟩
  · intro va vc x hx
    simp only [svcCs, List.mem_cons, List.not_mem_nil, or_false] at hx
    rcases hx with rfl | rfl | rfl | rfl | rfl | rfl | rfl
    · exact ⟨s1.1, zzR, by simp, by simp⟩
    · exact ⟨s1.2.1, zzR, by simp, by simp⟩
    · exact ⟨s1.2.2, zzR, by simp, by simp⟩
    · exact ⟨zeR, wrap_uR _, by simp, by simp⟩
    · exact ⟨zeR, zzR, s2.2, by have := s2.1; show s.tags.length ≤ _; omega⟩
    · exact ⟨zeR, sr.2.1, by simp, by simp⟩
    · exact ⟨zeR, sr.2.2, by simp, by simp⟩
  · intro x hx
    simp only [chkCs, List.mem_cons, List.not_mem_nil, or_false] at hx
    rcases hx with rfl | rfl | rfl | rfl | rfl | rfl | rfl
    · exact ⟨c1.1, zzR, by simp, by simp⟩
    · exact ⟨c1.2.1, zzR, by simp, by simp⟩
    · exact ⟨c1.2.2.1, zzR, by simp, by simp⟩
    · exact ⟨zeR, wrap_uR _, by simp, by simp⟩
    · exact ⟨c1.2.2.2, zzR, by simp, by simp⟩
    · exact ⟨zeR, cr.2.1, by simp, by simp⟩
    · exact ⟨zeR, cr.2.2, by simp, by simp⟩
end Go.Proofs.YtgjcchafmcccjaaDoor
