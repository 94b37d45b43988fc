import Derived.Test.YtgjcchafmcccjaaGreatDoorRcSchemaT
import Derived.Test.YtgjcchafmcccjaaGreatDoorRcRowS
import Derived.Test.YtgjcchafmcccjaaGreatDoorSRForm2
import Derived.Test.YtgjcchafmcccjaaGreatDoorRwAll3
import Derived.Test.YtgjcchafmcccjaaGreatDoorRwFoundM
import Derived.Test.YtgjcchafmcccjaaGreatDoorRwLowR
import Derived.Deep.QuietTactic
import Derived.BigQuiet
import Derived.Test.YtgjcchafmcccjaaGreatDoorRcFixS
import Derived.Test.YtgjcchafmcccjaaGreatDoorRcAppS
/- Layer 9 (records): rows of records in normal form fit their tables; what their keys are. Plain. -/
namespace Go.Proofs.YtgjcchafmcccjaaGreatDoor
open Go.RowKit
set_option linter.unusedVariables false

/-- An index over texts alone, none of them empty: one key. -/
theorem index_texts {t : Tb} {x : Ix} {cs : List CV} {ps : List Pt} (he : elemsOf t.fs x.ov cs = [⟨#[]⟩]) (ho : ownP t.fs x cs ⟨#[]⟩ = ps) (hl : ps.any (ptEq emptyQ) = false) (hv : (ps ++ behindP t x cs).all vldB = true) (hn : (enc false (ps ++ behindP t x cs)).length ≤ 1024) :
    indexP t x cs = ([enc false (ps ++ behindP t x cs)], 0) := by
  have hlk : lackB t.fs x cs ⟨#[]⟩ = false := by unfold lackB; rw [ho]; exact hl
  have hw : wholeB t x cs = true := by
    unfold wholeB
    rw [he]
    simp [hlk]
  have hls : listsP t x cs = [ps ++ behindP t x cs] := by
    unfold listsP
    rw [he, List.filterMap_cons, List.filterMap_nil]
    unfold oneL
    rw [hlk, if_neg (by simp), ho]
  have hans : encAns false (ps ++ behindP t x cs) = (enc false (ps ++ behindP t x cs), 0) := by
    unfold encAns
    rw [if_pos hv, if_pos hn]
  unfold indexP
  rw [if_neg (by rw [hw]; simp), hls, if_neg (by simp [badB, hans])]
  unfold sortedK
  rw [compact_putAll, List.map_cons, List.map_nil, putAll_one]
  unfold keyOf
  rw [hans]
theorem zz : (0 : Int) ≤ 0 ∧ (0 : Int) ≤ 18446744073709551615 := by decide
theorem ze : (⟨#[]⟩ : ByteArray).size ≤ 140737488351232 := Nat.zero_le _
theorem z1k : (-9223372036854775808 : Int) ≤ 1 ∧ (1 : Int) ≤ 9223372036854775807 := by decide
def txP (s : ByteArray) : Pt := ⟨1, s, 0⟩
theorem txP_vld (s : ByteArray) : vldB (txP s) = true := rfl
theorem txP_plain (s : ByteArray) (h : s.size ≤ 63) : Plain (txP s) ∧ (txP s).wf := by
  refine ⟨.inl ⟨rfl, rfl⟩, z1k, zz, ?_⟩
  show s.size ≤ _
  omega
theorem txP_full {s : ByteArray} (h : 0 < s.size) : ptEq emptyQ (txP s) = false := by
  have hs : ¬ s.toList = [] := fun e => by
    rw [ByteArray.toList_eq] at e
    have : s.size = 0 := by
      have h2 : s.data.toList.length = 0 := by rw [e]; rfl
      simpa using h2
    omega
  unfold ptEq emptyQ txP
  simp [hs]
theorem txP_len (s : ByteArray) (h : s.size ≤ 63) : (piece (txP s) false).length ≤ 135 := by
  have := piece_length (txP s) false
  have h2 : (txP s).t.size = s.size := rfl
  omega
theorem len1 {a : ByteArray} (ha : a.size ≤ 63) : (enc false [txP a]).length ≤ 1024 := by
  rw [enc_fcons, List.length_append]
  have := txP_len a ha
  have : (enc false ([] : List Pt)).length = 0 := rfl
  omega
theorem len2 {a b : ByteArray} (ha : a.size ≤ 63) (hb : b.size ≤ 63) : (enc false [txP a, txP b]).length ≤ 1024 := by
  rw [enc_fcons, enc_fcons, List.length_append, List.length_append]
  have := txP_len a ha
  have := txP_len b hb
  have : (enc false ([] : List Pt)).length = 0 := rfl
  omega
theorem len3 {a b c : ByteArray} (ha : a.size ≤ 63) (hb : b.size ≤ 63) (hc : c.size ≤ 63) : (enc false [txP a, txP b, txP c]).length ≤ 1024 := by
  rw [enc_fcons, enc_fcons, enc_fcons, List.length_append, List.length_append, List.length_append]
  have := txP_len a ha
  have := txP_len b hb
  have := txP_len c hc
  have : (enc false ([] : List Pt)).length = 0 := rfl
  omega
/-- A node with a name fits. -/
theorem node_fits {n : Nd} (h0 : 0 < n.name.size) (h1 : n.name.size ≤ 63) : fitP nodesTb (nodeCs n) = 0 := by
  have hx : indexP nodesTb ⟨⟨#[105, 100]⟩, [0], true, false, false⟩ (nodeCs n) = ([enc false [txP n.name]], 0) :=
    index_texts (ps := [txP n.name]) rfl rfl (by simp [txP_full h0]) rfl (len1 h1)
  have hc : fitC nodesTb.fs (nodeCs n) = 0 := by
    unfold fitC
    rw [if_neg (by simp [nodesTb, nodeCs])]
    simp [nodesTb, nodeCs, fitL, usesB]
  unfold fitP
  rw [hc, if_neg (by simp)]
  show fitX nodesTb (nodeCs n) [⟨⟨#[105, 100]⟩, [0], true, false, false⟩] = 0
  unfold fitX
  rw [hx]
  rfl
structure SvcOk (s : Sp) : Prop where
  n0 : 0 < s.node.size
  n1 : s.node.size ≤ 63
  i0 : 0 < s.id.size
  i1 : s.id.size ≤ 63
  m0 : 0 < s.name.size
  m1 : s.name.size ≤ 63
  t : s.tags.length ≤ 32
theorem svc_key {s : Sp} (h : SvcOk s) (va : Option Addr) (vc : Nat) : indexP servicesTb ⟨⟨#[105, 100]⟩, [0, 1], true, false, false⟩ (svcCs s va vc) = ([enc false [txP s.node, txP s.id]], 0) :=
  index_texts (ps := [txP s.node, txP s.id]) rfl rfl (by simp [txP_full h.n0, txP_full h.i0]) rfl (len2 h.n1 h.i1)
theorem svc_key2 {s : Sp} (h : SvcOk s) (va : Option Addr) (vc : Nat) : indexP servicesTb ⟨⟨#[110, 97, 109, 101]⟩, [2], false, false, false⟩ (svcCs s va vc) = ([enc false [txP s.name, txP s.node, txP s.id]], 0) :=
  index_texts (ps := [txP s.name]) rfl rfl (by simp [txP_full h.m0]) rfl (len3 h.m1 h.n1 h.i1)
theorem svc_fitC {s : Sp} (h : SvcOk s) (va : Option Addr) (vc : Nat) : fitC servicesTb.fs (svcCs s va vc) = 0 := by
  have ht := h.t
  have h32 : ¬ 32 < s.tags.length := by omega
  unfold fitC
  rw [if_neg (by simp [servicesTb, svcCs])]
  simp [servicesTb, svcCs, fitL, usesB, h32]
theorem svc_fits {s : Sp} (h : SvcOk s) (va : Option Addr) (vc : Nat) : fitP servicesTb (svcCs s va vc) = 0 := by
  unfold fitP
  rw [svc_fitC h, if_neg (by simp)]
  show fitX servicesTb _ [⟨⟨#[105, 100]⟩, [0, 1], true, false, false⟩, ⟨⟨#[110, 97, 109, 101]⟩, [2], false, false, false⟩] = 0
  unfold fitX
  rw [svc_key h, if_neg (by simp)]
  unfold fitX
  rw [svc_key2 h, if_neg (by simp)]
  rfl
theorem svc_keys {s : Sp} (h : SvcOk s) (va : Option Addr) (vc : Nat) : keysP servicesTb 0 (svcCs s va vc) = ([enc false [txP s.node, txP s.id]], 0) := by
  unfold keysP
  rw [if_neg (by decide), if_neg (by rw [svc_fits h]; simp)]
  exact svc_key h va vc
/-- Keys are alike just where the names are. -/
theorem svc_alike {s u : Sp} (h : SvcOk s) (k : SvcOk u) : enc false [txP s.node, txP s.id] = enc false [txP u.node, txP u.id] ↔ s.node = u.node ∧ s.id = u.id := by
  constructor
  · intro e
    have := enc_inj (ps := [txP s.node, txP s.id]) (qs := [txP u.node, txP u.id]) (by
      intro p hp
      simp at hp
      rcases hp with rfl | rfl
      · exact txP_plain _ h.n1
      · exact txP_plain _ h.i1) (by
      intro p hp
      simp at hp
      rcases hp with rfl | rfl
      · exact txP_plain _ k.n1
      · exact txP_plain _ k.i1) e
    simpa [txP] using this
  · rintro ⟨h1, h2⟩
    rw [h1, h2]
theorem lab_ok {s : ByteArray} (h : labE s = 0) : 0 < (labT s).size ∧ (labT s).size ≤ 63 := by
  have hb := lab_zero h
  obtain ⟨h0, h1, _⟩ := labB_all hb
  rw [(lab_yes hb).1, lowS_size]
  exact ⟨h0, h1⟩
theorem node_ok {n : Nd} (h : nodeE n = 0) : 0 < (fixN n).name.size ∧ (fixN n).name.size ≤ 63 := by
  have e : fixN n = ⟨labT n.name, n.addr, 0, 0⟩ := if_pos h
  rw [e]
  exact lab_ok (orE_zero h).1
theorem svc_ok {s : Sp} (h : svcE s = 0) : SvcOk (svcF s) := by
  obtain ⟨h1, h2, h3, h4⟩ := svc_parts h
  obtain ⟨i1, i2⟩ := orE_zero h1
  have hk := tags_zero h4
  rw [svc_yes h]
  refine ⟨(lab_ok i1).1, (lab_ok i1).2, (lab_ok i2).1, (lab_ok i2).2, (lab_ok h2).1, (lab_ok h2).2, ?_⟩
  show (tagsB s.tags).length ≤ 32
  rw [tagsB_len, (tags_yes hk).2]
  refine Nat.le_trans (compact_le _) ?_
  rw [List.length_mergeSort, List.length_map]
  have := hk.1
  omega
theorem nodeCs_wf {n : Nd} (h1 : n.name.size ≤ 140737488351232) (h2 : n.addr.size ≤ 140737488351232) (h3 : 0 ≤ n.made ∧ n.made ≤ 18446744073709551615) (h4 : 0 ≤ n.changed ∧ n.changed ≤ 18446744073709551615) : ∀ c ∈ nodeCs n, c.wf := by
  intro c hc
  simp only [nodeCs, List.mem_cons, List.not_mem_nil, or_false] at hc
  rcases hc with rfl | rfl | rfl | rfl
  · exact ⟨h1, zz, by simp, by simp⟩
  · exact ⟨h2, zz, by simp, by simp⟩
  · exact ⟨ze, h3, by simp, by simp⟩
  · exact ⟨ze, h4, by simp, by simp⟩
theorem wrap_u (n : Int) : 0 ≤ IntKind.u64.wrap n ∧ IntKind.u64.wrap n ≤ 18446744073709551615 := by
  have h1 : IntKind.u64.wrap n = n % 18446744073709551616 := rfl
  rw [h1]
  omega
theorem svcCs_wf {s : Sp} (h : SvcOk s) (hm : 0 ≤ s.made ∧ s.made ≤ 18446744073709551615) (hc' : 0 ≤ s.changed ∧ s.changed ≤ 18446744073709551615) (ht : ∀ x ∈ s.tags, x.size ≤ 140737488351232) (va : Option Addr) (vc : Nat) : ∀ c ∈ svcCs s va vc, c.wf := by
  obtain ⟨n0, n1, i0, i1, m0, m1, tt⟩ := h
  intro c hc
  simp only [svcCs, List.mem_cons, List.not_mem_nil, or_false] at hc
  rcases hc with rfl | rfl | rfl | rfl | rfl | rfl | rfl
  · exact ⟨by show s.node.size ≤ _; omega, zz, by simp, by simp⟩
  · exact ⟨by show s.id.size ≤ _; omega, zz, by simp, by simp⟩
  · exact ⟨by show s.name.size ≤ _; omega, zz, by simp, by simp⟩
  · exact ⟨ze, wrap_u _, by simp, by simp⟩
  · exact ⟨ze, zz, ht, by show s.tags.length ≤ _; omega⟩
  · exact ⟨ze, hm, by simp, by simp⟩
  · exact ⟨ze, hc', by simp, by simp⟩
theorem nodeCs_lst {w : World} (n : Nd) : ∀ c ∈ nodeCs n, CellsAt w c.la (c.l.map Value.string) := by
  intro c hc
  simp only [nodeCs, List.mem_cons, List.not_mem_nil, or_false] at hc
  rcases hc with rfl | rfl | rfl | rfl <;> exact fun h => absurd rfl h
theorem svcCs_lst {w : World} {s : Sp} {va : Option Addr} {vc : Nat} (h : CellsAt w va (s.tags.map Value.string)) : ∀ c ∈ svcCs s va vc, CellsAt w c.la (c.l.map Value.string) := by
  intro c hc
  simp only [svcCs, List.mem_cons, List.not_mem_nil, or_false] at hc
  rcases hc with rfl | rfl | rfl | rfl | rfl | rfl | rfl
  · exact fun h => absurd rfl h
  · exact fun h => absurd rfl h
  · exact fun h => absurd rfl h
  · exact fun h => absurd rfl h
  · exact h
  · exact fun h => absurd rfl h
  · exact fun h => absurd rfl h
end Go.Proofs.YtgjcchafmcccjaaGreatDoor

/- The document's SameTexts, of like lists. -/
namespace Go.Proofs.YtgjcchafmcccjaaGreatDoor
open Go.RowKit
set_option linter.unusedVariables false

end Go.Proofs.YtgjcchafmcccjaaGreatDoor

/- Layer 9 (records): the document's CopyService, SameService. -/
namespace Go.Proofs.YtgjcchafmcccjaaGreatDoor
open Go.RowKit
set_option linter.unusedVariables false

theorem ret_box1 {fn : Func} {R : Ending → World → Prop} {a : Act} {w : World} {g : Nat} {cs : Array Value} {T : TypeId} (hres : fn.results = #[.cell 2 T]) (ht : a.tmps.getD 2 undef = .pointer (some ⟨g, 0, none⟩)) (hd : a.defers = [])
    (hl : (loadVar T ⟨g, 0, none⟩).run Tryz.prog w = .ok (.agg cs) w) (hR : R (.returned (.agg cs)) w) : bodyPost Tryz.prog fn R .ret a w := by
  refine bodyPost_ret ?_ hd hR
  have ht' : a.tmps[2]?.getD undef = .pointer (some ⟨g, 0, none⟩) := by simpa using ht
  simp [results, hres, ht', asAddr, hl]
theorem row_set1 {w : World} {B g i : Nat} {e T : TypeId} {size : Nat} {v : Value} {n : Nat} {xs : List Value} {cs : Array Value} (hg : Blk w g cs T) (hT : T ≠ e) (h : w.ownsRow B e size v n xs) (u : Value) : (w.setCell ⟨g, i, none⟩ u).ownsRow B e size v n xs := by
  refine ⟨h.1, ?_⟩
  rcases h.2 with h1 | ⟨g', cap, cur, h1, h2, h3, h4⟩
  · exact .inl h1
  · refine .inr ⟨g', cap, cur, h1, h2, ?_, h4⟩
    rw [heap_setCell_other _ _ _ _ (fun e' => by
      have e' : g' = g := e'
      subst e'
      have hg' : w.heap[g']? = some (.cells cs T) := hg
      rw [h3] at hg'
      injection hg' with hg'
      injection hg' with _ hg'
      exact hT hg'.symm)]
    exact h3
theorem row_grewB {w w' : World} {b B : Nat} {e T : TypeId} {size : Nat} {v v' : Value} {n : Nat} {xs : List Value} {cs : Array Value} (hb : Blk w b cs T) (h : w.ownsRow B e size v n xs) (hg : Grew w w' v v') (hT : T ≠ e) : Blk w' b cs T := by
  refine (hg.grown.block _ hb.lt fun e' => ?_).trans hb
  rcases h.2 with ⟨rfl, _⟩ | ⟨g', cap, cur, rfl, h2, h3, h4⟩
  · simp [Value.ownBlock] at e'
  · simp [Value.ownBlock] at e'
    have hb' : w.heap[b]? = some (.cells cs T) := hb
    first | rw [← e'] at hb' | rw [e'] at hb'
    rw [h3] at hb'
    injection hb' with hb'
    injection hb' with _ hb'
    exact hT hb'.symm
/-- A copy is answered, its tags in memory of their own. -/
def CopA (w : World) (s : Sp) (e : Ending) (w' : World) : Prop := ∃ v, e = .returned (.agg (s.v v)) ∧ w'.ownsRow w.heap.size 9 1 v s.tags.length (s.tags.map Value.string) ∧ Below w.heap.size w w'

set_option maxRecDepth 100000 in
set_option maxHeartbeats 4000000 in
theorem copyService_calls (s : Sp) (ta : Option Addr) (tc : Nat) (w : World) (hl : s.tags.length ≤ 8796093022207) (hc : CellsAt w ta (s.tags.map Value.string)) :
    Calls Tryz.prog 11 #[.agg (s.v (.slice ta s.tags.length tc))] w fun e w' => CopA w s e w' := by
  have HC : Hid (CellsAt w ta (s.tags.map Value.string)) := hc
  clear hc
  obtain ⟨nd, id, nm, po, tg, mk, ch⟩ := s
  simp only [Sp.v] at *
  obtain ⟨tl, Htl⟩ : ∃ tl, Hid (tl = tg.length) := ⟨_, rfl⟩
  obtain ⟨L, HL⟩ : ∃ L, Hid (L = tg.map Value.string) := ⟨_, rfl⟩
  have HLl : Hid (L.length = tl * 1) := by rw [Hid, HL.out, Htl.out, List.length_map, Nat.mul_one]
  have HL1 : Hid (∀ u ∈ L, u.oneCell' = true) := fun u hu => by
    rw [HL.out] at hu
    obtain ⟨x, _, rfl⟩ := List.mem_map.1 hu
    rfl
  rw [← Htl.out] at hl ⊢
  rw [← HL.out] at HC
  have HFin : Hid (∀ v w', w'.ownsRow w.heap.size 9 1 v tl L → Below w.heap.size w w' → CopA w ⟨nd, id, nm, po, tg, mk, ch⟩ (.returned (.agg #[.string nd, .string id, .string nm, .int .i64 po, v, .int .u64 mk, .int .u64 ch])) w') := fun v w' h1 h2 => ⟨v, rfl, by rw [Htl.out, HL.out] at h1; exact h1, h2⟩
  clear HL
  obtain ⟨w2, Hw2⟩ : ∃ w2, Hid (w2 = ((w.alloc (.cells #[.string nd, .string id, .string nm, .int .i64 po, .slice ta tl tc, .int .u64 mk, .int .u64 ch] 25)).alloc (.cells #[.string ⟨#[]⟩, .string ⟨#[]⟩, .string ⟨#[]⟩, .int .i64 0, .slice none 0 0, .int .u64 0, .int .u64 0] 25)).alloc (.cells #[] 9)) := ⟨_, rfl⟩
  have hz : (w.alloc (.cells #[.string nd, .string id, .string nm, .int .i64 po, .slice ta tl tc, .int .u64 mk, .int .u64 ch] 25)).heap.size = w.heap.size + 1 := size_new _ _
  have hz2 : ((w.alloc (.cells #[.string nd, .string id, .string nm, .int .i64 po, .slice ta tl tc, .int .u64 mk, .int .u64 ch] 25)).alloc (.cells #[.string ⟨#[]⟩, .string ⟨#[]⟩, .string ⟨#[]⟩, .int .i64 0, .slice none 0 0, .int .u64 0, .int .u64 0] 25)).heap.size = w.heap.size + 1 + 1 := by rw [size_new, hz]
  have HX2 : Hid (Blk w2 w.heap.size #[.string nd, .string id, .string nm, .int .i64 po, .slice ta tl tc, .int .u64 mk, .int .u64 ch] 25) := by rw [Hw2.out]; exact ((Blk.new _ _ _).alloc _).alloc _
  have HR2 : Hid (Blk w2 (w.heap.size + 1) #[.string ⟨#[]⟩, .string ⟨#[]⟩, .string ⟨#[]⟩, .int .i64 0, .slice none 0 0, .int .u64 0, .int .u64 0] 25) := by rw [Hw2.out, ← hz]; exact (Blk.new _ _ _).alloc _
  have HB2 : Hid (Below w.heap.size w w2) := by rw [Hw2.out]; exact ((below_new w _).alloc (by rw [hz]; omega) _).alloc (by rw [hz2]; omega) _
  have HO2 : Hid (w2.ownsRow w.heap.size 9 1 (.slice (some ⟨w.heap.size + 1 + 1, 0, none⟩) 0 0) 0 []) := by
    rw [Hw2.out, ← hz2]
    exact World.ownsRow_lit (size := 1) _ #[] 0 (by rw [hz2]; omega) (by unfold maxLen; omega) rfl
  have HB2s : Hid (w.heap.size ≤ w2.heap.size) := HB2.out.size
  clear hz hz2
  go_enter Tryz.func11, Tryz.ntmps11
  go_wp2_with (at_builtin; rw [← Hw2.out]; refine append_src w2 rfl (.tmp 5) (.tmp 7) _ 9 _ 1 16 Tryz.underlying22 info_str rfl (by decide) rfl w.heap.size _ 0 [] rfl HO2.out ta tl tc L rfl HLl.out (HC.out.below HB2.out) HL1.out (by unfold maxLen; omega) (by omega) HB2s.out ?_)
  intro v3 w3 ho3 hg3
  have ho3 : w3.ownsRow w.heap.size 9 1 v3 tl L := by simpa using ho3
  obtain ⟨va, vc, rfl, -⟩ := row_forms ho3
  have HX3 : Hid (Blk w3 w.heap.size #[.string nd, .string id, .string nm, .int .i64 po, .slice ta tl tc, .int .u64 mk, .int .u64 ch] 25) := row_grewB HX2.out HO2.out hg3 (by decide)
  have HR3 : Hid (Blk w3 (w.heap.size + 1) #[.string ⟨#[]⟩, .string ⟨#[]⟩, .string ⟨#[]⟩, .int .i64 0, .slice none 0 0, .int .u64 0, .int .u64 0] 25) := row_grewB HR2.out HO2.out hg3 (by decide)
  have HB3 : Hid (Below w.heap.size w w3) := HB2.out.trans (hg3.toBelow HB2s.out fun j hj => (World.ownsRow.lt HO2.out j hj).1)
  have HO3 : Hid (w3.ownsRow w.heap.size 9 1 (.slice va tl vc) tl L) := ho3
  clear ho3 hg3 HX2 HR2 HB2 Hw2 HC HO2
  have b0 := HX3.out.cell 0 rfl
  have b1 := HX3.out.cell 1 rfl
  have b2 := HX3.out.cell 2 rfl
  have b3 := HX3.out.cell 3 rfl
  have b4 := HX3.out.cell 4 rfl
  have b5 := HX3.out.cell 5 rfl
  have b6 := HX3.out.cell 6 rfl
  have r0 := HR3.out.cell 0 rfl
  have r1 := HR3.out.cell 1 rfl
  have r2 := HR3.out.cell 2 rfl
  have r3 := HR3.out.cell 3 rfl
  have r4 := HR3.out.cell 4 rfl
  have r5 := HR3.out.cell 5 rfl
  have r6 := HR3.out.cell 6 rfl
  have zx := HX3.out.open
  have zr := HR3.out.open
  go_wp2
  have HRp : Hid (Blk (w3.setCell ⟨w.heap.size, 4, none⟩ (.slice va tl vc)) (w.heap.size + 1) #[.string ⟨#[]⟩, .string ⟨#[]⟩, .string ⟨#[]⟩, .int .i64 0, .slice none 0 0, .int .u64 0, .int .u64 0] 25) := by
    show (w3.setCell _ _).heap[_]? = _
    rw [heap_setCell_other _ _ _ _ (by show w.heap.size + 1 ≠ w.heap.size; omega)]
    exact HR3.out
  have HF : Hid (CopA w ⟨nd, id, nm, po, tg, mk, ch⟩ (.returned (.agg #[.string nd, .string id, .string nm, .int .i64 po, .slice va tl vc, .int .u64 mk, .int .u64 ch])) (putC (w3.setCell ⟨w.heap.size, 4, none⟩ (.slice va tl vc)) (w.heap.size + 1) 0 [.string nd, .string id, .string nm, .int .i64 po, .slice va tl vc, .int .u64 mk, .int .u64 ch])) := HFin.out _ _ (row_putC HRp.out (by decide) (row_set1 HX3.out (by decide) HO3.out _) [.string nd, .string id, .string nm, .int .i64 po, .slice va tl vc, .int .u64 mk, .int .u64 ch]) (putC_below [.string nd, .string id, .string nm, .int .i64 po, .slice va tl vc, .int .u64 mk, .int .u64 ch] (w3.setCell ⟨w.heap.size, 4, none⟩ (.slice va tl vc)) 0 (HB3.out.setCell (p := ⟨w.heap.size, 4, none⟩) (Nat.le_refl _) _) (by omega))
  have HLd : Hid ((loadVar 25 ⟨w.heap.size + 1, 0, none⟩).run Tryz.prog (putC (w3.setCell ⟨w.heap.size, 4, none⟩ (.slice va tl vc)) (w.heap.size + 1) 0 [.string nd, .string id, .string nm, .int .i64 po, .slice va tl vc, .int .u64 mk, .int .u64 ch]) = .ok (.agg #[.string nd, .string id, .string nm, .int .i64 po, .slice va tl vc, .int .u64 mk, .int .u64 ch]) (putC (w3.setCell ⟨w.heap.size, 4, none⟩ (.slice va tl vc)) (w.heap.size + 1) 0 [.string nd, .string id, .string nm, .int .i64 po, .slice va tl vc, .int .u64 mk, .int .u64 ch])) := load_svc (putC_all (l := [.string nd, .string id, .string nm, .int .i64 po, .slice va tl vc, .int .u64 mk, .int .u64 ch]) HRp.out rfl) rfl
  exact ret_box1 (g := w.heap.size + 1) (w := putC (w3.setCell ⟨w.heap.size, 4, none⟩ (.slice va tl vc)) (w.heap.size + 1) 0 [.string nd, .string id, .string nm, .int .i64 po, .slice va tl vc, .int .u64 mk, .int .u64 ch]) rfl rfl rfl HLd.out HF.out

end Go.Proofs.YtgjcchafmcccjaaGreatDoor
