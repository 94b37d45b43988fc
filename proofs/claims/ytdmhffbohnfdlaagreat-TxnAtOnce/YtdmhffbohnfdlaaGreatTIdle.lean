import Derived.Test.YtdmhffbohnfdlaaGreatTSet
import Derived.Test.YtdmhffbohnfdlaaGreatTCommit
/- Layer 5 (txn): what the document fixes of a first commit. -/
namespace Go.Proofs.YtdmhffbohnfdlaaGreat
open Go.RowKit
open scoped Classical
set_option linter.unusedVariables false

theorem heldGet_calls (w₀ : World) (tb : Nat) (T : Tr) (ne : Int) (d : Nat) (es : List En) (k : ByteArray) (n : Int) (w : World) (h : Held w₀ w tb T ne d es) (hk : k.size ≤ 140737488351296) (hm : (k, n) ∈ es) :
    Calls Tryz.prog 29 #[.pointer (some ⟨tb, 0, none⟩), .string k] w fun e w' => e = .returned (.tuple #[.int .i64 n, .bool true]) ∧ Below w.heap.size w w' := by
  obtain ⟨init, c, hA⟩ := along_split (k := k.data.toList) h.good.wf
  refine (get_tree tb T ne k w init c h.good.tree h.good.wf (root_pre h.good.root _) hk hA).mono ?_
  rintro e w' ⟨rfl, hb⟩
  obtain ⟨y, hy, hyx⟩ := (has_along hA rfl h.good.wf (root_pre h.good.root _) (.int .i64 n)).1 ((h.has _ _).2 ⟨(k, n), hm, rfl, rfl⟩)
  rw [hy]
  simp only [held, Option.isSome_some]
  rw [hyx]
  exact ⟨rfl, hb⟩

def keyA : ByteArray := ⟨#[97]⟩
theorem insK_nil (k : ByteArray) : insK [] k = [k] := by unfold insK; simp
theorem sortK_one (k : ByteArray) : sortK [k] = [k] := by unfold sortK; simp
theorem bare_held {W : World} {tb a g : Nat} (h : TreeAt W tb (.nd a ⟨#[]⟩ none [] g) 0) : Held W W tb (.nd a ⟨#[]⟩ none [] g) 0 0 [] :=
  ⟨⟨Below.refl _ _, h, .mk (fun t ht => by simp at ht) (fun t ht => by simp at ht) (by simp), rfl, fun c hc => by simp [Tr.ks] at hc, by decide, by decide⟩, HasE.nil, List.Pairwise.nil, rfl⟩
theorem bare_ways {a g : Nat} : WaysOk (.nd a ⟨#[]⟩ none [] g) [keyA] (fun _ => [.nd a ⟨#[]⟩ none [] g]) 1 :=
  ⟨.mk (fun t ht => by simp at ht) (fun t ht => by simp at ht) (by simp), rfl, fun k _ => .stop rfl, fun k _ => by simp, fun k hk => by simp at hk; subst hk; decide, by decide, [g], by simp, fun x hx => hx⟩

set_option maxRecDepth 100000 in
set_option maxHeartbeats 8000000 in
theorem txnAlive_calls (w : World) : Calls Tryz.prog 7 #[] w fun e w' => e = .returned (.bool true) ∧ Below w.heap.size w w' := by
  have hnot : ∀ (x : Bool) (w : World), (Op.unary .not (.bool x)).run Tryz.prog w = .ok (.bool (!x)) w := fun _ _ => rfl
  go_enter Tryz.func7, Tryz.ntmps7
  go_wp2_with fail
  refine (newBase_calls w).mono ?_
  rintro e w1 ⟨bb, vb, tb, rfl, hb1, hB1, ⟨a, g, hT1, hW1, hBg⟩, hbb⟩
  have HV1 := version_calls bb vb tb 0 false w1 hB1
  have HBE := begin_calls bb vb tb 0 w1 hB1
  have H1 : Hid (Below w.heap.size w w1 ∧ BaseAt w1 bb vb tb 0 false ∧ TreeAt w1 tb (.nd a ⟨#[]⟩ none [] g) 0 ∧ WAt w1 g (g - 1) false) := ⟨hb1, hB1, hT1, hW1⟩
  clear hb1 hB1 hT1 hW1
  go_wp2_with fail
  refine HV1.mono ?_
  clear HV1
  rintro e w0 ⟨rfl, hw0⟩
  rw [hw0]
  clear hw0 w0
  go_wp2_with fail
  refine HBE.mono ?_
  clear HBE
  rintro e w2 ⟨xb, mb, rfl, ht2, hB2, hx2, hm2, hxg, hmg⟩
  have offB1 : ∀ k ∈ [bb], Off w1 k := fun k hk => by simp at hk; subst hk; exact H1.out.2.1.off
  have hT2 : TreeAt w2 tb (.nd a ⟨#[]⟩ none [] g) 0 := H1.out.2.2.1.offs (· ∈ [bb]) (fun b hb hn => ht2.block b hb hn) offB1
  have hW2 : WAt w2 g (g - 1) false := H1.out.2.2.2.offs (· ∈ [bb]) (fun b hb hn => ht2.block b hb hn) offB1
  have HBO := begin_open bb vb tb 0 w2 hB2
  have H2 : Hid (Below w.heap.size w w2 ∧ BaseAt w2 bb vb tb 0 true ∧ TreeAt w2 tb (.nd a ⟨#[]⟩ none [] g) 0 ∧ WAt w2 g (g - 1) false ∧ TxnAt w2 xb bb tb mb ∧ w2.heap[mb]? = some (.map #[] 0)) := ⟨H1.out.1.trans (ht2.toBelow H1.out.1.size (by simpa using hbb)), hB2, hT2, hW2, hx2, hm2⟩
  have hws := H1.out.1.size
  clear ht2 hB2 hx2 hm2 hT2 hW2 offB1 H1
  go_wp2_with fail
  refine HBO.mono ?_
  clear HBO
  rintro e w3 ⟨rfl, ht3, hB3⟩
  have offB2 : ∀ k ∈ [bb], Off w2 k := fun k hk => by simp at hk; subst hk; exact H2.out.2.1.off
  have hT3 : TreeAt w3 tb (.nd a ⟨#[]⟩ none [] g) 0 := H2.out.2.2.1.offs (· ∈ [bb]) (fun b hb hn => ht3.block b hb hn) offB2
  have hW3 : WAt w3 g (g - 1) false := H2.out.2.2.2.1.offs (· ∈ [bb]) (fun b hb hn => ht3.block b hb hn) offB2
  have hxbb : xb ≠ bb := fun e => by have := H2.out.2.2.2.2.1.blk; rw [e, H2.out.2.1.blk] at this; simp at this
  have hmbb : mb ≠ bb := fun e => by have := H2.out.2.2.2.2.2; rw [e, H2.out.2.1.blk] at this; cases this
  have hx3 : TxnAt w3 xb bb tb mb := ⟨(ht3.block _ (lt_of_heap H2.out.2.2.2.2.1.blk) (by simpa using hxbb)).trans H2.out.2.2.2.2.1.blk⟩
  have hm3 : MapAt w3 mb #[] 0 [] := ⟨(ht3.block _ (lt_of_heap H2.out.2.2.2.2.2) (by simpa using hmbb)).trans H2.out.2.2.2.2.2, MapKept.stamped_empty 0, rfl, fun e he => by simp at he⟩
  have HSE := set_calls xb bb tb mb 0 #[] _ 0 0 [] [] keyA 5 _ w3 hx3 hB3.blk hm3 (bare_held hT3) (by decide) (by decide)
  have H3 : Hid (Below w.heap.size w w3 ∧ BaseAt w3 bb vb tb 0 true ∧ TreeAt w3 tb (.nd a ⟨#[]⟩ none [] g) 0 ∧ WAt w3 g (g - 1) false ∧ TxnAt w3 xb bb tb mb ∧ w3.heap[mb]? = some (.map #[] 0)) := ⟨H2.out.1.trans (ht3.toBelow H2.out.1.size (by simpa using hbb)), hB3, hT3, hW3, hx3, hm3.blk⟩
  clear ht3 hB3 hT3 hW3 hxbb hmbb hx3 hm3 offB2 H2
  unfold keyA at HSE
  go_wp2_with fail
  refine HSE.mono ?_
  clear HSE
  rintro e w4 ⟨r1, r2, tb4, T4, ne4, es4, cl4, rfl, hx4, hm4, hH4, ht4, -⟩
  have hH4b := hH4
  have hxb3 : Off w3 xb := H3.out.2.2.2.2.1.off H3.out.2.1.blk H3.out.2.2.1.blk
  have offX : ∀ k ∈ [xb, mb], Off w3 k := fun k hk => by
    simp at hk
    rcases hk with rfl | rfl
    · exact hxb3
    · exact .inl ⟨_, _, H3.out.2.2.2.2.2⟩
  have hT4 : TreeAt w4 tb (.nd a ⟨#[]⟩ none [] g) 0 := H3.out.2.2.1.offs (· ∈ [xb, mb]) (fun b hb hn => ht4.block b hb hn) offX
  have hW4 : WAt w4 g (g - 1) false := H3.out.2.2.2.1.offs (· ∈ [xb, mb]) (fun b hb hn => ht4.block b hb hn) offX
  have n1 : bb ≠ xb := fun e => by have := H3.out.2.1.blk; rw [e, H3.out.2.2.2.2.1.blk] at this; simp at this
  have n2 : bb ≠ mb := fun e => by have := H3.out.2.1.blk; rw [e, H3.out.2.2.2.2.2] at this; cases this
  have n3 : vb ≠ xb := fun e => by have := H3.out.2.1.ver; rw [e, H3.out.2.2.2.2.1.blk] at this; simp at this
  have n4 : vb ≠ mb := fun e => by have := H3.out.2.1.ver; rw [e, H3.out.2.2.2.2.2] at this; cases this
  have hB4 : BaseAt w4 bb vb tb 0 true := ⟨(ht4.block _ (lt_of_heap H3.out.2.1.blk) (by simp [n1, n2])).trans H3.out.2.1.blk, (ht4.block _ (lt_of_heap H3.out.2.1.ver) (by simp [n3, n4])).trans H3.out.2.1.ver⟩
  rw [insK_nil] at hm4
  have hxo4 : Off w4 xb := hx4.off hB4.blk hH4.good.tree.blk
  have HCO := commit_calls xb bb vb tb tb4 mb cl4 es4 0 _ 0 [keyA] (fun _ => [.nd a ⟨#[]⟩ none [] g]) 1 _ w4 hx4 hB4 hm4 hT4 hH4.good.tree.blk (by rw [sortK_one]; exact bare_ways) (by simp) (by simp) (by decide)
  have hwy : waysOf (fun _ => [.nd a ⟨#[]⟩ none [] g]) (sortK [keyA]) = [g] := by rw [sortK_one]; rfl
  have hnw : newly w4 [g] = [g] := by unfold newly; simp [hW4.flag]
  rw [hwy, hnw] at HCO
  have H4 : Hid (Below w.heap.size w w4 ∧ Held w4 w4 tb4 T4 ne4 (0 + 1) (insE [] keyA 5) ∧ Off w4 xb ∧ Off w4 bb) := ⟨H3.out.1.trans (ht4.toBelow H3.out.1.size (fun k hk => by simp at hk; omega)), hH4, hxo4, hB4.off⟩
  clear hH4b hxb3 offX hT4 hW4 n1 n2 n3 n4 hB4 hxo4 hwy hnw hx4 hm4 hH4 ht4 H3
  go_wp2_with fail
  refine HCO.mono ?_
  clear HCO
  rintro e w5 ⟨vb5, rfl, hB5, hF5, ht5, -⟩
  have HTR := tree_calls bb vb5 tb4 _ _ w5 hB5
  have HVR := version_calls bb vb5 tb4 _ _ w5 hB5
  have hT5 : TreeAt w5 tb4 T4 ne4 := H4.out.2.1.good.tree.frdO hF5 (fun b hb => hb.elim (fun e => e ▸ H4.out.2.2.2) (fun e => e ▸ H4.out.2.2.1))
  have HGE := heldGet_calls w5 tb4 T4 ne4 _ _ keyA 5 w5 (H4.out.2.1.move hT5) (by decide) (by simp [insE])
  have HB5 : Hid (Below w.heap.size w w5) := H4.out.1.trans (ht5.toBelow H4.out.1.size (fun k hk => by simp [both] at hk; omega))
  clear hB5 hF5 ht5 hT5 H4
  go_wp2_with fail
  refine HTR.mono ?_
  clear HTR
  rintro e w6 ⟨rfl, hw6⟩
  rw [hw6]
  clear hw6 w6
  unfold keyA at HGE
  go_wp2_with fail
  refine HVR.mono ?_
  clear HVR
  rintro e w6 ⟨rfl, hw6⟩
  rw [hw6]
  clear hw6 w6
  go_wp2_with fail
  refine HGE.mono ?_
  clear HGE
  rintro e w7 ⟨rfl, hb7⟩
  have HF : Hid (Below w.heap.size w w7) := HB5.out.trans (hb7.mono HB5.out.size)
  clear hb7
  go_wp2
  go_ret
  exact ⟨rfl, HF.out⟩
end Go.Proofs.YtdmhffbohnfdlaaGreat

/- Layer 5 (txn): an end that publishes nothing: Abort, and Commit with no key touched. -/
namespace Go.Proofs.YtdmhffbohnfdlaaGreat
open Go.RowKit
set_option linter.unusedVariables false

set_option maxRecDepth 100000 in
set_option maxHeartbeats 2000000 in
/-- Base.end with no key. -/
theorem baseIdle_calls (bb vb tb tb1 : Nat) (nm : Int) (ao : Option Addr) (cap : Nat) (w : World) (h : BaseAt w bb vb tb nm true) :
    Calls Tryz.prog 94 #[.pointer (some ⟨bb, 0, none⟩), .pointer (some ⟨tb1, 0, none⟩), .slice ao 0 cap] w fun e w' => e = .returned (.int .i64 0) ∧ BaseAt w' bb vb tb nm false ∧ Touched [bb] w w' := by
  have c1 : w.cell? ⟨bb, 1, none⟩ = some (.int .i32 0) := by rw [cell_of_blk h.blk]; rfl
  have z1 : w.frozen? ⟨bb, 1, none⟩ = false := frozen_of_blk h.blk
  have hne : vb ≠ bb := fun e => by have := h.ver; rw [e, h.blk] at this; simp at this
  obtain ⟨w1, HW1⟩ : ∃ w1, Hid (w1 = w.setCell ⟨bb, 1, none⟩ (.int .i32 1)) := ⟨_, rfl⟩
  have b1 : w1.heap[bb]? = some (.cells #[.pointer (some ⟨vb, 0, none⟩), .int .i32 1, .int .u32 0, .bool true] 97) := by rw [HW1.out]; exact mutex_two h.blk
  have d3 : w1.cell? ⟨bb, 3, none⟩ = some (.bool true) := by rw [cell_of_blk b1]; rfl
  have y3 : w1.frozen? ⟨bb, 3, none⟩ = false := frozen_of_blk b1
  obtain ⟨w2, HW2⟩ : ∃ w2, Hid (w2 = w1.setCell ⟨bb, 3, none⟩ (.bool false)) := ⟨_, rfl⟩
  have b2 : w2.heap[bb]? = some (.cells #[.pointer (some ⟨vb, 0, none⟩), .int .i32 1, .int .u32 0, .bool false] 97) := by rw [HW2.out, setCell_blk b1]; rfl
  have d2 : w2.cell? ⟨bb, 1, none⟩ = some (.int .i32 1) := by rw [cell_of_blk b2]; rfl
  have y2 : w2.frozen? ⟨bb, 1, none⟩ = false := frozen_of_blk b2
  have HF : Hid (BaseAt (w2.setCell ⟨bb, 1, none⟩ (.int .i32 0)) bb vb tb nm false ∧ Touched [bb] w (w2.setCell ⟨bb, 1, none⟩ (.int .i32 0))) := by
    refine ⟨⟨by rw [setCell_blk b2]; rfl, ?_⟩, ?_⟩
    · rw [heap_setCell_other _ _ _ _ hne, HW2.out, heap_setCell_other _ _ _ _ hne, HW1.out, heap_setCell_other _ _ _ _ hne]; exact h.ver
    · rw [HW2.out, HW1.out]; exact (((Touched.refl _ _).setCell _ _ (.inl (by simp))).setCell _ _ (.inl (by simp))).setCell _ _ (.inl (by simp))
  clear h b1 b2
  go_enter_defers Tryz.func94, Tryz.ntmps94
  go_wp2_with (first
    | (go_at_call 36; refine (lock_free ⟨bb, 1, none⟩ _ c1 z1).mono ?_; rintro e w' ⟨rfl, rfl⟩; rw [← HW1.out])
    | fail)
  rw [← HW2.out]
  refine leaves_cons (f := 37) (args := #[.pointer (some ⟨bb, 1, none⟩)]) (by simp) (by simp [go_sem]) ?_
  refine (unlock_deferred ⟨bb, 1, none⟩ _ _ d2 y2).mono ?_
  rintro e u' w'' ⟨rfl, rfl, rfl⟩
  have hf := HF.out
  simp [Leaves, settle, results, Tryz.results94, go_sem]
  exact hf

set_option maxRecDepth 100000 in
set_option maxHeartbeats 4000000 in
theorem txnIdle_calls (xb bb vb tb tbx mb : Nat) (nm : Int) (ao : Option Addr) (cap : Nat) (w : World) (hx : TxnAt w xb bb tbx mb) (h : BaseAt w bb vb tb nm true) :
    Calls Tryz.prog 68 #[.pointer (some ⟨xb, 0, none⟩), .slice ao 0 cap] w fun e w' => e = .returned (.int .i64 0) ∧ BaseAt w' bb vb tb nm false ∧ Touched [bb, xb] w w' := by
  have c0 : w.cell? ⟨xb, 0, none⟩ = some (.pointer (some ⟨bb, 0, none⟩)) := by rw [cell_of_blk hx.blk]; rfl
  have c1 : w.cell? ⟨xb, 1, none⟩ = some (.pointer (some ⟨tbx, 0, none⟩)) := by rw [cell_of_blk hx.blk]; rfl
  have c2 : w.cell? ⟨xb, 2, none⟩ = some (.map (some mb)) := by rw [cell_of_blk hx.blk]; rfl
  obtain ⟨w1, HW1⟩ : ∃ w1, Hid (w1 = w.alloc (.cells #[.pointer (some ⟨bb, 0, none⟩), .pointer (some ⟨tbx, 0, none⟩), .map (some mb)] 105)) := ⟨_, rfl⟩
  have hb1 : Below w.heap.size w w1 := by rw [HW1.out]; exact (Below.refl _ _).alloc (Nat.le_refl _) _
  have q1 : w1.heap[w.heap.size]? = some (.cells #[.pointer (some ⟨bb, 0, none⟩), .pointer (some ⟨tbx, 0, none⟩), .map (some mb)] 105) := by rw [HW1.out]; exact heap_alloc_new _ _
  have hxl := lt_of_heap hx.blk
  have x1 := (hx.below hb1).blk
  have d0 : w1.cell? ⟨xb, 0, none⟩ = some (.pointer (some ⟨bb, 0, none⟩)) := by rw [cell_of_blk x1]; rfl
  have d1 : w1.cell? ⟨xb, 1, none⟩ = some (.pointer (some ⟨tbx, 0, none⟩)) := by rw [cell_of_blk x1]; rfl
  have d2 : w1.cell? ⟨xb, 2, none⟩ = some (.map (some mb)) := by rw [cell_of_blk x1]; rfl
  have y0 : w1.frozen? ⟨xb, 0, none⟩ = false := frozen_of_blk x1
  have y1 : w1.frozen? ⟨xb, 1, none⟩ = false := frozen_of_blk x1
  have y2 : w1.frozen? ⟨xb, 2, none⟩ = false := frozen_of_blk x1
  obtain ⟨w2, HW2⟩ : ∃ w2, Hid (w2 = ((w1.setCell ⟨xb, 0, none⟩ (.pointer none)).setCell ⟨xb, 1, none⟩ (.pointer none)).setCell ⟨xb, 2, none⟩ (.map none)) := ⟨_, rfl⟩
  have t12 : Touched [xb] w1 w2 := by rw [HW2.out]; exact (((Touched.refl _ _).setCell _ _ (.inl (by simp))).setCell _ _ (.inl (by simp))).setCell _ _ (.inl (by simp))
  have t2 : Touched [xb] w w2 := (Touched.ofBelow hb1 _).trans t12
  have hnx : w.heap.size ≠ xb := by omega
  have q2 : w2.heap[w.heap.size]? = some (.cells #[.pointer (some ⟨bb, 0, none⟩), .pointer (some ⟨tbx, 0, none⟩), .map (some mb)] 105) := (t12.block _ (lt_of_heap q1) (by simpa using hnx)).trans q1
  have e0 : w2.cell? ⟨w.heap.size, 0, none⟩ = some (.pointer (some ⟨bb, 0, none⟩)) := by rw [cell_of_blk q2]; rfl
  have e1 : w2.cell? ⟨w.heap.size, 1, none⟩ = some (.pointer (some ⟨tbx, 0, none⟩)) := by rw [cell_of_blk q2]; rfl
  have hnb : bb ≠ xb := fun e => by have := h.blk; rw [e, hx.blk] at this; simp at this
  have hnv : vb ≠ xb := fun e => by have := h.ver; rw [e, hx.blk] at this; simp at this
  have h2 : BaseAt w2 bb vb tb nm true := ⟨(t2.block _ (lt_of_heap h.blk) (by simpa using hnb)).trans h.blk, (t2.block _ (lt_of_heap h.ver) (by simpa using hnv)).trans h.ver⟩
  have HBE := baseIdle_calls bb vb tb tbx nm ao cap w2 h2
  have HF : Hid (Touched [xb] w w2) := t2
  clear hb1 q1 hxl x1 t12 t2 hnx q2 hnb hnv h2 hx h
  go_enter Tryz.func68, Tryz.ntmps68
  go_upto_region 2 with fail
  rw [← HW1.out]
  clear HW1
  go_upto_region 3 with fail
  rw [← HW2.out]
  clear HW2
  go_wp2_with fail
  refine HBE.mono ?_
  clear HBE
  rintro e w5 ⟨rfl, hB5, ht5⟩
  have HFIN : Hid (BaseAt w5 bb vb tb nm false ∧ Touched [bb, xb] w w5) := ⟨hB5, HF.out.join ht5 (fun i hi => by simp at hi; simp [hi]) (fun i hi _ => by simp at hi; simp [hi])⟩
  clear hB5 ht5
  go_wp2
  go_ret
  exact ⟨rfl, HFIN.out⟩

set_option maxRecDepth 100000 in
set_option maxHeartbeats 2000000 in
theorem abort_calls (xb bb vb tb tbx mb : Nat) (nm : Int) (w : World) (hx : TxnAt w xb bb tbx mb) (h : BaseAt w bb vb tb nm true) :
    Calls Tryz.prog 25 #[.pointer (some ⟨xb, 0, none⟩)] w fun e w' => e = .returned (.int .i64 0) ∧ BaseAt w' bb vb tb nm false ∧ Touched [bb, xb] w w' := by
  have HO := over_calls xb bb tbx mb w hx
  have HTE := txnIdle_calls xb bb vb tb tbx mb nm none 0 w hx h
  clear hx h
  go_enter Tryz.func25, Tryz.ntmps25
  go_wp2_with fail
  refine HO.mono ?_
  clear HO
  rintro e w0 ⟨rfl, hw0⟩
  rw [hw0]
  clear hw0
  go_wp2_with fail
  refine HTE.mono ?_
  clear HTE
  rintro e w5 ⟨rfl, hB5, ht5⟩
  have HFIN : Hid (BaseAt w5 bb vb tb nm false ∧ Touched [bb, xb] w w5) := ⟨hB5, ht5⟩
  clear hB5 ht5
  go_wp2
  go_ret
  exact ⟨rfl, HFIN.out⟩

set_option maxRecDepth 100000 in
set_option maxHeartbeats 4000000 in
/-- Commit with no key touched. -/
theorem commitIdle_calls (xb bb vb tb tbx mb clock : Nat) (es : Array MapEntry) (nm : Int) (w : World) (hx : TxnAt w xb bb tbx mb) (h : BaseAt w bb vb tb nm true) (hm : MapAt w mb es clock []) :
    Calls Tryz.prog 26 #[.pointer (some ⟨xb, 0, none⟩)] w fun e w' => e = .returned (.tuple #[.int .i64 0, .int .i64 0]) ∧ BaseAt w' bb vb tb nm false ∧ Touched [bb, xb] w w' := by
  have HO := over_calls xb bb tbx mb w hx
  have HTC := touched_calls xb bb tbx mb clock es [] w hx hm (by simp)
  have HS : Hid (TxnAt w xb bb tbx mb ∧ BaseAt w bb vb tb nm true) := ⟨hx, h⟩
  clear hx h hm
  go_enter Tryz.func26, Tryz.ntmps26
  go_wp2_with fail
  refine HO.mono ?_
  clear HO
  rintro e w0 ⟨rfl, hw0⟩
  rw [hw0]
  clear hw0
  go_wp2_with fail
  refine HTC.mono ?_
  clear HTC
  rintro e w1 ⟨g, cap, ss, rfl, hss, -, hb1⟩
  have hs0 : ss = [] := by rw [hss]; simp
  rw [hs0]
  have HTE := txnIdle_calls xb bb vb tb tbx mb nm (some ⟨g, 0, none⟩) cap w1 (HS.out.1.below hb1) (HS.out.2.below hb1)
  have HB1 : Hid (Below w.heap.size w w1) := hb1
  clear hss hb1 hs0
  simp only [List.length_nil]
  go_wp2_with fail
  refine HTE.mono ?_
  clear HTE
  rintro e w5 ⟨rfl, hB5, ht5⟩
  have HFIN : Hid (BaseAt w5 bb vb tb nm false ∧ Touched [bb, xb] w w5) := ⟨hB5, (Touched.ofBelow HB1.out []).join ht5 (by simp) (fun i hi _ => hi)⟩
  clear hB5 ht5
  go_wp2
  refine bodyPost_ret (v := .tuple #[.int .i64 0, .int .i64 0]) (by simp [results, Tryz.results26, go_sem]) rfl ?_
  exact ⟨rfl, HFIN.out⟩
end Go.Proofs.YtdmhffbohnfdlaaGreat
