/- Layer 5 (txn): Commit of a transaction that has touched keys. -/
import Derived.Test.YtdmhffbohnfdlaaGreatTEnd
namespace Go.Proofs.YtdmhffbohnfdlaaGreat
open Go.RowKit
set_option linter.unusedVariables false

/-- Watches stand where blocks beside the trees were written. -/
theorem Touched.flags {l : List Nat} {w w' : World} (h : Touched l w w') (hl : ∀ k ∈ l, Off w k) : ∀ x, Wc anyO w x → WAt w' x (x - 1) (flagOf w x) := fun x hx => hx.at.offs (· ∈ l) (fun b hb hn => h.block b hb hn) hl

set_option maxRecDepth 100000 in
theorem over_calls (xb bb tb mb : Nat) (w : World) (h : TxnAt w xb bb tb mb) :
    Calls Tryz.prog 54 #[.pointer (some ⟨xb, 0, none⟩)] w fun e w' => e = .returned (.bool false) ∧ w' = w := by
  have c1 : w.cell? ⟨xb, 1, none⟩ = some (.pointer (some ⟨tb, 0, none⟩)) := by rw [cell_of_blk h.blk]; rfl
  clear h
  go_enter Tryz.func54, Tryz.ntmps54
  go_wp2
  go_ret
  exact ⟨rfl, rfl⟩

/-- The touched keys in order. -/
def sortK (ks : List ByteArray) : List ByteArray := ((ks.map (·.data.toList)).mergeSort fun x y => decide (x ≤ y)).map fun l => ⟨l.toArray⟩
theorem sortK_length (ks : List ByteArray) : (sortK ks).length = ks.length := by
  unfold sortK
  rw [List.length_map, (List.mergeSort_perm _ _).length_eq, List.length_map]
theorem mem_sortK {ks : List ByteArray} {k : ByteArray} (h : k ∈ sortK ks) : k ∈ ks := by
  unfold sortK at h
  obtain ⟨l, hl, rfl⟩ := List.mem_map.1 h
  obtain ⟨k', hk', rfl⟩ := List.mem_map.1 ((List.mergeSort_perm _ _).subset hl)
  simpa using hk'

set_option maxRecDepth 100000 in
set_option maxHeartbeats 4000000 in
/-- The transaction's own end. -/
theorem txnEnd_calls (xb bb vb tb tbx mb : Nat) (nm : Int) (T : Tr) (n : Int) (ks : List ByteArray) (way : ByteArray → List Tr) (N g cap : Nat) (cs ds : Array Value) (w : World) (hx : TxnAt w xb bb tbx mb) (h : BaseAt w bb vb tb nm true) (hT : TreeAt w tb T n) (hTx : w.heap[tbx]? = some (.cells ds 125)) (hW : WaysOk T ks way N) (hg : w.heap[g]? = some (.cells cs 9)) (hcs : ∀ i (h : i < ks.length), cs[i]? = some (.string ks[i])) (hk0 : 0 < ks.length) (hnm : 0 ≤ nm ∧ nm < 18446744073709551615) :
    Calls Tryz.prog 68 #[.pointer (some ⟨xb, 0, none⟩), .slice (some ⟨g, 0, none⟩) ks.length cap] w fun e w' => ∃ vb', e = .returned (.int .i64 ((newly w (waysOf way ks)).length : Int)) ∧ BaseAt w' bb vb' tbx (nm + 1) false ∧ Frd (fun b => b = bb ∨ b = xb) w w' ∧ Touched (bb :: xb :: both (waysOf way ks)) w w' ∧ ∀ x, Wc anyO w x → WAt w' x (x - 1) (decide (x ∈ waysOf way ks) || flagOf w x) := by
  have hoff : Off w xb := hx.off h.blk hTx
  have c0 : w.cell? ⟨xb, 0, none⟩ = some (.pointer (some ⟨bb, 0, none⟩)) := by rw [cell_of_blk hx.blk]; rfl
  have c1 : w.cell? ⟨xb, 1, none⟩ = some (.pointer (some ⟨tbx, 0, none⟩)) := by rw [cell_of_blk hx.blk]; rfl
  have c2 : w.cell? ⟨xb, 2, none⟩ = some (.map (some mb)) := by rw [cell_of_blk hx.blk]; rfl
  obtain ⟨w1, HW1⟩ : ∃ w1, Hid (w1 = w.alloc (.cells #[.pointer (some ⟨bb, 0, none⟩), .pointer (some ⟨tbx, 0, none⟩), .map (some mb)] 105)) := ⟨_, rfl⟩
  have hb1 : Below w.heap.size w w1 := by rw [HW1.out]; exact (Below.refl _ _).alloc (Nat.le_refl _) _
  have q1 : w1.heap[w.heap.size]? = some (.cells #[.pointer (some ⟨bb, 0, none⟩), .pointer (some ⟨tbx, 0, none⟩), .map (some mb)] 105) := by rw [HW1.out]; exact heap_alloc_new _ _
  have hxl := lt_of_heap hx.blk
  have x1 := (hx.below hb1).blk
  have d0 : w1.cell? ⟨xb, 0, none⟩ = some (.pointer (some ⟨bb, 0, none⟩)) := by rw [cell_of_blk x1]; rfl
  have d1 : w1.cell? ⟨xb, 1, none⟩ = some (.pointer (some ⟨tbx, 0, none⟩)) := by rw [cell_of_blk x1]; rfl
  have d2 : w1.cell? ⟨xb, 2, none⟩ = some (.map (some mb)) := by rw [cell_of_blk x1]; rfl
  have y0 : w1.frozen? ⟨xb, 0, none⟩ = false := frozen_of_blk x1
  have y1 : w1.frozen? ⟨xb, 1, none⟩ = false := frozen_of_blk x1
  have y2 : w1.frozen? ⟨xb, 2, none⟩ = false := frozen_of_blk x1
  obtain ⟨w2, HW2⟩ : ∃ w2, Hid (w2 = ((w1.setCell ⟨xb, 0, none⟩ (.pointer none)).setCell ⟨xb, 1, none⟩ (.pointer none)).setCell ⟨xb, 2, none⟩ (.map none)) := ⟨_, rfl⟩
  have t12 : Touched [xb] w1 w2 := by rw [HW2.out]; exact (((Touched.refl _ _).setCell _ _ (.inl (by simp))).setCell _ _ (.inl (by simp))).setCell _ _ (.inl (by simp))
  have t2 : Touched [xb] w w2 := (Touched.ofBelow hb1 _).trans t12
  have hnx : w.heap.size ≠ xb := by omega
  have q2 : w2.heap[w.heap.size]? = some (.cells #[.pointer (some ⟨bb, 0, none⟩), .pointer (some ⟨tbx, 0, none⟩), .map (some mb)] 105) := (t12.block _ (lt_of_heap q1) (by simpa using hnx)).trans q1
  have e0 : w2.cell? ⟨w.heap.size, 0, none⟩ = some (.pointer (some ⟨bb, 0, none⟩)) := by rw [cell_of_blk q2]; rfl
  have e1 : w2.cell? ⟨w.heap.size, 1, none⟩ = some (.pointer (some ⟨tbx, 0, none⟩)) := by rw [cell_of_blk q2]; rfl
  have offs : ∀ k ∈ [xb], Off w k := fun k hk => by simp at hk; subst hk; exact hoff
  have hnb : bb ≠ xb := fun e => by have := h.blk; rw [e, hx.blk] at this; simp at this
  have hnv : vb ≠ xb := fun e => by have := h.ver; rw [e, hx.blk] at this; simp at this
  have hng : g ≠ xb := fun e => by have := hg; rw [e, hx.blk] at this; simp at this
  have h2 : BaseAt w2 bb vb tb nm true := ⟨(t2.block _ (lt_of_heap h.blk) (by simpa using hnb)).trans h.blk, (t2.block _ (lt_of_heap h.ver) (by simpa using hnv)).trans h.ver⟩
  have hT2 : TreeAt w2 tb T n := hT.offs (· ∈ [xb]) (fun b hb hn => t2.block b hb hn) offs
  have hg2 := (t2.block _ (lt_of_heap hg) (by simpa using hng)).trans hg
  have hfl := t2.flags offs
  have hnew : newly w2 (waysOf way ks) = newly w (waysOf way ks) := newly_congr fun x hx => (hfl x (waysOf_wc hT.tat hW.on x hx)).flag
  have HBE := baseEnd_calls bb vb tb tbx nm T n ks way N g cap cs w2 h2 hT2 hW hg2 hcs hk0 hnm
  rw [hnew] at HBE
  have HF : Hid (Frd (· ∈ [xb]) w w2 ∧ (∀ x, Wc anyO w x → WAt w2 x (x - 1) (flagOf w x)) ∧ Touched [xb] w w2) := ⟨t2.frdO offs, hfl, t2⟩
  clear hoff hb1 q1 hxl x1 t12 t2 hnx q2 offs hnb hnv hng h2 hT2 hg2 hfl hnew hx h hT hTx hW hg hcs
  obtain ⟨kl, Hkl⟩ : ∃ kl, Hid (kl = ks.length) := ⟨_, rfl⟩
  rw [← Hkl.out] at HBE ⊢
  go_enter Tryz.func68, Tryz.ntmps68
  go_upto_region 2 with fail
  rw [← HW1.out]
  clear HW1
  go_upto_region 3 with fail
  rw [← HW2.out]
  clear HW2
  go_wp2_with fail
  refine HBE.mono ?_
  clear HBE
  rintro e w5 ⟨vb', rfl, hB5, hF5, ht5, hfl5⟩
  have HFIN : Hid (BaseAt w5 bb vb' tbx (nm + 1) false ∧ Frd (fun b => b = bb ∨ b = xb) w w5 ∧ Touched (bb :: xb :: both (waysOf way ks)) w w5 ∧ ∀ x, Wc anyO w x → WAt w5 x (x - 1) (decide (x ∈ waysOf way ks) || flagOf w x)) := by
    refine ⟨hB5, HF.out.1.trans hF5 (fun i e => .inr (by simpa using e)) (fun i _ e => .inl e), HF.out.2.2.join ht5 (fun i hi => by simp at hi; subst hi; simp) (fun i hi _ => by rcases List.mem_cons.1 hi with h | h <;> simp [h]), fun x hx => ?_⟩
    have h4 := HF.out.2.1 x hx
    have := hfl5 x ⟨_, h4, fun _ => trivial⟩
    rw [h4.flag] at this
    exact this
  clear hB5 hF5 ht5 hfl5
  go_wp2
  go_ret
  exact ⟨vb', rfl, HFIN.out⟩

set_option maxRecDepth 100000 in
set_option maxHeartbeats 4000000 in
theorem commit_calls (xb bb vb tb tbx mb clock : Nat) (es : Array MapEntry) (nm : Int) (T : Tr) (n : Int) (ks : List ByteArray) (way : ByteArray → List Tr) (N : Nat) (ds : Array Value) (w : World) (hx : TxnAt w xb bb tbx mb) (h : BaseAt w bb vb tb nm true) (hm : MapAt w mb es clock ks) (hT : TreeAt w tb T n) (hTx : w.heap[tbx]? = some (.cells ds 125)) (hW : WaysOk T (sortK ks) way N) (hk0 : 0 < ks.length) (hl : ks.length ≤ 8796093022208) (hnm : 0 ≤ nm ∧ nm < 18446744073709551615) :
    Calls Tryz.prog 26 #[.pointer (some ⟨xb, 0, none⟩)] w fun e w' => ∃ vb', e = .returned (.tuple #[.int .i64 ((newly w (waysOf way (sortK ks))).length : Int), .int .i64 0]) ∧ BaseAt w' bb vb' tbx (nm + 1) false ∧ Frd (fun b => b = bb ∨ b = xb) w w' ∧ Touched (bb :: xb :: both (waysOf way (sortK ks))) w w' ∧ ∀ x, Wc anyO w x → WAt w' x (x - 1) (decide (x ∈ waysOf way (sortK ks)) || flagOf w x) := by
  have HO := over_calls xb bb tbx mb w hx
  have HTC := touched_calls xb bb tbx mb clock es ks w hx hm hl
  have HS : Hid (TxnAt w xb bb tbx mb ∧ BaseAt w bb vb tb nm true ∧ TreeAt w tb T n ∧ w.heap[tbx]? = some (.cells ds 125) ∧ WaysOk T (sortK ks) way N) := ⟨hx, h, hT, hTx, hW⟩
  clear hx h hm hT hTx hW
  go_enter Tryz.func26, Tryz.ntmps26
  go_wp2_with fail
  refine HO.mono ?_
  clear HO
  rintro e w0 ⟨rfl, hw0⟩
  rw [hw0]
  clear hw0
  go_wp2_with fail
  refine HTC.mono ?_
  clear HTC
  rintro e w1 ⟨g, cap, ss, rfl, hss, ho1, hb1⟩
  have hsl : ss.length = (sortK ks).length := by rw [hss]; unfold sortK; rw [List.length_map]
  have hsk : sortK ks = ss.map fun l => ⟨l.toArray⟩ := by rw [hss]; rfl
  rcases ho1.2 with ⟨he, -⟩ | ⟨g', cap', cur, he, hB, hg1, -, -, -, htk⟩
  · cases he
  simp only [Value.slice.injEq, Option.some.injEq, Addr.mk.injEq] at he
  obtain ⟨⟨rfl, -⟩, -, rfl⟩ := he
  have hcs : ∀ i (h : i < (sortK ks).length), cur[i]? = some (.string (sortK ks)[i]) := fun i hi => by
    have h1 : i < ss.length := by omega
    have h2 : (cur.toList.take (ss.length * 1))[i]? = (ss.map encS)[i]? := by rw [htk]
    rw [List.getElem?_take_of_lt (by omega), List.getElem?_map, List.getElem?_eq_getElem h1] at h2
    have h3 : (sortK ks)[i] = ⟨ss[i].toArray⟩ := by simp [hsk]
    rw [h3]
    simpa using h2
  have hnew : newly w1 (waysOf way (sortK ks)) = newly w (waysOf way (sortK ks)) := newly_congr fun x hx => ((waysOf_wc HS.out.2.2.1.tat HS.out.2.2.2.2.on x hx).at.below hb1).flag
  have HTE := txnEnd_calls xb bb vb tb tbx mb nm T n (sortK ks) way N g cap cur ds w1 (HS.out.1.below hb1) (HS.out.2.1.below hb1) (HS.out.2.2.1.keep hb1) ((hb1.block _ (lt_of_heap HS.out.2.2.2.1)).trans HS.out.2.2.2.1) HS.out.2.2.2.2 hg1 hcs (by rw [sortK_length]; exact hk0) hnm
  rw [hnew, ← hsl] at HTE
  have HB1 : Hid (Below w.heap.size w w1) := hb1
  clear hss ho1 hb1 hsl hsk hB hg1 htk hcs hnew
  obtain ⟨kl, Hkl⟩ : ∃ kl, Hid (kl = ss.length) := ⟨_, rfl⟩
  rw [← Hkl.out] at HTE ⊢
  go_wp2_with fail
  refine HTE.mono ?_
  clear HTE
  rintro e w5 ⟨vb', rfl, hB5, hF5, ht5, hfl5⟩
  have HFIN : Hid (BaseAt w5 bb vb' tbx (nm + 1) false ∧ Frd (fun b => b = bb ∨ b = xb) w w5 ∧ Touched (bb :: xb :: both (waysOf way (sortK ks))) w w5 ∧ ∀ x, Wc anyO w x → WAt w5 x (x - 1) (decide (x ∈ waysOf way (sortK ks)) || flagOf w x)) := by
    refine ⟨hB5, (Frd.ofBelow (X := fun _ => False) HB1.out).trans hF5 (fun i e => e.elim) (fun i _ e => e), (Touched.ofBelow HB1.out []).join ht5 (by simp) (fun i hi _ => hi), fun x hx => ?_⟩
    have h4 := hx.at.below HB1.out
    have := hfl5 x ⟨_, h4, fun _ => trivial⟩
    rw [h4.flag] at this
    exact this
  clear hB5 hF5 ht5 hfl5
  go_wp2
  refine bodyPost_ret (v := .tuple #[.int .i64 ((newly w (waysOf way (sortK ks))).length : Int), .int .i64 0]) (by simp [results, Tryz.results26, go_sem]) rfl ?_
  exact ⟨vb', rfl, HFIN.out⟩
end Go.Proofs.YtdmhffbohnfdlaaGreat
