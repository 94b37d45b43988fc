/- The document's Insert. -/
import Derived.Test.YtcdfbbjakkmmoaaXRemade
namespace Go.Proofs.Ytcdfbbjakkmmoaa
open Go.RowKit
set_option linter.unusedVariables false

/-- Within the document's Insert: the lists of the tree that is made. -/
structure InI (w : World) (tc : Array Value) (kv vv lv : Value) (Ks Vs Ls : List Value) (W : World) : Prop where
  below : Below w.heap.size w W
  tb : W.heap[w.heap.size]? = some (.cells tc 28)
  rb : ∃ cs, W.heap[w.heap.size + 1]? = some (.cells cs 28) ∧ cs.size = 5
  ub : W.heap[w.heap.size + 2]? = some (.cells #[kv, vv, lv, .slice none 0 0, .slice none 0 0] 28)
  ok : OwnV W w.heap.size 9 kv Ks
  ov : OwnV W w.heap.size 3 vv Vs
  ol : OwnV W w.heap.size 3 lv Ls
  ap : Apart vv lv
theorem InI.keep {w : World} {tc : Array Value} {kv vv lv : Value} {Ks Vs Ls : List Value} {W W1 : World} (h : InI w tc kv vv lv Ks Vs Ls W) (hb : Below W.heap.size W W1) : InI w tc kv vv lv Ks Vs Ls W1 := by
  obtain ⟨cs, r0, hcs⟩ := h.rb
  exact ⟨h.below.trans (hb.mono h.below.size), (hb.block _ (lt_of_heap h.tb)).trans h.tb, ⟨cs, (hb.block _ (lt_of_heap r0)).trans r0, hcs⟩, (hb.block _ (lt_of_heap h.ub)).trans h.ub, h.ok.below hb, h.ov.below hb, h.ol.below hb, h.ap⟩
theorem InI.nextK {w : World} {tc : Array Value} {kv vv lv x1 : Value} {Ks Vs Ls l1 : List Value} {W W1 : World} (h : InI w tc kv vv lv Ks Vs Ls W) (ho : OwnV W1 w.heap.size 9 x1 l1) (hg : Grew W W1 kv x1) :
    (W1.cell? ⟨w.heap.size + 2, 0, none⟩ = some kv ∧ W1.frozen? ⟨w.heap.size + 2, 0, none⟩ = false) ∧ InI w tc x1 vv lv l1 Vs Ls (W1.setCell ⟨w.heap.size + 2, 0, none⟩ x1) := by
  have t1 := grew_blk h.ok hg h.tb (by decide)
  have u1 := grew_blk h.ok hg h.ub (by decide)
  obtain ⟨cs, r0, hcs⟩ := h.rb
  have r1 := grew_blk h.ok hg r0 (by decide)
  refine ⟨⟨by rw [cell_of_blk u1]; rfl, frozen_of_blk u1⟩, ?_⟩
  have k1 := ho
  have v1 := h.ov.other hg (Apart.typed h.ov h.ok (by decide))
  have l1 := h.ol.other hg (Apart.typed h.ol h.ok (by decide))
  have ap1 := h.ap
  refine ⟨(h.below.trans (hg.toBelow h.below.size (fun k hk => (h.ok.lt k hk).1))).setCell (p := ⟨w.heap.size + 2, 0, none⟩) (by show w.heap.size ≤ w.heap.size + 2; omega) _, ?_, ⟨cs, ?_, hcs⟩, ?_, ?_, ?_, ?_, ap1⟩
  · rw [heap_setCell_other _ _ _ _ (by simp; try omega)]; exact t1
  · rw [heap_setCell_other _ _ _ _ (by simp; try omega)]; exact r1
  · rw [setCell_blk u1]; rfl
  · exact k1.store (fun h => own_ne (k1.typed _ h) u1 (by decide) rfl) _
  · exact v1.store (fun h => own_ne (v1.typed _ h) u1 (by decide) rfl) _
  · exact l1.store (fun h => own_ne (l1.typed _ h) u1 (by decide) rfl) _
theorem InI.nextV {w : World} {tc : Array Value} {kv vv lv x1 : Value} {Ks Vs Ls l1 : List Value} {W W1 : World} (h : InI w tc kv vv lv Ks Vs Ls W) (ho : OwnV W1 w.heap.size 3 x1 l1) (hg : Grew W W1 vv x1) :
    (W1.cell? ⟨w.heap.size + 2, 1, none⟩ = some vv ∧ W1.frozen? ⟨w.heap.size + 2, 1, none⟩ = false) ∧ InI w tc kv x1 lv Ks l1 Ls (W1.setCell ⟨w.heap.size + 2, 1, none⟩ x1) := by
  have t1 := grew_blk h.ov hg h.tb (by decide)
  have u1 := grew_blk h.ov hg h.ub (by decide)
  obtain ⟨cs, r0, hcs⟩ := h.rb
  have r1 := grew_blk h.ov hg r0 (by decide)
  refine ⟨⟨by rw [cell_of_blk u1]; rfl, frozen_of_blk u1⟩, ?_⟩
  have k1 := h.ok.other hg (Apart.typed h.ok h.ov (by decide))
  have v1 := ho
  have l1 := h.ol.other hg h.ap.symm
  have ap1 := (h.ap.symm.grew h.ol hg).symm
  refine ⟨(h.below.trans (hg.toBelow h.below.size (fun k hk => (h.ov.lt k hk).1))).setCell (p := ⟨w.heap.size + 2, 1, none⟩) (by show w.heap.size ≤ w.heap.size + 2; omega) _, ?_, ⟨cs, ?_, hcs⟩, ?_, ?_, ?_, ?_, ap1⟩
  · rw [heap_setCell_other _ _ _ _ (by simp; try omega)]; exact t1
  · rw [heap_setCell_other _ _ _ _ (by simp; try omega)]; exact r1
  · rw [setCell_blk u1]; rfl
  · exact k1.store (fun h => own_ne (k1.typed _ h) u1 (by decide) rfl) _
  · exact v1.store (fun h => own_ne (v1.typed _ h) u1 (by decide) rfl) _
  · exact l1.store (fun h => own_ne (l1.typed _ h) u1 (by decide) rfl) _
theorem InI.nextL {w : World} {tc : Array Value} {kv vv lv x1 : Value} {Ks Vs Ls l1 : List Value} {W W1 : World} (h : InI w tc kv vv lv Ks Vs Ls W) (ho : OwnV W1 w.heap.size 3 x1 l1) (hg : Grew W W1 lv x1) :
    (W1.cell? ⟨w.heap.size + 2, 2, none⟩ = some lv ∧ W1.frozen? ⟨w.heap.size + 2, 2, none⟩ = false) ∧ InI w tc kv vv x1 Ks Vs l1 (W1.setCell ⟨w.heap.size + 2, 2, none⟩ x1) := by
  have t1 := grew_blk h.ol hg h.tb (by decide)
  have u1 := grew_blk h.ol hg h.ub (by decide)
  obtain ⟨cs, r0, hcs⟩ := h.rb
  have r1 := grew_blk h.ol hg r0 (by decide)
  refine ⟨⟨by rw [cell_of_blk u1]; rfl, frozen_of_blk u1⟩, ?_⟩
  have k1 := h.ok.other hg (Apart.typed h.ok h.ol (by decide))
  have v1 := h.ov.other hg h.ap
  have l1 := ho
  have ap1 := h.ap.grew h.ov hg
  refine ⟨(h.below.trans (hg.toBelow h.below.size (fun k hk => (h.ol.lt k hk).1))).setCell (p := ⟨w.heap.size + 2, 2, none⟩) (by show w.heap.size ≤ w.heap.size + 2; omega) _, ?_, ⟨cs, ?_, hcs⟩, ?_, ?_, ?_, ?_, ap1⟩
  · rw [heap_setCell_other _ _ _ _ (by simp; try omega)]; exact t1
  · rw [heap_setCell_other _ _ _ _ (by simp; try omega)]; exact r1
  · rw [setCell_blk u1]; rfl
  · exact k1.store (fun h => own_ne (k1.typed _ h) u1 (by decide) rfl) _
  · exact v1.store (fun h => own_ne (v1.typed _ h) u1 (by decide) rfl) _
  · exact l1.store (fun h => own_ne (l1.typed _ h) u1 (by decide) rfl) _

def InX (w : World) (tc : Array Value) (Ks Vs Ls : List Value) (W : World) : Prop := ∃ a1 n1 c1 a2 n2 c2 a3 n3 c3, InI w tc (.slice a1 n1 c1) (.slice a2 n2 c2) (.slice a3 n3 c3) Ks Vs Ls W
def frm (es : List En) (k : ByteArray) : Nat := if k ∈ keysOf es then place (keysOf es) k + 1 else place (keysOf es) k
/-- At the end of the document's Insert, Delete: the five lists. -/
structure FinI (w : World) (cs : Array Value) (kv vv lv pv mv : Value) (Ks Vs Ls Ps Ms : List Value) (W : World) : Prop where
  below : Below w.heap.size w W
  rb : W.heap[w.heap.size + 1]? = some (.cells cs 28)
  rz : cs.size = 5
  ub : W.heap[w.heap.size + 2]? = some (.cells #[kv, vv, lv, pv, mv] 28)
  ok : OwnV W w.heap.size 9 kv Ks
  ov : OwnV W w.heap.size 3 vv Vs
  ol : OwnV W w.heap.size 3 lv Ls
  op : OwnV W w.heap.size 9 pv Ps
  om : OwnV W w.heap.size 3 mv Ms
theorem own_touched {w W W' : World} {T : List Nat} {e : TypeId} {v : Value} {l : List Value} {B : Nat} (h : OwnV W B e v l) (ht : Touched T W W') (hT : ∀ b ∈ T, ∃ cs, W.heap[b]? = some (.cells cs 28)) (hne : e ≠ 28) : OwnV W' B e v l :=
  h.touched ht fun k hk hm => by
    obtain ⟨cs, hc⟩ := hT k hm
    exact own_ne (h.typed k hk) hc hne rfl
theorem keys_insE (es : List En) (k : ByteArray) (v : Int) : keysOf (insE es k v) = (keysOf es).take (place (keysOf es) k) ++ k :: (keysOf es).drop (frm es k) := by
  unfold insE frm keysOf; simp [List.map_take, List.map_drop]
theorem vals_insE (es : List En) (k : ByteArray) (v : Int) : valsOf (insE es k v) = (valsOf es).take (place (keysOf es) k) ++ v :: (valsOf es).drop (frm es k) := by
  unfold insE frm valsOf; simp [List.map_take, List.map_drop]
theorem insE_length (es : List En) (k : ByteArray) (v : Int) (h : place (keysOf es) k ≤ es.length) : (insE es k v).length = place (keysOf es) k + 1 + (es.length - frm es k) := by
  unfold insE; simp [frm]; omega
theorem elemS : Try.prog.elem 22 = 9 := by kernel_rfl
theorem underS : Try.prog.underlying 22 = some (.slice (Try.prog.elem 22)) := by rw [elemS]; exact Try.underlying22
theorem sizeS (W : World) : (Go.sizeOf 9).run Try.prog W = .ok 1 W := by
  obtain ⟨i0, hi, hz0, hz1, hz2⟩ := infoOf infoS
  simp [Go.sizeOf, typeInfo, hi, hz1]
theorem elemI : Try.prog.elem 26 = 3 := by kernel_rfl
theorem underI : Try.prog.underlying 26 = some (.slice (Try.prog.elem 26)) := by rw [elemI]; exact Try.underlying26
theorem sizeI (W : World) : (Go.sizeOf 3).run Try.prog W = .ok 1 W := by
  obtain ⟨i0, hi, hz0, hz1, hz2⟩ := infoOf infoI
  simp [Go.sizeOf, typeInfo, hi, hz1]
/-- What k had. -/
def oldV (es : List En) (k : ByteArray) : Int := if k ∈ keysOf es then (valsOf es).getD (place (keysOf es) k) 0 else 0
theorem upTo_len (x : Sv) (q : Nat) (h : q ≤ x.vs.length) : q = (x.upTo q).vs.length := by simp [Sv.upTo]; omega
theorem fro_len (x : Sv) (n q : Nat) (h : n = x.vs.length) : n - q = (x.fro q).vs.length := by simp [Sv.fro]; omega
end Go.Proofs.Ytcdfbbjakkmmoaa
