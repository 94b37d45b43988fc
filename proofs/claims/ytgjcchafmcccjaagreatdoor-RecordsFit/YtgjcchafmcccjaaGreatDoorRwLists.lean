/- Layer 7 (rows): keyLists. -/
import Derived.Test.YtgjcchafmcccjaaGreatDoorRwFit
namespace Go.Proofs.YtgjcchafmcccjaaGreatDoor
open Go.RowKit
set_option linter.unusedVariables false
attribute [local go_sem] Oper.semAt_some

def emptyQ : Pt := ⟨1, ⟨#[]⟩, 0⟩
/-- What stands behind; the list of one element; all lists; whether nothing lacks. -/
def behindP (t : Tb) (x : Ix) (cs : List CV) : List Pt := if x.u then [] else ownP t.fs (t.xs.getD 0 ⟨⟨#[]⟩, [], false, false, false⟩) cs ⟨#[]⟩
def lackB (fs : List Fd) (x : Ix) (cs : List CV) (e : ByteArray) : Bool := (ownP fs x cs e).any (ptEq emptyQ)
def oneL (fs : List Fd) (x : Ix) (cs : List CV) (bh : List Pt) (e : ByteArray) : Option (List Pt) := if lackB fs x cs e then none else some (ownP fs x cs e ++ bh)
def listsP (t : Tb) (x : Ix) (cs : List CV) : List (List Pt) := (elemsOf t.fs x.ov cs).filterMap (oneL t.fs x cs (behindP t x cs))
def wholeB (t : Tb) (x : Ix) (cs : List CV) : Bool := decide (0 < (elemsOf t.fs x.ov cs).length) && (elemsOf t.fs x.ov cs).all fun e => !lackB t.fs x cs e

/-- A list of parts in memory; lists of them. -/
structure LV where
  ps : List Pt
  a : Option Addr
  c : Nat
abbrev LV.v (x : LV) : Value := .slice x.a x.ps.length x.c
structure Lists (w : World) (B : Nat) (v : Value) (ls : List LV) : Prop where
  row : w.ownsRow B 94 1 v ls.length (ls.map LV.v)
  each : ∀ x ∈ ls, OwnP w B x.v x.ps
  wf : ∀ x ∈ ls, (∀ p ∈ x.ps, p.wf) ∧ x.ps.length ≤ 8
theorem Lists.nil (w : World) (B : Nat) : Lists w B (.slice none 0 0) [] := ⟨World.ownsRow_nil _ _ _ _, fun x hx => by simp at hx, fun x hx => by simp at hx⟩
theorem Lists.below {w w' : World} {B : Nat} {v : Value} {ls : List LV} (h : Lists w B v ls) (hb : Below w.heap.size w w') : Lists w' B v ls := ⟨row_below h.row hb, fun x hx => (h.each x hx).below hb, h.wf⟩
/-- A slice of parts made since grows. -/
theorem Lists.grew {w w2 w3 : World} {B : Nat} {v vp vp' : Value} {ls : List LV} {ps : List Pt} (h : Lists w2 B v ls) (hl : ∀ k, v.ownBlock = some k → k < w.heap.size) (hl2 : ∀ x ∈ ls, ∀ k, x.v.ownBlock = some k → k < w.heap.size) (ho : OwnP w2 w.heap.size vp ps) (hg : Grew w2 w3 vp vp') : Lists w3 B v ls :=
  ⟨row_grew h.row hg (fun k hk e => by have := (ho.lt k hk).1; have := hl k e; omega), fun x hx => row_grew (h.each x hx) hg (fun k hk e => by have := (ho.lt k hk).1; have := hl2 x hx k e; omega), h.wf⟩
theorem Lists.push {w2 w3 : World} {B : Nat} {v v' : Value} {ls : List LV} {x : LV} (h : Lists w2 B v ls) (hx : OwnP w2 B x.v x.ps) (hw : (∀ p ∈ x.ps, p.wf) ∧ x.ps.length ≤ 8)
    (hr : w3.ownsRow B 94 1 v' (ls.length + 1) (ls.map LV.v ++ [x.v])) (hg : Grew w2 w3 v v') : Lists w3 B v' (ls ++ [x]) := by
  refine ⟨by rw [List.length_append, List.map_append]; exact hr, fun y hy => ?_, fun y hy => ?_⟩
  · rcases List.mem_append.1 hy with hy | hy
    · exact row_grew (h.each y hy) hg (rows_ne (h.each y hy) h.row (by decide))
    · simp only [List.mem_singleton] at hy
      subst hy
      exact row_grew hx hg (rows_ne hx h.row (by decide))
  · rcases List.mem_append.1 hy with hy | hy
    · exact h.wf y hy
    · simp only [List.mem_singleton] at hy
      subst hy
      exact hw
theorem Lists.lt {w : World} {B : Nat} {v : Value} {ls : List LV} (h : Lists w B v ls) : (∀ k, v.ownBlock = some k → k < w.heap.size) ∧ ∀ x ∈ ls, ∀ k, x.v.ownBlock = some k → k < w.heap.size :=
  ⟨fun k hk => (World.ownsRow.lt h.row k hk).2, fun x hx k hk => ((h.each x hx).lt k hk).2⟩
theorem info_plist : (Tryz.prog.info? 94).map (fun i => (i.zero, i.size, i.bytes)) = some (some (.slice none 0 0), 1, 24) := by kernel_rfl

theorem oneL_snoc (fs : List Fd) (x : Ix) (cs : List CV) (bh : List Pt) (els : List ByteArray) (k : Nat) (hk : k < els.length) : (els.take (k + 1)).filterMap (oneL fs x cs bh) = (els.take k).filterMap (oneL fs x cs bh) ++ (if lackB fs x cs els[k] then [] else [ownP fs x cs els[k] ++ bh]) := by
  rw [List.take_succ_eq_append_getElem hk, List.filterMap_append]
  congr 1
  unfold oneL
  cases h : lackB fs x cs els[k] <;> simp [h]
theorem all_snoc (els : List ByteArray) (f : ByteArray → Bool) (k : Nat) (hk : k < els.length) : (els.take (k + 1)).all f = ((els.take k).all f && f els[k]) := by
  rw [List.take_succ_eq_append_getElem hk, List.all_append]
  simp

/-- The slice of elements stays readable. -/
def ElsAt (w wr : World) (ao : Option Addr) (els : List ByteArray) : Prop := CellsAt wr ao (els.map Value.string) ∧ ∀ g off, ao = some ⟨g, off, none⟩ → 0 < els.length → g < w.heap.size ∨ ∃ q, wr.heap[g]? = some (.cells q 9)
theorem ElsAt.fr {w a b : World} {B : Nat} {ao : Option Addr} {els : List ByteArray} (h : ElsAt w a ao els) (hB : w.heap.size ≤ B) (hf : Fr B a b) : ElsAt w b ao els := by
  refine ⟨fun hne => ?_, fun g off hg hn => ?_⟩
  · have hn : 0 < els.length := by cases els with | nil => simp at hne | cons _ _ => simp
    obtain ⟨g, off, ha, hc⟩ := h.1 hne
    refine ⟨g, off, ha, fun j u hj => ?_⟩
    have h1 := hc j u hj
    rcases h.2 g off ha hn with h2 | ⟨q, hq⟩
    · rw [hf.below.cell (show g < B by omega)]; exact h1
    · have h3 := hf.strs g q hq
      rw [cell_blk hq] at h1
      rw [cell_blk h3]
      exact h1
  · rcases h.2 g off hg hn with h2 | ⟨q, hq⟩
    · exact .inl h2
    · exact .inr ⟨q, hf.strs g q hq⟩

/-- While the lists are gathered. -/
structure KlI (w : World) (t : TV) (x : XV) (bh : List Pt) (vb : Value) (ea : Option Addr) (els : List ByteArray) (v : Value) (ls : List LV) (wr : World) : Prop where
  tab : wr.heap[w.heap.size]? = some (.cells #[.string t.n, t.fv, t.xv] 42)
  bx : wr.heap[w.heap.size + 1]? = some (.cells #[.string x.x.n, .slice x.va x.x.ov.length x.vc, .bool x.x.u, .bool x.x.l, .bool x.x.s] 67)
  bh : OwnP wr w.heap.size vb bh
  els : ElsAt w wr ea els
  ls : Lists wr w.heap.size v ls
  be : Below w.heap.size w wr
theorem KlI.below {w : World} {t : TV} {x : XV} {bh : List Pt} {vb : Value} {ea : Option Addr} {els : List ByteArray} {v : Value} {ls : List LV} {wr w' : World} (h : KlI w t x bh vb ea els v ls wr) (hb : Below wr.heap.size wr w') : KlI w t x bh vb ea els v ls w' :=
  ⟨(hb.block _ (lt_blk h.tab)).trans h.tab, (hb.block _ (lt_blk h.bx)).trans h.bx, h.bh.below hb, h.els.fr h.be.size (Fr.ofBelow hb (Nat.le_refl _)), h.ls.below hb, h.be.trans (hb.mono h.be.size)⟩
/-- One list more. -/
theorem KlI.push {w : World} {t : TV} {x : XV} {bh : List Pt} {vb : Value} {ea : Option Addr} {els : List ByteArray} {v v' vp vp' : Value} {ls : List LV} {ps : List Pt} {y : LV} {wr w1 w2 w3 : World} (h : KlI w t x bh vb ea els v ls wr) (hb : Below wr.heap.size wr w1)
    (ho : OwnP w1 wr.heap.size vp ps) (hg : Grew w1 w2 vp vp') (hy : OwnP w2 wr.heap.size y.v y.ps) (hw : (∀ p ∈ y.ps, p.wf) ∧ y.ps.length ≤ 8) (hr : w3.ownsRow w.heap.size 94 1 v' (ls.length + 1) (ls.map LV.v ++ [y.v])) (hg2 : Grew w2 w3 v v') :
    KlI w t x bh vb ea els v' (ls ++ [y]) w3 := by
  have h1 := h.below hb
  have hlt := h.ls.lt
  have hl2 := h1.ls.grew hlt.1 hlt.2 ho hg
  have k1 : ∀ {b : Nat} {cs : Array Value} {ty : TypeId}, w1.heap[b]? = some (.cells cs ty) → 112 ≠ ty → 94 ≠ ty → w3.heap[b]? = some (.cells cs ty) := fun hc n1 n2 => by
    have a1 := (hg.grown.block _ (lt_blk hc) (fun e => row_ne ho hc n1 e.symm)).trans hc
    exact (hg2.grown.block _ (lt_blk a1) (fun e => row_ne hl2.row a1 n2 e.symm)).trans a1
  have hbh : ∀ k, vb.ownBlock = some k → k < wr.heap.size := fun k hk => (h.bh.lt k hk).2
  have b2 : OwnP w2 w.heap.size vb bh := row_grew h1.bh hg (fun k hk e => by have := (ho.lt k hk).1; have := hbh k e; omega)
  have f1 : Below w1.heap.size w1 w1 := Below.refl _ _
  have fb : Below wr.heap.size w1 w2 := ho.toBelow hb.size hg
  have hsz : w.heap.size ≤ wr.heap.size := h.be.size
  have hf2 : Fr w.heap.size w1 w2 := ⟨fb.mono hsz, fun k cs hk => (hg.grown.block _ (lt_blk hk) (fun e => row_ne ho hk (by decide) e.symm)).trans hk⟩
  have fb2 : Below w.heap.size w2 w3 := hg2.toBelow (Nat.le_trans hsz (Nat.le_trans hb.size hg.size)) fun k hk => (World.ownsRow.lt hl2.row k hk).1
  have hf3 : Fr w.heap.size w2 w3 := ⟨fb2, fun k cs hk => (hg2.grown.block _ (lt_blk hk) (fun e => row_ne hl2.row hk (by decide) e.symm)).trans hk⟩
  refine ⟨k1 h1.tab (by decide) (by decide), k1 h1.bx (by decide) (by decide), row_grew b2 hg2 (rows_ne b2 hl2.row (by decide)), (h1.els.fr (Nat.le_refl _) hf2).fr (Nat.le_refl _) hf3, hl2.push (OwnP.mono hy hsz) hw hr hg2, (h1.be.trans hf2.below).trans hf3.below⟩
end Go.Proofs.YtgjcchafmcccjaaGreatDoor
