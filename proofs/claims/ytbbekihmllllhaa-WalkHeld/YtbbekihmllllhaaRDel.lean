/- Layer 3 (radix): Delete. -/
import Derived.Test.YtbbekihmllllhaaRNeed
import Derived.Test.YtbbekihmllllhaaRInsM
namespace Go.Proofs.Ytbbekihmllllhaa
open Go.RowKit Go.Shelf
set_option linter.unusedVariables false
variable {R : Nat → Prop}
attribute [local go_sem] Oper.semAt_some

/-- What a tree becomes when k's value goes. -/
inductive DelR (N : Nat) (k : ByteArray) : Tr → Tr → Prop
  | here {t a g} (hp : t.p.size = k.size) (ha : N ≤ a) (hg : N ≤ g) : DelR N k t (.nd a t.p none t.ks g)
  | down {t c c' a g} (hn : nx t k.data.toList = some c) (hp : t.p.size < k.size) (h : DelR N k c c') (ha : N ≤ a) (hg : N ≤ g) :
      DelR N k t (.nd a t.p t.v (t.ks.take (posn t.ks t.p.size k[t.p.size]) ++ neededOf c' ++ t.ks.drop (posn t.ks t.p.size k[t.p.size] + 1)) g)

theorem del_down {N : Nat} {k : ByteArray} {t c c' : Tr} {a g : Nat} (h : WF t) (hp : t.p.size < k.size) (hn : nx t k.data.toList = some c) (hi : DelR N k c c') (ha : N ≤ a) (hg : N ≤ g) :
    DelR N k t (.nd a t.p t.v (t.ks.take (posn t.ks t.p.size k[t.p.size]) ++ neededOf c' ++ t.ks.drop (behindOf t k hp)) g) := by
  have hbh : behindOf t k hp = posn t.ks t.p.size k[t.p.size] + 1 := by unfold behindOf; rw [nx_there h hp hn]; rfl
  rw [hbh]
  exact .down hn hp hi ha hg

theorem newNode_some (p : ByteArray) (po : Option Addr) (ao : Option Addr) (n cap : Nat) (w : World) :
    Calls Try.prog 54 #[.string p, .pointer po, .slice ao n cap] w fun e w' => ∃ a g c, e = .returned (.pointer (some ⟨a, 0, none⟩)) ∧ Below w.heap.size w w' ∧ w'.heap[a]? = some (.cells #[.string p, .pointer po, .slice ao n cap, .pointer (some ⟨g, 0, none⟩)] 104) ∧ WAt w' g c false ∧ w.heap.size ≤ a ∧ w.heap.size ≤ g :=
  (newNode_calls p po ao n cap w).mono fun e w' ⟨h1, h2, h3, h4, h5⟩ => ⟨_, _, _, h1, h2, h4, h5, by omega, by omega⟩

/-- A node anew, without its value. -/
theorem renew {w w' : World} {c : Tr} {y : SlV} {a g cc : Nat} (h : TAt R w c) (hb : Below w.heap.size w w') (hy : y.ks = c.ks) (hyA : y.At R w) (hn : w'.heap[a]? = some (.cells #[.string c.p, .pointer none, .slice y.ao y.ks.length y.cap, .pointer (some ⟨g, 0, none⟩)] 104)) (hw : WAt w' g cc false) : TAt R w' (.nd a c.p none c.ks g) := by
  rw [← hy]
  exact TAt.laid (v := none) hn (hyA.below hb) (fun y hy => by cases hy) hw (fun t ht => by rw [hy] at ht; exact (h.sub' t ht).keep hb) h.psz'

structure DelMid (w : World) (k : ByteArray) (c : Tr) (init : List Tr) (kb g nb a ga : Nat) (wx : World) : Prop where
  below : Below w.heap.size w wx
  kbox : wx.heap[kb]? = some (.cells #[.string k] 9)
  nbox : wx.heap[nb]? = some (.cells #[.pointer (some ⟨a, 0, none⟩)] 70)
  nbl : w.heap.size ≤ nb
  tat : TAt (· = nb) wx (.nd a c.p none c.ks ga)
  new : w.heap.size ≤ a ∧ w.heap.size ≤ ga
  way : KidsAt (· = nb) wx (some ⟨g, 0, none⟩) init
  gne : g ≠ nb ∧ g < wx.heap.size

theorem delmid_store {w w3 w4 : World} {k : ByteArray} {c : Tr} {init : List Tr} {g nb a ga : Nat} (h03 : Below w.heap.size w w3) (hk3 : w3.heap[w.heap.size]? = some (.cells #[.string k] 9)) (hway : KidsAt nR w3 (some ⟨g, 0, none⟩) init) (hg3 : g < w3.heap.size)
    (h34 : Below w3.heap.size w3 w4) (hn : w4.heap[nb]? = some (.cells #[.pointer none] 70)) (hnb : w3.heap.size ≤ nb) (hT : TAt R w4 (.nd a c.p none c.ks ga)) (hR : R nb) (hnew : w3.heap.size ≤ a ∧ w3.heap.size ≤ ga) :
    DelMid w k c init w.heap.size g nb a ga (w4.setCell ⟨nb, 0, none⟩ (.pointer (some ⟨a, 0, none⟩))) := by
  have hz3 := h03.size
  have hz4 := h34.size
  have hkl := lt_of_heap hk3
  have hbb : ∀ b, b < w3.heap.size → (w4.setCell ⟨nb, 0, none⟩ (.pointer (some ⟨a, 0, none⟩))).heap[b]? = w3.heap[b]? := fun b hb => by
    rw [heap_setCell_other _ _ _ _ (by show b ≠ nb; omega)]; exact h34.block b hb
  refine ⟨(h03.trans (h34.mono hz3)).setCell (by show w.heap.size ≤ nb; omega) _, (hbb _ hkl).trans hk3, ?_, by omega, ?_, ⟨by omega, by omega⟩, kids_later hway hbb hnb, by omega, by simp; omega⟩
  · rw [setCell_blk hn]; simp
  · exact ((hT.poke (i := 0) hR hn (by decide) (by decide) (by decide) (.pointer (some ⟨a, 0, none⟩))).less (fun b hb => by have hb' : b = nb := hb; subst hb'; exact hR))

theorem delmid_alloc {w w3 w4 : World} {k : ByteArray} {c : Tr} {init : List Tr} {g a ga : Nat} (h03 : Below w.heap.size w w3) (hk3 : w3.heap[w.heap.size]? = some (.cells #[.string k] 9)) (hway : KidsAt nR w3 (some ⟨g, 0, none⟩) init) (hg3 : g < w3.heap.size)
    (h34 : Below w3.heap.size w3 w4) (hT : TAt R w4 (.nd a c.p none c.ks ga)) (hnew : w3.heap.size ≤ a ∧ w3.heap.size ≤ ga) :
    DelMid w k c init w.heap.size g w4.heap.size a ga (w4.alloc (.cells #[.pointer (some ⟨a, 0, none⟩)] 70)) := by
  have hz3 := h03.size
  have hz4 := h34.size
  have hkl := lt_of_heap hk3
  have h4x : Below w4.heap.size w4 (w4.alloc (.cells #[.pointer (some ⟨a, 0, none⟩)] 70)) := (Below.refl _ _).alloc (Nat.le_refl _) _
  have hbb : ∀ b, b < w3.heap.size → (w4.alloc (.cells #[.pointer (some ⟨a, 0, none⟩)] 70)).heap[b]? = w3.heap[b]? := fun b hb => by
    rw [h4x.block b (by omega)]; exact h34.block b hb
  have h04 : Below w.heap.size w w4 := h03.trans (h34.mono hz3)
  exact ⟨h04.trans (h4x.mono h04.size), (hbb _ hkl).trans hk3, heap_alloc_new _ _, by omega, (hT.avoid (fun b hb => by have hb' : b = w4.heap.size := hb; omega)).keep h4x, ⟨by omega, by omega⟩, kids_later (nb := w4.heap.size) hway hbb hz4, by omega, by simp [World.size_alloc]; omega⟩

/-- Between two rounds of Delete's loop. -/
structure DelI (w : World) (k : ByteArray) (all : List Tr) (L kb nb S : Nat) (ix : List Nat) (W : World) (T : Tr) : Prop where
  size : S ≤ W.heap.size
  below : Below w.heap.size w W
  kbox : W.heap[kb]? = some (.cells #[.string k] 9)
  nbox : W.heap[nb]? = some (.cells #[.pointer (some ⟨T.a, 0, none⟩)] 70)
  tat : TAt (· = nb) W T
  few : T.ks.length ≤ 260
  rel : ∀ m, m ≤ L → ix = downTo L m → ∀ u, all[L - m]? = some u → DelR w.heap.size k u T
end Go.Proofs.Ytbbekihmllllhaa
