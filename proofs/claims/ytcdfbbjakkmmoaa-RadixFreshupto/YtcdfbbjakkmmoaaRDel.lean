import Derived.Test.YtcdfbbjakkmmoaaRIns
import Derived.Test.YtcdfbbjakkmmoaaRInsM
/- Layer 3 (radix): needed. -/
namespace Go.Proofs.Ytcdfbbjakkmmoaa
open Go.RowKit
set_option linter.unusedVariables false
variable {R : Rg}

/-- What takes a node's place in a tree. -/
def neededOf (t : Tr) : List Tr := if t.v.isSome || decide (1 < t.ks.length) then [t] else t.ks
theorem neededOf_few (t : Tr) : (neededOf t).length ≤ 1 := by
  unfold neededOf
  split
  · simp
  · rename_i h
    simp at h
    omega

set_option maxRecDepth 100000 in
theorem needed_calls (t : Tr) (w : World) (h : TAt R w t) (hf : t.ks.length ≤ 1000) (hR : ∀ b, R b → b < w.heap.size) :
    Calls Try.prog 33 #[.pointer (some ⟨t.a, 0, none⟩)] w fun e w' => ∃ x : SlV, e = .returned (.slice x.ao x.ks.length x.cap) ∧ x.ks = neededOf t ∧ x.At R w' ∧ Below w.heap.size w w' := by
  obtain ⟨-, -, -, c1, -, -, -, -, -⟩ := h.cells
  obtain ⟨y, hy, hyA, c2⟩ := h.slv
  have hyl : y.ks.length ≤ 1000 := by rw [hy]; exact hf
  have HY : Hid (y.ks = t.ks ∧ y.At R w) := ⟨hy, hyA⟩
  have hone : w.heap.size < (w.alloc (.cells #[.pointer (some ⟨t.a, 0, none⟩)] 35)).heap.size := by simp [World.size_alloc]
  have HONE : Hid (neededOf t = [t] → ∃ x : SlV, Ending.returned (.slice (some ⟨w.heap.size, 0, none⟩) 1 1) = .returned (.slice x.ao x.ks.length x.cap) ∧ x.ks = neededOf t ∧ x.At R (w.alloc (.cells #[.pointer (some ⟨t.a, 0, none⟩)] 35)) ∧ Below w.heap.size w (w.alloc (.cells #[.pointer (some ⟨t.a, 0, none⟩)] 35))) := fun hn =>
    ⟨⟨some ⟨w.heap.size, 0, none⟩, 1, [t]⟩, rfl, hn.symm, one_kid (fun e => by have := hR _ e; omega) (heap_alloc_new _ _), (Below.refl _ _).alloc (Nat.le_refl _) _⟩
  clear hone
  cases hv : t.v with
  | some v =>
    have HN : Hid (neededOf t = [t]) := by show _ = _; unfold neededOf; rw [hv]; rfl
    rw [hv] at c1
    simp only [vptr] at c1
    clear h hy hyA hv
    go_enter Try.func33, Try.ntmps33
    go_wp2
    go_ret
    exact HONE.out HN.out
  | none =>
    rw [hv] at c1
    simp only [vptr] at c1
    by_cases hl : 1 < y.ks.length
    · have HN : Hid (neededOf t = [t]) := by show _ = _; unfold neededOf; rw [hv]; rw [hy] at hl; simp [hl]
      have hd : decide ((y.ks.length : Int) > 1) = true := by simpa using (show (1 : Int) < y.ks.length by omega)
      have hd1 : (1 : Int) < (y.ks.length : Int) := by omega
      clear h hy hyA hv
      go_enter Try.func33, Try.ntmps33
      go_wp2
      go_ret
      exact HONE.out HN.out
    · have HN : Hid (neededOf t = t.ks) := by show _ = _; unfold neededOf; rw [hv]; rw [hy] at hl; simp [hl]
      have hd1 : ¬ (1 : Int) < (y.ks.length : Int) := by omega
      have hd : decide ((y.ks.length : Int) > 1) = false := by simp; omega
      clear h hy hyA hv
      go_enter Try.func33, Try.ntmps33
      go_wp2
      go_ret
      exact ⟨y, rfl, by rw [HN.out]; exact HY.out.1, HY.out.2, Below.refl _ _⟩
end Go.Proofs.Ytcdfbbjakkmmoaa

/- Layer 3 (radix): Delete. -/
namespace Go.Proofs.Ytcdfbbjakkmmoaa
open Go.RowKit Go.Shelf
set_option linter.unusedVariables false
variable {R : Rg} {O : Nat → Prop}
attribute [local go_sem] Oper.semAt_some

/-- What a tree becomes when k's value goes. -/
inductive DelR (N : Nat) (k : ByteArray) : Tr → Tr → Prop
  | here {t a g} (hp : t.p.size = k.size) (ha : N ≤ a) (hg : N ≤ g) : DelR N k t (.nd a t.p none t.ks g)
  | down {t c c' a g} (hn : nx t k.data.toList = some c) (hp : t.p.size < k.size) (h : DelR N k c c') (ha : N ≤ a) (hg : N ≤ g) :
      DelR N k t (.nd a t.p t.v (t.ks.take (posn t.ks t.p.size k[t.p.size]) ++ neededOf c' ++ t.ks.drop (posn t.ks t.p.size k[t.p.size] + 1)) g)

theorem del_down {N : Nat} {k : ByteArray} {t c c' : Tr} {a g : Nat} (h : WF t) (hp : t.p.size < k.size) (hn : nx t k.data.toList = some c) (hi : DelR N k c c') (ha : N ≤ a) (hg : N ≤ g) :
    DelR N k t (.nd a t.p t.v (t.ks.take (posn t.ks t.p.size k[t.p.size]) ++ neededOf c' ++ t.ks.drop (behindOf t k hp)) g) := by
  have hbh : behindOf t k hp = posn t.ks t.p.size k[t.p.size] + 1 := by unfold behindOf; rw [nx_there h hp hn]; rfl
  rw [hbh]
  exact .down hn hp hi ha hg

theorem newNode_some (p : ByteArray) (po : Option Addr) (ao : Option Addr) (n cap : Nat) (w : World) :
    Calls Try.prog 30 #[.string p, .pointer po, .slice ao n cap] w fun e w' => ∃ a g c, e = .returned (.pointer (some ⟨a, 0, none⟩)) ∧ Below w.heap.size w w' ∧ w'.heap[a]? = some (.cells #[.string p, .pointer po, .slice ao n cap, .pointer (some ⟨g, 0, none⟩)] 76) ∧ (WAt w' g c false ∧ g = c + 1) ∧ w.heap.size ≤ a ∧ w.heap.size ≤ g :=
  (newNode_calls p po ao n cap w).mono fun e w' ⟨h1, h2, h3, h4, h5⟩ => ⟨_, _, _, h1, h2, h4, ⟨h5, rfl⟩, by omega, by omega⟩

/-- A node anew, without its value. -/
theorem renew {w w' : World} {c : Tr} {y : SlV} {a g cc : Nat} (h : TAt R w c) (hb : Below w.heap.size w w') (hy : y.ks = c.ks) (hyA : y.At R w) (hn : w'.heap[a]? = some (.cells #[.string c.p, .pointer none, .slice y.ao y.ks.length y.cap, .pointer (some ⟨g, 0, none⟩)] 76)) (hw : WAt w' g cc false ∧ g = cc + 1) : TAt R w' (.nd a c.p none c.ks g) := by
  obtain ⟨hw, rfl⟩ := hw
  rw [← hy]
  exact TAt.laid (v := none) hn (hyA.below hb) (fun y hy => by cases hy) hw (fun t ht => by rw [hy] at ht; exact (h.sub' t ht).keep hb) h.psz'

structure DelMid (O : Nat → Prop) (w : World) (k : ByteArray) (c : Tr) (init : List Tr) (kb g nb a ga : Nat) (wx : World) : Prop where
  below : Below w.heap.size w wx
  kbox : wx.heap[kb]? = some (.cells #[.string k] 9)
  nbox : wx.heap[nb]? = some (.cells #[.pointer (some ⟨a, 0, none⟩)] 35)
  nbl : w.heap.size ≤ nb
  tat : TAt ⟨(· = nb), O⟩ wx (.nd a c.p none c.ks ga)
  new : w.heap.size ≤ a ∧ w.heap.size ≤ ga
  way : KidsAt ⟨(· = nb), O⟩ wx (some ⟨g, 0, none⟩) init
  gne : g ≠ nb ∧ g < wx.heap.size

theorem delmid_store {w w3 w4 : World} {k : ByteArray} {c : Tr} {init : List Tr} {g nb a ga : Nat} (h03 : Below w.heap.size w w3) (hk3 : w3.heap[w.heap.size]? = some (.cells #[.string k] 9)) (hway : KidsAt (nRo R.old) w3 (some ⟨g, 0, none⟩) init) (hg3 : g < w3.heap.size)
    (h34 : Below w3.heap.size w3 w4) (hn : w4.heap[nb]? = some (.cells #[.pointer none] 35)) (hnb : w3.heap.size ≤ nb) (hT : TAt R w4 (.nd a c.p none c.ks ga)) (hR : R nb) (hnew : w3.heap.size ≤ a ∧ w3.heap.size ≤ ga) :
    DelMid R.old w k c init w.heap.size g nb a ga (w4.setCell ⟨nb, 0, none⟩ (.pointer (some ⟨a, 0, none⟩))) := by
  have hz3 := h03.size
  have hz4 := h34.size
  have hkl := lt_of_heap hk3
  have hbb : ∀ b, b < w3.heap.size → (w4.setCell ⟨nb, 0, none⟩ (.pointer (some ⟨a, 0, none⟩))).heap[b]? = w3.heap[b]? := fun b hb => by
    rw [heap_setCell_other _ _ _ _ (by show b ≠ nb; omega)]; exact h34.block b hb
  refine ⟨(h03.trans (h34.mono hz3)).setCell (by show w.heap.size ≤ nb; omega) _, (hbb _ hkl).trans hk3, ?_, by omega, ?_, ⟨by omega, by omega⟩, kids_later hway hbb hnb, by omega, by simp; omega⟩
  · rw [setCell_blk hn]; simp
  · exact ((hT.poke (i := 0) hR hn (by decide) (by decide) (by decide) (.pointer (some ⟨a, 0, none⟩))).less (fun b hb => by have hb' : b = nb := hb; subst hb'; exact hR))

theorem delmid_alloc {w w3 w4 : World} {k : ByteArray} {c : Tr} {init : List Tr} {g a ga : Nat} (h03 : Below w.heap.size w w3) (hk3 : w3.heap[w.heap.size]? = some (.cells #[.string k] 9)) (hway : KidsAt (nRo R.old) w3 (some ⟨g, 0, none⟩) init) (hg3 : g < w3.heap.size)
    (h34 : Below w3.heap.size w3 w4) (hT : TAt R w4 (.nd a c.p none c.ks ga)) (hnew : w3.heap.size ≤ a ∧ w3.heap.size ≤ ga) :
    DelMid R.old w k c init w.heap.size g w4.heap.size a ga (w4.alloc (.cells #[.pointer (some ⟨a, 0, none⟩)] 35)) := by
  have hz3 := h03.size
  have hz4 := h34.size
  have hkl := lt_of_heap hk3
  have h4x : Below w4.heap.size w4 (w4.alloc (.cells #[.pointer (some ⟨a, 0, none⟩)] 35)) := (Below.refl _ _).alloc (Nat.le_refl _) _
  have hbb : ∀ b, b < w3.heap.size → (w4.alloc (.cells #[.pointer (some ⟨a, 0, none⟩)] 35)).heap[b]? = w3.heap[b]? := fun b hb => by
    rw [h4x.block b (by omega)]; exact h34.block b hb
  have h04 : Below w.heap.size w w4 := h03.trans (h34.mono hz3)
  exact ⟨h04.trans (h4x.mono h04.size), (hbb _ hkl).trans hk3, heap_alloc_new _ _, by omega, (hT.avoid (fun b hb => by have hb' : b = w4.heap.size := hb; omega)).keep h4x, ⟨by omega, by omega⟩, kids_later (nb := w4.heap.size) hway hbb hz4, by omega, by simp [World.size_alloc]; omega⟩

/-- Between two rounds of Delete's loop. -/
structure DelI (O : Nat → Prop) (w : World) (k : ByteArray) (all : List Tr) (L kb nb S : Nat) (ix : List Nat) (W : World) (T : Tr) : Prop where
  size : S ≤ W.heap.size
  below : Below w.heap.size w W
  kbox : W.heap[kb]? = some (.cells #[.string k] 9)
  nbox : W.heap[nb]? = some (.cells #[.pointer (some ⟨T.a, 0, none⟩)] 35)
  tat : TAt ⟨(· = nb), O⟩ W T
  few : T.ks.length ≤ 260
  rel : ∀ m, m ≤ L → ix = downTo L m → ∀ u, all[L - m]? = some u → DelR w.heap.size k u T
end Go.Proofs.Ytcdfbbjakkmmoaa
