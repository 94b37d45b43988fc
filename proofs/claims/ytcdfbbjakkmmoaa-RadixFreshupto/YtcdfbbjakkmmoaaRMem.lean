/- Layer 3 (radix): trees in memory; newNode, newValue, get. -/
import Derived.Test.YtcdfbbjakkmmoaaRTree
import Derived.Deep.QuietTactic
import Derived.BigQuiet
namespace Go.Proofs.Ytcdfbbjakkmmoaa
open Go.RowKit
set_option linter.unusedVariables false
/-- What is held of a tree besides its shape: blocks that no array of kids lies in; watches that may be fired. -/
structure Rg where
  box : Nat → Prop
  old : Nat → Prop
instance : CoeFun Rg (fun _ => Nat → Prop) := ⟨Rg.box⟩
variable {R : Rg} {O : Nat → Prop}

def vptr : Option Vl → Option Addr
  | none => none
  | some v => some ⟨v.a, 0, none⟩

/-- A watch in memory; its channel was made right ahead of it: so no two watches have one channel. -/
def Wc (O : Nat → Prop) (w : World) (g : Nat) : Prop := ∃ f, WAt w g (g - 1) f ∧ (f = true → O g)
theorem Wc.below {w w' : World} {g : Nat} (h : Wc O w g) (hb : Below w.heap.size w w') : Wc O w' g := by
  obtain ⟨f, h, ho⟩ := h
  exact ⟨f, h.below hb, ho⟩
theorem WAt.wc {w : World} {c : Nat} (h : WAt w (c + 1) c false) : Wc O w (c + 1) := ⟨false, h, fun e => by cases e⟩
/-- A store into cells that are no watch's leaves a watch. -/
theorem WAt.aside {w : World} {g c nb i : Nat} {f : Bool} {cs : Array Value} {ty : TypeId} (h : WAt w g c f) (hb : w.heap[nb]? = some (.cells cs ty)) (ht : ty ≠ 117) (v : Value) : WAt (w.setCell ⟨nb, i, none⟩ v) g c f := by
  refine ⟨(heap_setCell_other _ _ _ _ (fun e => ?_)).trans h.blk, (heap_setCell_other _ _ _ _ (fun e => ?_)).trans h.chn⟩
  · have e' : g = nb := e
    subst e'
    have := hb.symm.trans h.blk
    simp at this
    exact ht this.2
  · have e' : c = nb := e
    subst e'
    have := hb.symm.trans h.chn
    cases this

/-- The value v lies in memory. -/
structure VAt (O : Nat → Prop) (w : World) (v : Vl) : Prop where
  blk : w.heap[v.a]? = some (.cells #[v.x, .pointer (some ⟨v.g, 0, none⟩)] 97)
  wat : Wc O w v.g
  num : ∃ n : Int, v.x = .int .i64 n

/-- Pointers to the nodes lie one behind the other, in no block of R. -/
def KidsAt (R : Rg) (w : World) (ao : Option Addr) (ks : List Tr) : Prop :=
  ∀ i (h : i < ks.length), ∃ b off, ao = some ⟨b, off, none⟩ ∧ w.cell? ⟨b, off + i, none⟩ = some (.pointer (some ⟨ks[i].a, 0, none⟩)) ∧ ¬ R b

/-- The tree lies in memory. -/
inductive TAt (R : Rg) (w : World) : Tr → Prop
  | mk {a p v ks g ao cap} (blk : w.heap[a]? = some (.cells #[.string p, .pointer (vptr v), .slice ao ks.length cap, .pointer (some ⟨g, 0, none⟩)] 76))
      (kids : KidsAt R w ao ks) (val : ∀ x, v = some x → VAt R.old w x) (wat : Wc R.old w g) (sub : ∀ t ∈ ks, TAt R w t) (room : ks.length ≤ cap) (nil : ao = none → cap = 0) (psz : p.size ≤ 140737488351296) : TAt R w (.nd a p v ks g)

theorem VAt.below {w w' : World} {v : Vl} (h : VAt O w v) (hb : Below w.heap.size w w') : VAt O w' v := by
  exact ⟨(hb.block _ (lt_of_heap h.blk)).trans h.blk, h.wat.below hb, h.num⟩
theorem KidsAt.below {w w' : World} {ao : Option Addr} {ks : List Tr} (h : KidsAt R w ao ks) (hb : Below w.heap.size w w') : KidsAt R w' ao ks := by
  intro i hi
  obtain ⟨b, off, ha, h0, hr⟩ := h i hi
  have hl : b < w.heap.size := World.block_lt_of_cell? w _ h0
  exact ⟨b, off, ha, by rw [hb.cell (by exact hl)]; exact h0, hr⟩
theorem TAt.keep {w w' : World} {t : Tr} (h : TAt R w t) (hb : Below w.heap.size w w') : TAt R w' t := by
  induction h with
  | mk blk kids val wat sub room nil psz ih =>
    exact .mk ((hb.block _ (lt_of_heap blk)).trans blk) (kids.below hb) (fun x hx => (val x hx).below hb) (wat.below hb) ih room nil psz
/-- Blocks that are not there yet can be kept free, too. -/
theorem TAt.avoid {R' : Nat → Prop} {w : World} {t : Tr} (h : TAt R w t) (hR : ∀ b, R' b → w.heap.size ≤ b) : TAt ⟨R', R.old⟩ w t := by
  induction h with
  | mk blk kids val wat sub room nil psz ih =>
    refine .mk blk (fun i hi => ?_) val wat ih room nil psz
    obtain ⟨b, off, ha, h0, _⟩ := kids i hi
    have hl : b < w.heap.size := World.block_lt_of_cell? w _ h0
    exact ⟨b, off, ha, h0, fun hc => by have := hR b hc; omega⟩
/-- A store into a block of R that is no node's, no value's and no watch's leaves the tree as it is. -/
theorem TAt.poke {w : World} {t : Tr} {nb i : Nat} {cs : Array Value} {ty : TypeId} (h : TAt R w t) (hR : R nb) (hb : w.heap[nb]? = some (.cells cs ty)) (h1 : ty ≠ 76) (h2 : ty ≠ 97) (h3 : ty ≠ 117) (v : Value) : TAt R (w.setCell ⟨nb, i, none⟩ v) t := by
  have hne : ∀ {a : Nat} {ds : Array Value} {ty' : TypeId}, w.heap[a]? = some (.cells ds ty') → ty ≠ ty' → (w.setCell ⟨nb, i, none⟩ v).heap[a]? = w.heap[a]? := fun ha ht => heap_setCell_other _ _ _ _ (fun e => by
    have e' : _ = nb := e
    subst e'
    have := hb.symm.trans ha
    simp at this
    exact ht this.2)
  have hwc : ∀ {g : Nat}, Wc R.old w g → Wc R.old (w.setCell ⟨nb, i, none⟩ v) g := fun hg => by
    obtain ⟨f, hg, ho⟩ := hg
    exact ⟨f, hg.aside hb h3 v, ho⟩
  induction h with
  | mk blk kids val wat sub room nil psz ih =>
    refine .mk ((hne blk h1).trans blk) (fun j hj => ?_) (fun x hx => ?_) (hwc wat) ih room nil psz
    · obtain ⟨b, off, ha, h0, hr⟩ := kids j hj
      have hnb : b ≠ nb := fun e => hr (e ▸ hR)
      exact ⟨b, off, ha, by rw [World.cell?_setCell_other _ _ _ _ (fun e => hnb (by simpa using (congrArg Addr.block e).symm))]; exact h0, hr⟩
    · have hx' := val x hx
      exact ⟨(hne hx'.blk h2).trans hx'.blk, hwc hx'.wat, hx'.num⟩
theorem TAt.sub' {w : World} {t : Tr} (h : TAt R w t) : ∀ c ∈ t.ks, TAt R w c := by cases h; assumption
theorem TAt.lt {w : World} {t : Tr} (h : TAt R w t) : t.a < w.heap.size := by cases h with | mk blk _ _ _ _ _ _ _ => exact lt_of_heap blk
theorem TAt.psz' {w : World} {t : Tr} (h : TAt R w t) : t.p.size ≤ 140737488351296 := by cases h; assumption
theorem TAt.val' {w : World} {t : Tr} (h : TAt R w t) : ∀ x, t.v = some x → VAt R.old w x := by cases h; assumption

/-- The cells of a node. -/
theorem TAt.cells {w : World} {t : Tr} (h : TAt R w t) : ∃ ao cap, w.cell? ⟨t.a, 0, none⟩ = some (.string t.p) ∧ w.cell? ⟨t.a, 1, none⟩ = some (.pointer (vptr t.v)) ∧
    w.cell? ⟨t.a, 2, none⟩ = some (.slice ao t.ks.length cap) ∧ w.cell? ⟨t.a, 3, none⟩ = some (.pointer (some ⟨t.g, 0, none⟩)) ∧ KidsAt R w ao t.ks ∧ t.ks.length ≤ cap ∧ (ao = none → cap = 0) := by
  cases h with
  | @mk a p v ks g ao cap blk kids val wat sub room nil psz =>
    exact ⟨ao, cap, by simp only [Tr.a]; rw [cell_of_blk blk]; rfl, by simp only [Tr.a]; rw [cell_of_blk blk]; rfl, by simp only [Tr.a]; rw [cell_of_blk blk]; rfl, by simp only [Tr.a]; rw [cell_of_blk blk]; rfl, kids, room, nil⟩

theorem bytes_le : ∀ (l : List UInt8), l.Pairwise (· < ·) → ∀ i (h : i < l.length), i ≤ l[i].toNat := by
  intro l hl i
  induction i with
  | zero => intro h; omega
  | succ i ih =>
    intro h
    have h1 := ih (by omega)
    have h2 := List.pairwise_iff_getElem.1 hl i (i + 1) (by omega) h (by omega)
    have := UInt8.lt_iff_toNat_lt.1 h2
    omega
theorem WF.few {t : Tr} (h : WF t) : t.ks.length ≤ 256 := by
  rcases Nat.lt_or_ge 256 t.ks.length with hc | hc
  · have := bytes_le _ h.ord' 256 (by simpa using hc)
    have h2 := UInt8.toNat_lt ((t.ks.map (Tr.byte t.p.size))[256]'(by simpa using hc))
    omega
  · exact hc

/-! ### newNode, newValue, get -/

theorem newNode_calls (p : ByteArray) (po : Option Addr) (ao : Option Addr) (n cap : Nat) (w : World) :
    Calls Try.prog 30 #[.string p, .pointer po, .slice ao n cap] w fun e w' => e = .returned (.pointer (some ⟨w.heap.size + 2, 0, none⟩)) ∧ Below w.heap.size w w' ∧ w'.heap.size = w.heap.size + 3 ∧
      w'.heap[w.heap.size + 2]? = some (.cells #[.string p, .pointer po, .slice ao n cap, .pointer (some ⟨w.heap.size + 1, 0, none⟩)] 76) ∧ WAt w' (w.heap.size + 1) w.heap.size false := by
  go_enter Try.func30, Try.ntmps30
  go_wp2_with fail
  refine (new_calls w).mono ?_
  rintro e w1 ⟨rfl, hb1, hs1, hw1⟩
  go_wp2
  go_ret
  have hb2 : Below w1.heap.size w1 (w1.alloc (.cells #[.string p, .pointer po, .slice ao n cap, .pointer (some ⟨w.heap.size + 1, 0, none⟩)] 76)) := (Below.refl _ w1).alloc (Nat.le_refl _) _
  refine ⟨rfl, hb1.trans (hb2.mono hb1.size), by simp [World.size_alloc, hs1], ?_, hw1.below hb2⟩
  have := heap_alloc_new w1 (.cells #[.string p, .pointer po, .slice ao n cap, .pointer (some ⟨w.heap.size + 1, 0, none⟩)] 76)
  rw [hs1] at this
  exact this

theorem newValue_calls (n : Int) (w : World) :
    Calls Try.prog 46 #[.int .i64 n] w fun e w' => e = .returned (.pointer (some ⟨w.heap.size + 2, 0, none⟩)) ∧ Below w.heap.size w w' ∧ w'.heap.size = w.heap.size + 3 ∧ VAt O w' ⟨w.heap.size + 2, .int .i64 n, w.heap.size + 1⟩ := by
  go_enter Try.func46, Try.ntmps46
  go_wp2_with fail
  refine (new_calls w).mono ?_
  rintro e w1 ⟨rfl, hb1, hs1, hw1⟩
  go_wp2
  go_ret
  have hb2 : Below w1.heap.size w1 (w1.alloc (.cells #[.int .i64 n, .pointer (some ⟨w.heap.size + 1, 0, none⟩)] 97)) := (Below.refl _ w1).alloc (Nat.le_refl _) _
  refine ⟨rfl, hb1.trans (hb2.mono hb1.size), by simp [World.size_alloc, hs1], ?_, (hw1.below hb2).wc, ⟨n, rfl⟩⟩
  have := heap_alloc_new w1 (.cells #[.int .i64 n, .pointer (some ⟨w.heap.size + 1, 0, none⟩)] 97)
  rw [hs1] at this
  exact this

/-- What a value pointer holds. -/
def held : Option Vl → Value
  | none => .int .i64 0
  | some v => v.x

theorem get_calls (v : Option Vl) (w : World) (hv : ∀ x, v = some x → VAt O w x) :
    Calls Try.prog 29 #[.pointer (vptr v)] w fun e w' => e = .returned (.tuple #[held v, .bool v.isSome]) ∧ w' = w := by
  cases v with
  | none =>
    simp only [vptr, held]
    go_enter Try.func29, Try.ntmps29
    go_wp2
    go_ret2
    exact ⟨rfl, rfl⟩
  | some x =>
    have h := hv x rfl
    obtain ⟨n, hn⟩ := h.num
    have c0 : w.cell? ⟨x.a, 0, none⟩ = some (.int .i64 n) := by rw [cell_of_blk h.blk, hn]; rfl
    simp only [vptr, held, hn]
    clear h hv hn
    go_enter Try.func29, Try.ntmps29
    go_wp2
    go_ret2
    exact ⟨rfl, rfl⟩
end Go.Proofs.Ytcdfbbjakkmmoaa
