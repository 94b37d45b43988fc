import Derived.Test.YtcdfbbjakkmmoaaXInsD
import Derived.Test.YtcdfbbjakkmmoaaXHeld
import Derived.BigRegion
import Derived.Test.YtcdfbbjakkmmoaaXFind
import Derived.Test.YtcdfbbjakkmmoaaXLaw
/- Layer 4 (walk): the document's New; built. -/
namespace Go.Proofs.Ytcdfbbjakkmmoaa
open Go.RowKit
set_option linter.unusedVariables false

theorem new_at {X : World} {k : Nat} (h : X.heap.size = k) (o : Obj) : (X.alloc o).heap[k]? = some o := by subst h; exact heap_alloc_new X o
theorem Sv.At.nil' (w : World) : Sv.At w ⟨none, 0, []⟩ := ⟨fun i hi => by simp at hi, Nat.le_refl _, fun _ => rfl⟩
theorem Sv.Ty.nil' (w : World) (e : TypeId) : Sv.Ty w ⟨none, 0, []⟩ e := fun b off n h => by cases h
theorem sv_one {w : World} {g : Nat} {u : Value} {e : TypeId} (h : w.heap[g]? = some (.cells #[u] e)) : Sv.At w ⟨some ⟨g, 0, none⟩, 1, [u]⟩ ∧ Sv.Ty w ⟨some ⟨g, 0, none⟩, 1, [u]⟩ e := by
  refine ⟨⟨fun i hi => ?_, by simp, fun h => by cases h⟩, fun b off n hb => by simp at hb; obtain ⟨rfl, -⟩ := hb; exact ⟨_, h⟩⟩
  simp at hi
  subst hi
  exact ⟨g, 0, rfl, by rw [cell_of_blk h]; rfl⟩

set_option maxRecDepth 100000 in
theorem refNew_calls (next : Int) (w : World) : Calls Try.prog 18 #[.int .i64 next] w fun e w' => ∃ (d : Dv) (z : Int), e = .returned (.tuple #[.agg (d.cells 0 1), .int .i64 z]) ∧ DocAt w' d [] (pathsN (keysOf []) 0) ∧ Below w.heap.size w w' := by
  obtain ⟨w3, HW3⟩ : ∃ w3, Hid (w3 = ((w.alloc (.cells #[.slice none 0 0, .slice none 0 0, .slice none 0 0, .slice (some ⟨w.heap.size + 1, 0, none⟩) 1 1, .slice (some ⟨w.heap.size + 1 + 1, 0, none⟩) 1 1] 28)).alloc (.cells #[.string ⟨#[]⟩] 9)).alloc (.cells #[.int .i64 next] 3)) := ⟨_, rfl⟩
  have hb3 : Below w.heap.size w w3 := by rw [HW3.out]; exact (((Below.refl _ w).alloc (Nat.le_refl _) _).alloc (by simp [World.size_alloc]) _).alloc (by simp [World.size_alloc]; omega) _
  have s1 : (w.alloc (.cells #[.slice none 0 0, .slice none 0 0, .slice none 0 0, .slice (some ⟨w.heap.size + 1, 0, none⟩) 1 1, .slice (some ⟨w.heap.size + 1 + 1, 0, none⟩) 1 1] 28)).heap.size = w.heap.size + 1 := by simp [World.size_alloc]
  have s2 : ((w.alloc (.cells #[.slice none 0 0, .slice none 0 0, .slice none 0 0, .slice (some ⟨w.heap.size + 1, 0, none⟩) 1 1, .slice (some ⟨w.heap.size + 1 + 1, 0, none⟩) 1 1] 28)).alloc (.cells #[.string ⟨#[]⟩] 9)).heap.size = w.heap.size + 1 + 1 := by simp [World.size_alloc]
  have q0 : w3.heap[w.heap.size]? = some (.cells #[.slice none 0 0, .slice none 0 0, .slice none 0 0, .slice (some ⟨w.heap.size + 1, 0, none⟩) 1 1, .slice (some ⟨w.heap.size + 1 + 1, 0, none⟩) 1 1] 28) := by
    rw [HW3.out, Below.heap_alloc _ _ _ (by omega), Below.heap_alloc _ _ _ (by omega)]; exact heap_alloc_new _ _
  have q1 : w3.heap[w.heap.size + 1]? = some (.cells #[.string ⟨#[]⟩] 9) := by
    rw [HW3.out, Below.heap_alloc _ _ _ (by omega)]; exact new_at s1 _
  have q2 : w3.heap[w.heap.size + 1 + 1]? = some (.cells #[.int .i64 next] 3) := by
    rw [HW3.out]; exact new_at s2 _
  have g0 : w3.cell? ⟨w.heap.size, 0, none⟩ = some (.slice none 0 0) := by rw [cell_of_blk q0]; rfl
  have g1 : w3.cell? ⟨w.heap.size, 1, none⟩ = some (.slice none 0 0) := by rw [cell_of_blk q0]; rfl
  have g2 : w3.cell? ⟨w.heap.size, 2, none⟩ = some (.slice none 0 0) := by rw [cell_of_blk q0]; rfl
  have g3 : w3.cell? ⟨w.heap.size, 3, none⟩ = some (.slice (some ⟨w.heap.size + 1, 0, none⟩) 1 1) := by rw [cell_of_blk q0]; rfl
  have g4 : w3.cell? ⟨w.heap.size, 4, none⟩ = some (.slice (some ⟨w.heap.size + 1 + 1, 0, none⟩) 1 1) := by rw [cell_of_blk q0]; rfl
  have HD : Hid (DocAt w3 ⟨⟨none, 0, []⟩, ⟨none, 0, []⟩, ⟨none, 0, []⟩, ⟨some ⟨w.heap.size + 1, 0, none⟩, 1, [.string ⟨#[]⟩]⟩, ⟨some ⟨w.heap.size + 1 + 1, 0, none⟩, 1, [.int .i64 next]⟩⟩ [] (pathsN (keysOf []) 0)) := by
    obtain ⟨a1, a2⟩ := sv_one q1
    obtain ⟨b1, b2⟩ := sv_one q2
    exact ⟨Sv.At.nil' _, Sv.At.nil' _, Sv.At.nil' _, a1, b1, rfl, rfl, ⟨[], rfl, rfl⟩, rfl, ⟨[next], rfl, rfl⟩, fun q hq => by simp [keysOf] at hq, pathsN_size (fun q hq => by simp [keysOf] at hq) 0, List.Pairwise.nil, pathsN_sorted _ _, pathsN_len _ _, Sv.Ty.nil' _ _, Sv.Ty.nil' _ _, Sv.Ty.nil' _ _, a2, b2⟩
  have HB : Hid (Below w.heap.size w w3) := hb3
  clear q0 q1 q2 s1 s2 hb3
  go_enter Try.func18, Try.ntmps18
  go_wp2_with fail
  rw [← HW3.out]
  refine bodyPost_ret (v := .tuple #[.agg #[.slice none 0 0, .slice none 0 0, .slice none 0 0, .slice (some ⟨w.heap.size + 1, 0, none⟩) 1 1, .slice (some ⟨w.heap.size + 1 + 1, 0, none⟩) 1 1], .int .i64 (wrap64 (next + 1))]) (by simp [results, Try.results18, go_sem, g0, g1, g2, g3, g4]) rfl ?_
  exact ⟨_, _, rfl, HD.out, HB.out⟩

/-- Entries lie one behind the other at the address. -/
def EntsAt (w : World) (ao : Option Addr) (l : List En) : Prop :=
  ∀ i (h : i < l.length), ∃ b off, ao = some ⟨b, off, none⟩ ∧ w.cell? ⟨b, off + i * 2, none⟩ = some (.string l[i].1) ∧ w.cell? ⟨b, off + i * 2 + 1, none⟩ = some (.int .i64 l[i].2) ∧ l[i].1.size ≤ 140737488351296
theorem EntsAt.below {w w' : World} {ao : Option Addr} {l : List En} (h : EntsAt w ao l) (hb : Below w.heap.size w w') : EntsAt w' ao l := fun i hi => by
  obtain ⟨b, off, ha, h0, h1, hs⟩ := h i hi
  have hl : b < w.heap.size := World.block_lt_of_cell? w _ h0
  exact ⟨b, off, ha, by rw [hb.cell (by exact hl)]; exact h0, by rw [hb.cell (by exact hl)]; exact h1, hs⟩
/-- The document's entries, put in one after the other. -/
def docOf (l : List En) : List En := l.foldl (fun acc e => insE acc e.1 e.2) []
theorem docOf_snoc (l : List En) (e : En) : docOf (l ++ [e]) = insE (docOf l) e.1 e.2 := by simp [docOf]
theorem docOf_sorted (l : List En) : SortedE (docOf l) := by
  unfold docOf
  suffices h : ∀ (acc : List En), SortedE acc → SortedE (l.foldl (fun acc e => insE acc e.1 e.2) acc) from h [] List.Pairwise.nil
  induction l with
  | nil => exact fun acc h => h
  | cons e l ih => exact fun acc h => ih _ (insE_sorted h _ _)
theorem docOf_len (l : List En) : (docOf l).length ≤ l.length := by
  unfold docOf
  suffices h : ∀ (acc : List En), (l.foldl (fun acc e => insE acc e.1 e.2) acc).length ≤ acc.length + l.length by simpa using h []
  induction l with
  | nil => intro acc; simp
  | cons e l ih => intro acc; have h1 := ih (insE acc e.1 e.2); have h2 := insE_len acc e.1 e.2; simp only [List.foldl_cons, List.length_cons]; omega
theorem docOf_take (l : List En) (j : Nat) (h : j < l.length) : docOf (l.take (j + 1)) = insE (docOf (l.take j)) l[j].1 l[j].2 := by rw [List.take_succ_eq_append_getElem h, docOf_snoc]

/-! ### a store into a block that holds no pointer leaves every tree -/
def NoPtr (cs : Array Value) : Prop := ∀ (i : Nat) (x : Value), cs[i]? = some x → ∀ p, x ≠ .pointer p
theorem NoPtr.set {cs : Array Value} (h : NoPtr cs) (i : Nat) {ao : Option Addr} {n c : Nat} : NoPtr (cs.setIfInBounds i (.slice ao n c)) := fun j x hx p e => by
  rcases Nat.decEq i j with hij | hij
  · rw [Array.getElem?_setIfInBounds_ne hij] at hx; exact h j x hx p e
  · subst hij
    by_cases hlt : i < cs.size
    · rw [Array.getElem?_setIfInBounds_self_of_lt hlt] at hx
      simp only [Option.some.injEq] at hx
      rw [← hx] at e; cases e
    · rw [Array.getElem?_eq_none (by simp; omega)] at hx; cases hx
theorem noPtr5 (a0 a1 a2 a3 a4 : Option Addr) (n0 n1 n2 n3 n4 c0 c1 c2 c3 c4 : Nat) : NoPtr #[.slice a0 n0 c0, .slice a1 n1 c1, .slice a2 n2 c2, .slice a3 n3 c3, .slice a4 n4 c4] := fun i x hx p e => by
  subst e
  match i, hx with
  | 0, hx => simp at hx
  | 1, hx => simp at hx
  | 2, hx => simp at hx
  | 3, hx => simp at hx
  | 4, hx => simp at hx
  | i + 5, hx => simp at hx
theorem TAt.aside {R : Rg} {w : World} {t : Tr} {nb i : Nat} {cs : Array Value} {ty : TypeId} (h : TAt R w t) (hb : w.heap[nb]? = some (.cells cs ty)) (hn : NoPtr cs) (h1 : ty ≠ 76) (h2 : ty ≠ 97) (h3 : ty ≠ 117) (v : Value) : TAt R (w.setCell ⟨nb, i, none⟩ v) t := by
  have hne : ∀ {a : Nat} {ds : Array Value} {ty' : TypeId}, w.heap[a]? = some (.cells ds ty') → ty ≠ ty' → (w.setCell ⟨nb, i, none⟩ v).heap[a]? = w.heap[a]? := fun ha ht => heap_setCell_other _ _ _ _ (fun e => by
    have e' : _ = nb := e
    subst e'
    have := hb.symm.trans ha
    simp at this
    exact ht this.2)
  have hwc : ∀ {g : Nat}, Wc R.old w g → Wc R.old (w.setCell ⟨nb, i, none⟩ v) g := fun hg => by
    obtain ⟨f, hg, ho⟩ := hg
    exact ⟨f, hg.aside hb h3 v, ho⟩
  induction h with
  | mk blk kids val wat sub room nil psz ih =>
    refine .mk ((hne blk h1).trans blk) (fun j hj => ?_) (fun x hx => ?_) (hwc wat) ih room nil psz
    · obtain ⟨b, off, ha, h0, hr⟩ := kids j hj
      have hnb : b ≠ nb := fun e => by
        subst e
        rw [cell_of_blk hb] at h0
        exact hn _ _ h0 _ rfl
      exact ⟨b, off, ha, by rw [World.cell?_setCell_other _ _ _ _ (fun e => hnb (by simpa using (congrArg Addr.block e).symm))]; exact h0, hr⟩
    · have hx' := val x hx
      exact ⟨(hne hx'.blk h2).trans hx'.blk, hwc hx'.wat, hx'.num⟩
theorem Held.aside {w W : World} {tb : Nat} {T : Tr} {ne : Int} {d : Nat} {es : List En} {nb i : Nat} {cs : Array Value} (h : Held w W tb T ne d es) (hb : W.heap[nb]? = some (.cells cs 28)) (hn : NoPtr cs) (hge : w.heap.size ≤ nb) (v : Value) : Held w (W.setCell ⟨nb, i, none⟩ v) tb T ne d es := by
  have hg := h.good
  refine ⟨⟨hg.below.setCell (p := ⟨nb, i, none⟩) hge v, ⟨?_, hg.tree.tat.aside hb hn (by decide) (by decide) (by decide) v⟩, hg.wf, hg.root, hg.dep, hg.lo, hg.hi⟩, h.has, h.sorted, h.cnt⟩
  rw [heap_setCell_other _ _ _ _ (fun e => by
    have e' : tb = nb := e
    subst e'
    have := hb.symm.trans hg.tree.blk
    simp at this)]
  exact hg.tree.blk

/-- Five stores into one block that holds a tree of the document. -/
def put5 (W : World) (b : Nat) (x0 x1 x2 x3 x4 : Value) : World := ((((W.setCell ⟨b, 0, none⟩ x0).setCell ⟨b, 1, none⟩ x1).setCell ⟨b, 2, none⟩ x2).setCell ⟨b, 3, none⟩ x3).setCell ⟨b, 4, none⟩ x4
theorem put5_blk {W : World} {b : Nat} {cs : Array Value} (hb : W.heap[b]? = some (.cells cs 28)) (hs : cs.size = 5) (x0 x1 x2 x3 x4 : Value) : (put5 W b x0 x1 x2 x3 x4).heap[b]? = some (.cells #[x0, x1, x2, x3, x4] 28) := by
  obtain ⟨a0, a1, a2, a3, a4, rfl⟩ := five cs hs
  unfold put5
  rw [setCell_blk (setCell_blk (setCell_blk (setCell_blk (setCell_blk hb _) _) _) _) _]; rfl
theorem put5_other {W : World} {b : Nat} {cs : Array Value} (hb : W.heap[b]? = some (.cells cs 28)) (hs : cs.size = 5) (x0 x1 x2 x3 x4 : Value) {c : Nat} (hc : c ≠ b) : (put5 W b x0 x1 x2 x3 x4).heap[c]? = W.heap[c]? := by
  unfold put5
  rw [heap_setCell_other _ _ _ _ hc, heap_setCell_other _ _ _ _ hc, heap_setCell_other _ _ _ _ hc, heap_setCell_other _ _ _ _ hc, heap_setCell_other _ _ _ _ hc]
theorem put5_doc {W : World} {b : Nat} {cs : Array Value} (hb : W.heap[b]? = some (.cells cs 28)) (hs : cs.size = 5) (x0 x1 x2 x3 x4 : Value) {d : Dv} {es : List En} {ps : List ByteArray} (h : DocAt W d es ps) : DocAt (put5 W b x0 x1 x2 x3 x4) d es ps := by
  have b1 := setCell_blk (i := 0) hb x0
  have b2 := setCell_blk (i := 1) b1 x1
  have b3 := setCell_blk (i := 2) b2 x2
  have b4 := setCell_blk (i := 3) b3 x3
  exact ((((h.store hb x0).store b1 x1).store b2 x2).store b3 x3).store b4 x4
theorem put5_held {W : World} {b : Nat} {cs : Array Value} (hb : W.heap[b]? = some (.cells cs 28)) (hs : cs.size = 5) (hn : NoPtr cs) (a0 a1 a2 a3 a4 : Option Addr) (n0 n1 n2 n3 n4 c0 c1 c2 c3 c4 : Nat) {w : World} {tb : Nat} {T : Tr} {ne : Int} {d : Nat} {es : List En} (hge : w.heap.size ≤ b) (h : Held w W tb T ne d es) : Held w (put5 W b (.slice a0 n0 c0) (.slice a1 n1 c1) (.slice a2 n2 c2) (.slice a3 n3 c3) (.slice a4 n4 c4)) tb T ne d es := by
  have b1 := setCell_blk (i := 0) hb (.slice a0 n0 c0)
  have b2 := setCell_blk (i := 1) b1 (.slice a1 n1 c1)
  have b3 := setCell_blk (i := 2) b2 (.slice a2 n2 c2)
  have b4 := setCell_blk (i := 3) b3 (.slice a3 n3 c3)
  have m1 := hn.set 0 (ao := a0) (n := n0) (c := c0)
  have m2 := m1.set 1 (ao := a1) (n := n1) (c := c1)
  have m3 := m2.set 2 (ao := a2) (n := n2) (c := c2)
  have m4 := m3.set 3 (ao := a3) (n := n3) (c := c3)
  exact ((((h.aside hb hn hge _).aside b1 m1 hge _).aside b2 m2 hge _).aside b3 m3 hge _).aside b4 m4 hge _
/-- Within built. -/
structure BuI (w : World) (rb mb : Nat) (d : Dv) (es : List En) (ps : List ByteArray) (tb : Nat) (T : Tr) (ne : Int) (j : Nat) (W : World) : Prop where
  held : Held w W tb T ne j es
  doc : DocAt W d es ps
  mblk : W.heap[mb]? = some (.cells (d.cells es.length ps.length) 28)
  rblk : W.heap[rb]? = some (.cells #[.slice none 0 0, .slice none 0 0, .slice none 0 0, .slice none 0 0, .slice none 0 0] 28)
  apart : w.heap.size ≤ mb ∧ rb ≠ mb
theorem BuI.keep {w : World} {rb mb : Nat} {d : Dv} {es : List En} {ps : List ByteArray} {tb : Nat} {T : Tr} {ne : Int} {j : Nat} {W W' : World} (h : BuI w rb mb d es ps tb T ne j W) (hb : Below W.heap.size W W') : BuI w rb mb d es ps tb T ne j W' := by
  exact ⟨h.held.keep hb, h.doc.keep hb, (hb.block _ (lt_of_heap h.mblk)).trans h.mblk, (hb.block _ (lt_of_heap h.rblk)).trans h.rblk, h.apart⟩

end Go.Proofs.Ytcdfbbjakkmmoaa

/- Layer 3 (radix): Root, Path, Value. -/
namespace Go.Proofs.Ytcdfbbjakkmmoaa
open Go.RowKit
set_option linter.unusedVariables false
variable {R : Rg} {O : Nat → Prop}

def nodeV (t : Tr) : Value := .agg #[.pointer (some ⟨t.a, 0, none⟩)]

set_option maxRecDepth 100000 in
theorem root_calls (tb : Nat) (t : Tr) (n : Int) (w : World) (h : TreeAt w tb t n) : Calls Try.prog 12 #[.pointer (some ⟨tb, 0, none⟩)] w fun e w' => e = .returned (nodeV t) ∧ Below w.heap.size w w' := by
  have c0 : w.cell? ⟨tb, 0, none⟩ = some (.pointer (some ⟨t.a, 0, none⟩)) := by rw [cell_of_blk h.blk]; rfl
  have hb := lt_of_heap h.blk
  clear h
  go_enter Try.func12, Try.ntmps12
  go_wp2
  exact bodyPost_ret (v := nodeV t) (by simp [results, Try.results12, go_sem, nodeV]) rfl ⟨rfl, (Below.refl _ w).alloc (Nat.le_refl _) _⟩

set_option maxRecDepth 100000 in
theorem path_calls (t : Tr) (w : World) (h : TAt R w t) : Calls Try.prog 37 #[nodeV t] w fun e w' => e = .returned (.string t.p) ∧ Below w.heap.size w w' := by
  obtain ⟨ao, cap, c0, -, -, -, -, -, -⟩ := h.cells
  have ha := h.lt
  clear h
  unfold nodeV
  go_enter Try.func37, Try.ntmps37
  go_wp2
  go_ret
  exact ⟨rfl, (Below.refl _ w).alloc (Nat.le_refl _) _⟩

set_option maxRecDepth 100000 in
theorem value_calls (t : Tr) (w : World) (h : TAt R w t) : Calls Try.prog 36 #[nodeV t] w fun e w' => e = .returned (.tuple #[held t.v, .bool t.v.isSome]) ∧ Below w.heap.size w w' := by
  obtain ⟨ao, cap, -, c1, -, -, -, -, -⟩ := h.cells
  have ha := h.lt
  have HV : Hid (∀ x, t.v = some x → VAt R.old w x) := h.val'
  clear h
  unfold nodeV
  obtain ⟨w1, HW1⟩ : ∃ w1, Hid (w1 = w.alloc (.cells #[.pointer (some ⟨t.a, 0, none⟩)] 37)) := ⟨_, rfl⟩
  have hb1 : Below w.heap.size w w1 := by rw [HW1.out]; exact (Below.refl _ _).alloc (Nat.le_refl _) _
  have HG := get_calls t.v w1 (fun x hx => (HV.out x hx).below hb1)
  have HB1 : Hid (Below w.heap.size w w1) := hb1
  clear hb1
  go_enter Try.func36, Try.ntmps36
  go_wp2_with fail
  rw [← HW1.out]
  refine HG.mono ?_
  rintro e w2 ⟨rfl, rfl⟩
  obtain ⟨hv, HHD⟩ : ∃ hv, Hid (hv = held t.v) := ⟨_, rfl⟩
  rw [← HHD.out]
  go_wp2_with fail
  go_ret2
  rw [HHD.out]
  exact ⟨rfl, HB1.out⟩
end Go.Proofs.Ytcdfbbjakkmmoaa

/- Layer 3 (radix): Kids. -/
namespace Go.Proofs.Ytcdfbbjakkmmoaa
open Go.RowKit
set_option linter.unusedVariables false
variable {R : Rg} {O : Nat → Prop}

structure KidI (w : World) (t : Tr) (i : Nat) (W : World) : Prop where
  below : Below w.heap.size w W
  row : ∃ M : Array Value, W.heap[w.heap.size + 1]? = some (.cells M 37) ∧ M.size = t.ks.length ∧ ∀ j (h : j < t.ks.length), j < i → M[j]? = some (.pointer (some ⟨t.ks[j].a, 0, none⟩))

theorem KidI.next {w W : World} {t : Tr} {i : Nat} (h : KidI w t i W) (hi : i < t.ks.length) : KidI w t (i + 1) (W.setCell ⟨w.heap.size + 1, i, none⟩ (.pointer (some ⟨t.ks[i].a, 0, none⟩))) := by
  obtain ⟨M, h1, h2, h3⟩ := h.row
  refine ⟨h.below.setCell (by show w.heap.size ≤ w.heap.size + 1; omega) _, M.setIfInBounds i (.pointer (some ⟨t.ks[i].a, 0, none⟩)), ?_, ?_, ?_⟩
  · rw [setCell_blk h1]
  · simp [h2]
  · intro j hj hji
    rcases Nat.lt_or_ge j i with hc | hc
    · rw [Array.getElem?_setIfInBounds_ne (by omega)]
      exact h3 j hj hc
    · have : j = i := by omega
      subst this
      rw [Array.getElem?_setIfInBounds_self_of_lt (by omega)]

set_option maxRecDepth 100000 in
theorem kids_blk (t : Tr) (w : World) (h : TAt R w t) (hf : t.ks.length ≤ 1000) : Calls Try.prog 38 #[nodeV t] w fun e w' => ∃ kb, e = .returned (.slice (some ⟨kb, 0, none⟩) t.ks.length t.ks.length) ∧ Below w.heap.size w w' ∧ w.heap.size ≤ kb ∧ ∃ M : Array Value, w'.heap[kb]? = some (.cells M 37) ∧ M.size = t.ks.length ∧ ∀ i (h : i < t.ks.length), M[i]? = some (.pointer (some ⟨t.ks[i].a, 0, none⟩)) := by
  obtain ⟨ao, cap, -, -, c2, -, hk, hr, hn⟩ := h.cells
  have ha := h.lt
  have HK : Hid (KidsAt R w ao t.ks) := hk
  clear h hk
  obtain ⟨i0, hi, hz0, hz1, hz2⟩ : ∃ i0, Try.prog.info? 37 = some i0 ∧ i0.zero = some (.agg #[.pointer none]) ∧ i0.size = 1 ∧ i0.bytes = 8 := by
    have h0 : (Try.prog.info? 37).map (fun i => (i.zero, i.size, i.bytes)) = some (some (.agg #[.pointer none]), 1, 8) := by kernel_rfl
    cases h1 : Try.prog.info? 37 with
    | none => rw [h1] at h0; cases h0
    | some i0 => rw [h1] at h0; simp at h0; exact ⟨i0, rfl, h0.1, h0.2.1, h0.2.2⟩
  obtain ⟨M, HM⟩ : ∃ M, M = madeCells (Value.agg #[.pointer none]).cells (((t.ks.length : Nat) : Int).toNat * i0.size) := ⟨_, rfl⟩
  have hMs : M.size = t.ks.length := by rw [HM, size_madeCells, hz1]; simp
  have hmake : ∀ W : World, (Instr.makeSlice 85 (.int .i64 (t.ks.length : Int)) (.int .i64 (t.ks.length : Int))).run Try.prog W = .ok (.slice (some ⟨W.heap.size, 0, none⟩) t.ks.length t.ks.length) (W.alloc (.cells M 37)) := fun W => by
    have h := run_make (P := Try.prog) W 85 37 i0 (.agg #[.pointer none]) Try.underlying85 hi hz0 .i64 .i64 (t.ks.length : Int) (t.ks.length : Int) (by omega) (by omega) (by rw [hz2]; omega) (by omega)
    rw [← HM] at h
    simpa using h
  clear HM hi hz0 hz1 hz2
  unfold nodeV
  go_enter Try.func38, Try.ntmps38
  go_wp2_with fail
  have HI0 : Hid (KidI w t 0 ((w.alloc (.cells #[.pointer (some ⟨t.a, 0, none⟩)] 37)).alloc (.cells M 37))) := by
    have hs : (w.alloc (.cells #[.pointer (some ⟨t.a, 0, none⟩)] 37)).heap.size = w.heap.size + 1 := by simp [World.size_alloc]
    refine ⟨((Below.refl _ w).alloc (Nat.le_refl _) _).alloc (by omega) _, M, ?_, hMs, fun j hj h0 => by omega⟩
    rw [← hs]; exact heap_alloc_new _ _
  go_loopw [19] (fun i wr => ∃ j : Nat, j ≤ t.ks.length ∧ i = .int .i64 j ∧ Hid (KidI w t j wr)) (fun i _ => t.ks.length - (intOf i).toNat)
  case atStart => exact ⟨0, Nat.zero_le _, rfl, HI0⟩
  case round =>
    obtain ⟨j, hj, rfl, HI⟩ := hrel
    by_cases hlt : j < t.ks.length
    · obtain ⟨b, off, rfl, hc, -⟩ := (HK.out.below HI.out.below) j hlt
      obtain ⟨M1, m1, m2, m3⟩ := HI.out.row
      obtain ⟨y0, kc⟩ : ∃ y0, wr.cell? ⟨w.heap.size + 1, j, none⟩ = some y0 := ⟨M1[j], by rw [cell_of_blk m1]; simp [m2, hlt]⟩
      have kz : wr.frozen? ⟨w.heap.size + 1, j, none⟩ = false := frozen_of_blk m1
      have HI2 : Hid _ := HI.out.next hlt
      clear m1 m2 m3
      go_wp2_with fail
      go_roundw
      case rel => exact ⟨j + 1, by omega, by go_num, HI2⟩
      case measure => simp [intOf]; omega
    · have hjl : j = t.ks.length := by omega
      subst hjl
      go_wp2_with fail
      go_ret
      obtain ⟨M1, m1, m2, m3⟩ := HI.out.row
      exact ⟨w.heap.size + 1, rfl, HI.out.below, by omega, M1, m1, m2, fun i h => m3 i h h⟩
theorem kids_calls (t : Tr) (w : World) (h : TAt R w t) (hf : t.ks.length ≤ 1000) : Calls Try.prog 38 #[nodeV t] w fun e w' => ∃ kb, e = .returned (.slice (some ⟨kb, 0, none⟩) t.ks.length t.ks.length) ∧ Below w.heap.size w w' ∧ w.heap.size ≤ kb ∧ ∀ i (h : i < t.ks.length), w'.cell? ⟨kb, i, none⟩ = some (.pointer (some ⟨t.ks[i].a, 0, none⟩)) := by
  refine (kids_blk t w h hf).mono ?_
  rintro e w' ⟨kb, rfl, hb, hk, M, m1, m2, m3⟩
  exact ⟨kb, rfl, hb, hk, fun i h => by rw [cell_of_blk m1]; exact m3 i h⟩
end Go.Proofs.Ytcdfbbjakkmmoaa

/- Layer 4 (walk): bound, give. -/
namespace Go.Proofs.Ytcdfbbjakkmmoaa
open Go.RowKit Go.Shelf
set_option linter.unusedVariables false
attribute [local go_sem] Oper.semAt_some

/-! ### bound -/
def cutB (lo p : ByteArray) : ByteArray := if begB lo.data.toList p.data.toList then lo.extract p.size lo.size else lo

def bndL (pc lo : ByteArray) : ByteArray := if Lt (kyb pc) (kyb lo) then cutB lo pc else ⟨#[]⟩
def bndB (pc lo : ByteArray) : Bool := if Lt (kyb pc) (kyb lo) then begB lo.data.toList pc.data.toList else true

/-! ### rounds -/
theorem wide_room (k : Nat) : Fence.wide.room k := fun d h => by cases h
theorem RoundIn.anyW {m m' : Nat} {P : Program} {l : Nat} {f : FuncId} {tmps : Array Value} {assign body : Code} {w : World} {R : Ending → World → Prop}
    (h : RoundIn Fence.wide m P l f tmps assign body w R) : RoundIn Fence.wide m' P l f tmps assign body w R := ⟨h.1, fun c cs _ => h.2 c cs (wide_room _)⟩
theorem YieldAt.anyW {m : Nat} (m' : Nat) {P : Program} {l : Nat} {args : Array Value} {W : World} {R : Ending → World → Prop} (h : YieldAt Fence.wide m P l args W R) : YieldAt Fence.wide m' P l args W R := by
  obtain ⟨fn, tmps, assign, body, hy, hR⟩ := h
  exact ⟨fn, tmps, assign, body, hy, RoundIn.anyW hR⟩

/-- The entries that are given. -/
abbrev El (es : List En) := { e : En // e ∈ es }
def encE (es : List En) (x : El es) : Array Value := #[.string x.1.1, .int .i64 x.1.2]
def Abs {β : Type} (J : β → World → Prop) : Prop := ∀ s A B, J s A → Below A.heap.size A B → J s B

end Go.Proofs.Ytcdfbbjakkmmoaa
