/- Layer 4 (walk): the document's New; built. -/
import Derived.Test.YtnmndjplbcpglaaXInsD
import Derived.Test.YtnmndjplbcpglaaXHeld
import Derived.BigRegion
namespace Go.Proofs.Ytnmndjplbcpglaa
open Go.RowKit
set_option linter.unusedVariables false

theorem new_at {X : World} {k : Nat} (h : X.heap.size = k) (o : Obj) : (X.alloc o).heap[k]? = some o := by subst h; exact heap_alloc_new X o
theorem Sv.At.nil' (w : World) : Sv.At w ⟨none, 0, []⟩ := ⟨fun i hi => by simp at hi, Nat.le_refl _, fun _ => rfl⟩
theorem Sv.Ty.nil' (w : World) (e : TypeId) : Sv.Ty w ⟨none, 0, []⟩ e := fun b off n h => by cases h
theorem sv_one {w : World} {g : Nat} {u : Value} {e : TypeId} (h : w.heap[g]? = some (.cells #[u] e)) : Sv.At w ⟨some ⟨g, 0, none⟩, 1, [u]⟩ ∧ Sv.Ty w ⟨some ⟨g, 0, none⟩, 1, [u]⟩ e := by
  refine ⟨⟨fun i hi => ?_, by simp, fun h => by cases h⟩, fun b off n hb => by simp at hb; obtain ⟨rfl, -⟩ := hb; exact ⟨_, h⟩⟩
  simp at hi
  subst hi
  exact ⟨g, 0, rfl, by rw [cell_of_blk h]; rfl⟩

set_option maxRecDepth 100000 in
theorem refNew_calls (next : Int) (w : World) : Calls Try.prog 20 #[.int .i64 next] w fun e w' => ∃ (d : Dv) (z : Int), e = .returned (.tuple #[.agg (d.cells 0 1), .int .i64 z]) ∧ DocAt w' d [] (pathsN (keysOf []) 0) ∧ Below w.heap.size w w' := by
  obtain ⟨w3, HW3⟩ : ∃ w3, Hid (w3 = ((w.alloc (.cells #[.slice none 0 0, .slice none 0 0, .slice none 0 0, .slice (some ⟨w.heap.size + 1, 0, none⟩) 1 1, .slice (some ⟨w.heap.size + 1 + 1, 0, none⟩) 1 1] 28)).alloc (.cells #[.string ⟨#[]⟩] 9)).alloc (.cells #[.int .i64 next] 3)) := ⟨_, rfl⟩
  have hb3 : Below w.heap.size w w3 := by rw [HW3.out]; exact (((Below.refl _ w).alloc (Nat.le_refl _) _).alloc (by simp [World.size_alloc]) _).alloc (by simp [World.size_alloc]; omega) _
  have s1 : (w.alloc (.cells #[.slice none 0 0, .slice none 0 0, .slice none 0 0, .slice (some ⟨w.heap.size + 1, 0, none⟩) 1 1, .slice (some ⟨w.heap.size + 1 + 1, 0, none⟩) 1 1] 28)).heap.size = w.heap.size + 1 := by simp [World.size_alloc]
  have s2 : ((w.alloc (.cells #[.slice none 0 0, .slice none 0 0, .slice none 0 0, .slice (some ⟨w.heap.size + 1, 0, none⟩) 1 1, .slice (some ⟨w.heap.size + 1 + 1, 0, none⟩) 1 1] 28)).alloc (.cells #[.string ⟨#[]⟩] 9)).heap.size = w.heap.size + 1 + 1 := by simp [World.size_alloc]
  have q0 : w3.heap[w.heap.size]? = some (.cells #[.slice none 0 0, .slice none 0 0, .slice none 0 0, .slice (some ⟨w.heap.size + 1, 0, none⟩) 1 1, .slice (some ⟨w.heap.size + 1 + 1, 0, none⟩) 1 1] 28) := by
    rw [HW3.out, Below.heap_alloc _ _ _ (by omega), Below.heap_alloc _ _ _ (by omega)]; exact heap_alloc_new _ _
  have q1 : w3.heap[w.heap.size + 1]? = some (.cells #[.string ⟨#[]⟩] 9) := by
    rw [HW3.out, Below.heap_alloc _ _ _ (by omega)]; exact new_at s1 _
  have q2 : w3.heap[w.heap.size + 1 + 1]? = some (.cells #[.int .i64 next] 3) := by
    rw [HW3.out]; exact new_at s2 _
  have g0 : w3.cell? ⟨w.heap.size, 0, none⟩ = some (.slice none 0 0) := by rw [cell_of_blk q0]; rfl
  have g1 : w3.cell? ⟨w.heap.size, 1, none⟩ = some (.slice none 0 0) := by rw [cell_of_blk q0]; rfl
  have g2 : w3.cell? ⟨w.heap.size, 2, none⟩ = some (.slice none 0 0) := by rw [cell_of_blk q0]; rfl
  have g3 : w3.cell? ⟨w.heap.size, 3, none⟩ = some (.slice (some ⟨w.heap.size + 1, 0, none⟩) 1 1) := by rw [cell_of_blk q0]; rfl
  have g4 : w3.cell? ⟨w.heap.size, 4, none⟩ = some (.slice (some ⟨w.heap.size + 1 + 1, 0, none⟩) 1 1) := by rw [cell_of_blk q0]; rfl
  have HD : Hid (DocAt w3 ⟨⟨none, 0, []⟩, ⟨none, 0, []⟩, ⟨none, 0, []⟩, ⟨some ⟨w.heap.size + 1, 0, none⟩, 1, [.string ⟨#[]⟩]⟩, ⟨some ⟨w.heap.size + 1 + 1, 0, none⟩, 1, [.int .i64 next]⟩⟩ [] (pathsN (keysOf []) 0)) := by
    obtain ⟨a1, a2⟩ := sv_one q1
    obtain ⟨b1, b2⟩ := sv_one q2
    exact ⟨Sv.At.nil' _, Sv.At.nil' _, Sv.At.nil' _, a1, b1, rfl, rfl, ⟨[], rfl, rfl⟩, rfl, ⟨[next], rfl, rfl⟩, fun q hq => by simp [keysOf] at hq, pathsN_size (fun q hq => by simp [keysOf] at hq) 0, List.Pairwise.nil, pathsN_sorted _ _, pathsN_len _ _, Sv.Ty.nil' _ _, Sv.Ty.nil' _ _, Sv.Ty.nil' _ _, a2, b2⟩
  have HB : Hid (Below w.heap.size w w3) := hb3
  clear q0 q1 q2 s1 s2 hb3
  go_enter Try.func20, Try.ntmps20
  go_wp2_with fail
  rw [← HW3.out]
  refine bodyPost_ret (v := .tuple #[.agg #[.slice none 0 0, .slice none 0 0, .slice none 0 0, .slice (some ⟨w.heap.size + 1, 0, none⟩) 1 1, .slice (some ⟨w.heap.size + 1 + 1, 0, none⟩) 1 1], .int .i64 (wrap64 (next + 1))]) (by simp [results, Try.results20, go_sem, g0, g1, g2, g3, g4]) rfl ?_
  exact ⟨_, _, rfl, HD.out, HB.out⟩

/-- Entries lie one behind the other at the address. -/
def EntsAt (w : World) (ao : Option Addr) (l : List En) : Prop :=
  ∀ i (h : i < l.length), ∃ b off, ao = some ⟨b, off, none⟩ ∧ w.cell? ⟨b, off + i * 2, none⟩ = some (.string l[i].1) ∧ w.cell? ⟨b, off + i * 2 + 1, none⟩ = some (.int .i64 l[i].2) ∧ l[i].1.size ≤ 140737488351296
theorem EntsAt.below {w w' : World} {ao : Option Addr} {l : List En} (h : EntsAt w ao l) (hb : Below w.heap.size w w') : EntsAt w' ao l := fun i hi => by
  obtain ⟨b, off, ha, h0, h1, hs⟩ := h i hi
  have hl : b < w.heap.size := World.block_lt_of_cell? w _ h0
  exact ⟨b, off, ha, by rw [hb.cell (by exact hl)]; exact h0, by rw [hb.cell (by exact hl)]; exact h1, hs⟩
/-- The document's entries, put in one after the other. -/
def docOf (l : List En) : List En := l.foldl (fun acc e => insE acc e.1 e.2) []
theorem docOf_snoc (l : List En) (e : En) : docOf (l ++ [e]) = insE (docOf l) e.1 e.2 := by simp [docOf]
theorem docOf_sorted (l : List En) : SortedE (docOf l) := by
  unfold docOf
  suffices h : ∀ (acc : List En), SortedE acc → SortedE (l.foldl (fun acc e => insE acc e.1 e.2) acc) from h [] List.Pairwise.nil
  induction l with
  | nil => exact fun acc h => h
  | cons e l ih => exact fun acc h => ih _ (insE_sorted h _ _)
theorem docOf_len (l : List En) : (docOf l).length ≤ l.length := by
  unfold docOf
  suffices h : ∀ (acc : List En), (l.foldl (fun acc e => insE acc e.1 e.2) acc).length ≤ acc.length + l.length by simpa using h []
  induction l with
  | nil => intro acc; simp
  | cons e l ih => intro acc; have h1 := ih (insE acc e.1 e.2); have h2 := insE_len acc e.1 e.2; simp only [List.foldl_cons, List.length_cons]; omega
theorem docOf_take (l : List En) (j : Nat) (h : j < l.length) : docOf (l.take (j + 1)) = insE (docOf (l.take j)) l[j].1 l[j].2 := by rw [List.take_succ_eq_append_getElem h, docOf_snoc]

/-! ### a store into a block that holds no pointer leaves every tree -/
def NoPtr (cs : Array Value) : Prop := ∀ (i : Nat) (x : Value), cs[i]? = some x → ∀ p, x ≠ .pointer p
theorem NoPtr.set {cs : Array Value} (h : NoPtr cs) (i : Nat) {ao : Option Addr} {n c : Nat} : NoPtr (cs.setIfInBounds i (.slice ao n c)) := fun j x hx p e => by
  rcases Nat.decEq i j with hij | hij
  · rw [Array.getElem?_setIfInBounds_ne hij] at hx; exact h j x hx p e
  · subst hij
    by_cases hlt : i < cs.size
    · rw [Array.getElem?_setIfInBounds_self_of_lt hlt] at hx
      simp only [Option.some.injEq] at hx
      rw [← hx] at e; cases e
    · rw [Array.getElem?_eq_none (by simp; omega)] at hx; cases hx
theorem noPtr5 (a0 a1 a2 a3 a4 : Option Addr) (n0 n1 n2 n3 n4 c0 c1 c2 c3 c4 : Nat) : NoPtr #[.slice a0 n0 c0, .slice a1 n1 c1, .slice a2 n2 c2, .slice a3 n3 c3, .slice a4 n4 c4] := fun i x hx p e => by
  subst e
  match i, hx with
  | 0, hx => simp at hx
  | 1, hx => simp at hx
  | 2, hx => simp at hx
  | 3, hx => simp at hx
  | 4, hx => simp at hx
  | i + 5, hx => simp at hx
theorem TAt.aside {R : Rg} {w : World} {t : Tr} {nb i : Nat} {cs : Array Value} {ty : TypeId} (h : TAt R w t) (hb : w.heap[nb]? = some (.cells cs ty)) (hn : NoPtr cs) (h1 : ty ≠ 102) (h2 : ty ≠ 107) (h3 : ty ≠ 137) (v : Value) : TAt R (w.setCell ⟨nb, i, none⟩ v) t := by
  have hne : ∀ {a : Nat} {ds : Array Value} {ty' : TypeId}, w.heap[a]? = some (.cells ds ty') → ty ≠ ty' → (w.setCell ⟨nb, i, none⟩ v).heap[a]? = w.heap[a]? := fun ha ht => heap_setCell_other _ _ _ _ (fun e => by
    have e' : _ = nb := e
    subst e'
    have := hb.symm.trans ha
    simp at this
    exact ht this.2)
  have hwc : ∀ {g : Nat}, Wc R.old w g → Wc R.old (w.setCell ⟨nb, i, none⟩ v) g := fun hg => by
    obtain ⟨f, hg, ho⟩ := hg
    exact ⟨f, hg.aside hb h3 v, ho⟩
  induction h with
  | mk blk kids val wat sub room nil psz ih =>
    refine .mk ((hne blk h1).trans blk) (fun j hj => ?_) (fun x hx => ?_) (hwc wat) ih room nil psz
    · obtain ⟨b, off, ha, h0, hr⟩ := kids j hj
      have hnb : b ≠ nb := fun e => by
        subst e
        rw [cell_of_blk hb] at h0
        exact hn _ _ h0 _ rfl
      exact ⟨b, off, ha, by rw [World.cell?_setCell_other _ _ _ _ (fun e => hnb (by simpa using (congrArg Addr.block e).symm))]; exact h0, hr⟩
    · have hx' := val x hx
      exact ⟨(hne hx'.blk h2).trans hx'.blk, hwc hx'.wat, hx'.num⟩
theorem Held.aside {w W : World} {tb : Nat} {T : Tr} {ne : Int} {d : Nat} {es : List En} {nb i : Nat} {cs : Array Value} (h : Held w W tb T ne d es) (hb : W.heap[nb]? = some (.cells cs 28)) (hn : NoPtr cs) (hge : w.heap.size ≤ nb) (v : Value) : Held w (W.setCell ⟨nb, i, none⟩ v) tb T ne d es := by
  have hg := h.good
  refine ⟨⟨hg.below.setCell (p := ⟨nb, i, none⟩) hge v, ⟨?_, hg.tree.tat.aside hb hn (by decide) (by decide) (by decide) v⟩, hg.wf, hg.root, hg.dep, hg.lo, hg.hi⟩, h.has, h.sorted, h.cnt⟩
  rw [heap_setCell_other _ _ _ _ (fun e => by
    have e' : tb = nb := e
    subst e'
    have := hb.symm.trans hg.tree.blk
    simp at this)]
  exact hg.tree.blk

/-- Five stores into one block that holds a tree of the document. -/
def put5 (W : World) (b : Nat) (x0 x1 x2 x3 x4 : Value) : World := ((((W.setCell ⟨b, 0, none⟩ x0).setCell ⟨b, 1, none⟩ x1).setCell ⟨b, 2, none⟩ x2).setCell ⟨b, 3, none⟩ x3).setCell ⟨b, 4, none⟩ x4
theorem put5_blk {W : World} {b : Nat} {cs : Array Value} (hb : W.heap[b]? = some (.cells cs 28)) (hs : cs.size = 5) (x0 x1 x2 x3 x4 : Value) : (put5 W b x0 x1 x2 x3 x4).heap[b]? = some (.cells #[x0, x1, x2, x3, x4] 28) := by
  obtain ⟨a0, a1, a2, a3, a4, rfl⟩ := five cs hs
  unfold put5
  rw [setCell_blk (setCell_blk (setCell_blk (setCell_blk (setCell_blk hb _) _) _) _) _]; rfl
theorem put5_other {W : World} {b : Nat} {cs : Array Value} (hb : W.heap[b]? = some (.cells cs 28)) (hs : cs.size = 5) (x0 x1 x2 x3 x4 : Value) {c : Nat} (hc : c ≠ b) : (put5 W b x0 x1 x2 x3 x4).heap[c]? = W.heap[c]? := by
  unfold put5
  rw [heap_setCell_other _ _ _ _ hc, heap_setCell_other _ _ _ _ hc, heap_setCell_other _ _ _ _ hc, heap_setCell_other _ _ _ _ hc, heap_setCell_other _ _ _ _ hc]
theorem put5_doc {W : World} {b : Nat} {cs : Array Value} (hb : W.heap[b]? = some (.cells cs 28)) (hs : cs.size = 5) (x0 x1 x2 x3 x4 : Value) {d : Dv} {es : List En} {ps : List ByteArray} (h : DocAt W d es ps) : DocAt (put5 W b x0 x1 x2 x3 x4) d es ps := by
  have b1 := setCell_blk (i := 0) hb x0
  have b2 := setCell_blk (i := 1) b1 x1
  have b3 := setCell_blk (i := 2) b2 x2
  have b4 := setCell_blk (i := 3) b3 x3
  exact ((((h.store hb x0).store b1 x1).store b2 x2).store b3 x3).store b4 x4
theorem put5_held {W : World} {b : Nat} {cs : Array Value} (hb : W.heap[b]? = some (.cells cs 28)) (hs : cs.size = 5) (hn : NoPtr cs) (a0 a1 a2 a3 a4 : Option Addr) (n0 n1 n2 n3 n4 c0 c1 c2 c3 c4 : Nat) {w : World} {tb : Nat} {T : Tr} {ne : Int} {d : Nat} {es : List En} (hge : w.heap.size ≤ b) (h : Held w W tb T ne d es) : Held w (put5 W b (.slice a0 n0 c0) (.slice a1 n1 c1) (.slice a2 n2 c2) (.slice a3 n3 c3) (.slice a4 n4 c4)) tb T ne d es := by
  have b1 := setCell_blk (i := 0) hb (.slice a0 n0 c0)
  have b2 := setCell_blk (i := 1) b1 (.slice a1 n1 c1)
  have b3 := setCell_blk (i := 2) b2 (.slice a2 n2 c2)
  have b4 := setCell_blk (i := 3) b3 (.slice a3 n3 c3)
  have m1 := hn.set 0 (ao := a0) (n := n0) (c := c0)
  have m2 := m1.set 1 (ao := a1) (n := n1) (c := c1)
  have m3 := m2.set 2 (ao := a2) (n := n2) (c := c2)
  have m4 := m3.set 3 (ao := a3) (n := n3) (c := c3)
  exact ((((h.aside hb hn hge _).aside b1 m1 hge _).aside b2 m2 hge _).aside b3 m3 hge _).aside b4 m4 hge _
/-- Within built. -/
structure BuI (w : World) (rb mb : Nat) (d : Dv) (es : List En) (ps : List ByteArray) (tb : Nat) (T : Tr) (ne : Int) (j : Nat) (W : World) : Prop where
  held : Held w W tb T ne j es
  doc : DocAt W d es ps
  mblk : W.heap[mb]? = some (.cells (d.cells es.length ps.length) 28)
  rblk : W.heap[rb]? = some (.cells #[.slice none 0 0, .slice none 0 0, .slice none 0 0, .slice none 0 0, .slice none 0 0] 28)
  apart : w.heap.size ≤ mb ∧ rb ≠ mb
theorem BuI.keep {w : World} {rb mb : Nat} {d : Dv} {es : List En} {ps : List ByteArray} {tb : Nat} {T : Tr} {ne : Int} {j : Nat} {W W' : World} (h : BuI w rb mb d es ps tb T ne j W) (hb : Below W.heap.size W W') : BuI w rb mb d es ps tb T ne j W' := by
  exact ⟨h.held.keep hb, h.doc.keep hb, (hb.block _ (lt_of_heap h.mblk)).trans h.mblk, (hb.block _ (lt_of_heap h.rblk)).trans h.rblk, h.apart⟩

set_option maxRecDepth 100000 in
set_option maxHeartbeats 4000000 in
theorem built4_calls (ao : Option Addr) (cap : Nat) (l : List En) (w : World) (hl : EntsAt w ao l) (hn : l.length ≤ 5864062014634) :
    Calls Try.prog 6 #[.slice ao l.length cap] w fun e w' => ∃ (tb : Nat) (T : Tr) (ne : Int) (d : Dv) (ps : List ByteArray), e = .returned (.tuple #[.pointer (some ⟨tb, 0, none⟩), .agg (d.cells (docOf l).length ps.length)]) ∧ Held w w' tb T ne l.length (docOf l) ∧ DocAt w' d (docOf l) ps := by
  obtain ⟨w1, HW1⟩ : ∃ w1, Hid (w1 = w.alloc (.cells #[.slice none 0 0, .slice none 0 0, .slice none 0 0, .slice none 0 0, .slice none 0 0] 28)) := ⟨_, rfl⟩
  have hb1 : Below w.heap.size w w1 := by rw [HW1.out]; exact (Below.refl _ _).alloc (Nat.le_refl _) _
  have q1 : w1.heap[w.heap.size]? = some (.cells #[.slice none 0 0, .slice none 0 0, .slice none 0 0, .slice none 0 0, .slice none 0 0] 28) := by rw [HW1.out]; exact heap_alloc_new _ _
  have HQ : Hid (Below w.heap.size w w1 ∧ w1.heap[w.heap.size]? = some (.cells #[.slice none 0 0, .slice none 0 0, .slice none 0 0, .slice none 0 0, .slice none 0 0] 28)) := ⟨hb1, q1⟩
  have HL : Hid (EntsAt w ao l) := hl
  clear hb1 q1 hl
  go_enter Try.func6, Try.ntmps6
  go_wp2_with fail
  rw [← HW1.out]
  clear HW1
  refine (newTree_calls w1).mono ?_
  rintro e w2 ⟨tb, a, g, rfl, hb2, ht2, -, -, -⟩
  have HB2 : Hid (Below w1.heap.size w1 w2) := hb2
  have HT2 : Hid (TreeAt w2 tb (.nd a ⟨#[]⟩ none [] g) 0) := ht2
  clear hb2 ht2
  go_wp2_with fail
  refine (refNew_calls 0 w2).mono ?_
  rintro e w3 ⟨d, z, rfl, hd3, hb3⟩
  have HB3 : Hid (Below w2.heap.size w2 w3) := hb3
  have HD3 : Hid (DocAt w3 d [] (pathsN (keysOf []) 0)) := hd3
  clear hd3 hb3
  obtain ⟨w4, HW4⟩ : ∃ w4, Hid (w4 = w3.alloc (.cells (d.cells 0 1) 28)) := ⟨_, rfl⟩
  have HI4 : Hid (BuI w w.heap.size w3.heap.size d (docOf (l.take 0)) (pathsN (keysOf []) 0) tb (.nd a ⟨#[]⟩ none [] g) 0 0 w4) := by
    have b4 : Below w3.heap.size w3 w4 := by rw [HW4.out]; exact (Below.refl _ _).alloc (Nat.le_refl _) _
    have b24 : Below w2.heap.size w2 w4 := HB3.out.trans (b4.mono HB3.out.size)
    have b14 : Below w1.heap.size w1 w4 := HB2.out.trans (b24.mono HB2.out.size)
    have b04 : Below w.heap.size w w4 := HQ.out.1.trans (b14.mono HQ.out.1.size)
    refine ⟨⟨⟨b04, HT2.out.keep b24, leaf_wf _ _ _ _, rfl, leaf_dep (by omega), by omega, by omega⟩, ?_, ?_, rfl⟩, HD3.out.keep b4, ?_, (b14.block _ (lt_of_heap HQ.out.2)).trans HQ.out.2, ?_⟩
    · exact HasE.nil
    · exact List.Pairwise.nil
    · rw [HW4.out]; exact heap_alloc_new _ _
    · have h1 := lt_of_heap HQ.out.2
      have h2 := HB2.out.size
      have h3 := HB3.out.size
      exact ⟨by omega, by omega⟩
  unfold Dv.cells at HW4
  unfold Dv.cells
  go_wp2_with fail
  rw [← HW4.out]
  clear HW4 HQ HB2 HB3 HT2 HD3
  obtain ⟨mb, hmb⟩ : ∃ mb, mb = w3.heap.size := ⟨_, rfl⟩
  rw [← hmb] at HI4 ⊢
  clear hmb
  go_loopw [4, 6, 16] (fun t x i wr => ∃ (j tb : Nat) (T : Tr) (ne z : Int) (d : Dv) (ps : List ByteArray), j ≤ l.length ∧ t = .pointer (some ⟨tb, 0, none⟩) ∧ x = .int .i64 z ∧ i = .int .i64 j ∧ Hid (BuI w w.heap.size mb d (docOf (l.take j)) ps tb T ne j wr)) (fun _ _ i _ => l.length - (intOf i).toNat)
  case atStart => exact ⟨0, tb, _, 0, z, d, _, Nat.zero_le _, rfl, rfl, rfl, HI4⟩
  case round =>
    obtain ⟨j, tb, T, ne, z, d, ps, hj, rfl, rfl, rfl, HI⟩ := hrel
    clear HI4
    by_cases hlt : j < l.length
    · obtain ⟨b, off, rfl, c0, c1, hsz⟩ := (HL.out.below HI.out.held.good.below) j hlt
      have hdl := docOf_len (l.take j)
      rw [List.length_take, Nat.min_eq_left hj] at hdl
      obtain ⟨k, hk⟩ : ∃ k, k = l[j].1 := ⟨_, rfl⟩
      obtain ⟨v, hv⟩ : ∃ v, v = l[j].2 := ⟨_, rfl⟩
      rw [← hk] at c0 hsz
      rw [← hv] at c1
      have HNX : Hid (docOf (l.take (j + 1)) = insE (docOf (l.take j)) k v) := by show _ = _; rw [docOf_take l j hlt, hk, hv]
      clear hk hv
      obtain ⟨w5, HW5⟩ : ∃ w5, Hid (w5 = wr.alloc (.cells #[.string k, .int .i64 v] 35)) := ⟨_, rfl⟩
      have hb5 : Below wr.heap.size wr w5 := by rw [HW5.out]; exact (Below.refl _ _).alloc (Nat.le_refl _) _
      have q5 : w5.heap[wr.heap.size]? = some (.cells #[.string k, .int .i64 v] 35) := by rw [HW5.out]; exact heap_alloc_new _ _
      have HI5 : Hid (BuI w w.heap.size mb d (docOf (l.take j)) ps tb T ne j w5) := HI.out.keep hb5
      obtain ⟨init, c, hA⟩ := along_split (k := k.data.toList) HI5.out.held.good.wf
      have hlen := hA.len HI5.out.held.good.dep
      have hlo := HI5.out.held.good.lo
      have hhi := HI5.out.held.good.hi
      have HC := insert_calls tb T ne k v w5 init c HI5.out.held.good.tree HI5.out.held.good.wf (root_pre HI5.out.held.good.root _) hsz hA (by simp at hlen; omega) (by omega) (by omega)
      have HA : Hid (Along k.data.toList T (init ++ [c])) := hA
      have HQ5 : Hid (w5.heap[wr.heap.size]? = some (.cells #[.string k, .int .i64 v] 35)) := q5
      clear hb5 q5 hA hlen HI
      go_wp2_with fail
      rw [← HW5.out]
      clear HW5 c0 c1
      refine HC.mono ?_
      clear HC
      rintro e w6 ⟨tb2, T2, va, vg, rfl, hb6, ht6, hi6, -, -, -⟩
      have HI6 : Hid (BuI w w.heap.size mb d (docOf (l.take j)) ps tb T ne j w6) := HI5.out.keep hb6
      have HH6 : Hid (Held w w6 tb2 T2 (ne + plusNew (valAt c k)) (j + 1) (docOf (l.take (j + 1)))) := by
        show Held _ _ _ _ _ _ _
        rw [HNX.out]; exact HI5.out.held.insert hb6 ht6 hi6 (HI5.out.held.has.val HI5.out.held.good.wf (root_pre HI5.out.held.good.root _) HA.out)
      have q6 : w6.heap[wr.heap.size]? = some (.cells #[.string k, .int .i64 v] 35) := (hb6.block _ (lt_of_heap HQ5.out)).trans HQ5.out
      have e0 : w6.cell? ⟨wr.heap.size, 0, none⟩ = some (.string k) := by rw [cell_of_blk q6]; rfl
      have e1 : w6.cell? ⟨wr.heap.size, 1, none⟩ = some (.int .i64 v) := by rw [cell_of_blk q6]; rfl
      have m0 : w6.cell? ⟨mb, 0, none⟩ = some (.slice d.k.ao (docOf (l.take j)).length d.k.cap) := by rw [cell_of_blk HI6.out.mblk]; rfl
      have m1 : w6.cell? ⟨mb, 1, none⟩ = some (.slice d.v.ao (docOf (l.take j)).length d.v.cap) := by rw [cell_of_blk HI6.out.mblk]; rfl
      have m2 : w6.cell? ⟨mb, 2, none⟩ = some (.slice d.l.ao (docOf (l.take j)).length d.l.cap) := by rw [cell_of_blk HI6.out.mblk]; rfl
      have m3 : w6.cell? ⟨mb, 3, none⟩ = some (.slice d.p.ao ps.length d.p.cap) := by rw [cell_of_blk HI6.out.mblk]; rfl
      have m4 : w6.cell? ⟨mb, 4, none⟩ = some (.slice d.m.ao ps.length d.m.cap) := by rw [cell_of_blk HI6.out.mblk]; rfl
      have HR := insertD_calls d (docOf (l.take j)) ps k v z w6 HI6.out.doc hsz (by omega)
      rw [← HNX.out] at HR
      clear hb6 ht6 hi6 q6 HI5 HQ5 HA
      obtain ⟨es2, hes2⟩ : ∃ e, e = docOf (l.take (j + 1)) := ⟨_, rfl⟩
      rw [← hes2] at HR HH6
      obtain ⟨ps2, hps2⟩ : ∃ e, e = pathsN (keysOf es2) es2.length := ⟨_, rfl⟩
      rw [← hps2] at HR
      have HES : Hid (es2 = docOf (l.take (j + 1))) := hes2
      clear hes2 hps2
      unfold Dv.cells at HR
      go_wp2_with fail
      refine HR.mono ?_
      clear HR
      rintro e w7 ⟨d2, z2, rfl, hd7, hb7⟩
      have HI7 : Hid (BuI w w.heap.size mb d (docOf (l.take j)) ps tb T ne j w7) := HI6.out.keep hb7
      have HH7 : Hid (Held w w7 tb2 T2 (ne + plusNew (valAt c k)) (j + 1) es2) := HH6.out.keep hb7
      have HD7 : Hid (DocAt w7 d2 es2 ps2) := hd7
      have b7 := HI7.out.mblk
      have f0 : w7.cell? ⟨mb, 0, none⟩ = some (.slice d.k.ao (docOf (l.take j)).length d.k.cap) := by rw [cell_of_blk b7]; rfl
      have f1 : w7.cell? ⟨mb, 1, none⟩ = some (.slice d.v.ao (docOf (l.take j)).length d.v.cap) := by rw [cell_of_blk b7]; rfl
      have f2 : w7.cell? ⟨mb, 2, none⟩ = some (.slice d.l.ao (docOf (l.take j)).length d.l.cap) := by rw [cell_of_blk b7]; rfl
      have f3 : w7.cell? ⟨mb, 3, none⟩ = some (.slice d.p.ao ps.length d.p.cap) := by rw [cell_of_blk b7]; rfl
      have f4 : w7.cell? ⟨mb, 4, none⟩ = some (.slice d.m.ao ps.length d.m.cap) := by rw [cell_of_blk b7]; rfl
      have g0 : w7.frozen? ⟨mb, 0, none⟩ = false := frozen_of_blk b7
      have g1 : w7.frozen? ⟨mb, 1, none⟩ = false := frozen_of_blk b7
      have g2 : w7.frozen? ⟨mb, 2, none⟩ = false := frozen_of_blk b7
      have g3 : w7.frozen? ⟨mb, 3, none⟩ = false := frozen_of_blk b7
      have g4 : w7.frozen? ⟨mb, 4, none⟩ = false := frozen_of_blk b7
      obtain ⟨wz, HWZ⟩ : ∃ wz, Hid (wz = ((((w7.setCell ⟨mb, 0, none⟩ (.slice d2.k.ao es2.length d2.k.cap)).setCell ⟨mb, 1, none⟩ (.slice d2.v.ao es2.length d2.v.cap)).setCell ⟨mb, 2, none⟩ (.slice d2.l.ao es2.length d2.l.cap)).setCell ⟨mb, 3, none⟩ (.slice d2.p.ao ps2.length d2.p.cap)).setCell ⟨mb, 4, none⟩ (.slice d2.m.ao ps2.length d2.m.cap)) := ⟨_, rfl⟩
      have HIZ : Hid (BuI w w.heap.size mb d2 (docOf (l.take (j + 1))) ps2 tb2 T2 (ne + plusNew (valAt c k)) (j + 1) wz) := by
        show BuI _ _ _ _ _ _ _ _ _ _ _
        rw [← HES.out, HWZ.out]
        obtain ⟨ha1, ha2⟩ := HI7.out.apart
        refine ⟨put5_held b7 rfl (noPtr5 _ _ _ _ _ _ _ _ _ _ _ _ _ _ _) _ _ _ _ _ _ _ _ _ _ _ _ _ _ _ ha1 HH7.out, put5_doc b7 rfl _ _ _ _ _ HD7.out, put5_blk b7 rfl _ _ _ _ _, ?_, ha1, ha2⟩
        exact (put5_other b7 rfl _ _ _ _ _ ha2).trans HI7.out.rblk
      clear hd7 hb7 b7 HI6 HH6 HI7 HH7 HD7 m0 m1 m2 m3 m4 e0 e1
      go_wp2_with fail
      rw [← HWZ.out]
      go_roundw
      case rel => exact ⟨j + 1, tb2, T2, _, z2, d2, ps2, by omega, rfl, rfl, by go_num, HIZ⟩
      case measure => simp [intOf]; omega
    · have hjl : j = l.length := by omega
      subst hjl
      rw [List.take_length] at HI
      have m0 : wr.cell? ⟨mb, 0, none⟩ = some (.slice d.k.ao (docOf l).length d.k.cap) := by rw [cell_of_blk HI.out.mblk]; rfl
      have m1 : wr.cell? ⟨mb, 1, none⟩ = some (.slice d.v.ao (docOf l).length d.v.cap) := by rw [cell_of_blk HI.out.mblk]; rfl
      have m2 : wr.cell? ⟨mb, 2, none⟩ = some (.slice d.l.ao (docOf l).length d.l.cap) := by rw [cell_of_blk HI.out.mblk]; rfl
      have m3 : wr.cell? ⟨mb, 3, none⟩ = some (.slice d.p.ao ps.length d.p.cap) := by rw [cell_of_blk HI.out.mblk]; rfl
      have m4 : wr.cell? ⟨mb, 4, none⟩ = some (.slice d.m.ao ps.length d.m.cap) := by rw [cell_of_blk HI.out.mblk]; rfl
      have f0 : wr.cell? ⟨w.heap.size, 0, none⟩ = some (.slice none 0 0) := by rw [cell_of_blk HI.out.rblk]; rfl
      have f1 : wr.cell? ⟨w.heap.size, 1, none⟩ = some (.slice none 0 0) := by rw [cell_of_blk HI.out.rblk]; rfl
      have f2 : wr.cell? ⟨w.heap.size, 2, none⟩ = some (.slice none 0 0) := by rw [cell_of_blk HI.out.rblk]; rfl
      have f3 : wr.cell? ⟨w.heap.size, 3, none⟩ = some (.slice none 0 0) := by rw [cell_of_blk HI.out.rblk]; rfl
      have f4 : wr.cell? ⟨w.heap.size, 4, none⟩ = some (.slice none 0 0) := by rw [cell_of_blk HI.out.rblk]; rfl
      have g0 : wr.frozen? ⟨w.heap.size, 0, none⟩ = false := frozen_of_blk HI.out.rblk
      have g1 : wr.frozen? ⟨w.heap.size, 1, none⟩ = false := frozen_of_blk HI.out.rblk
      have g2 : wr.frozen? ⟨w.heap.size, 2, none⟩ = false := frozen_of_blk HI.out.rblk
      have g3 : wr.frozen? ⟨w.heap.size, 3, none⟩ = false := frozen_of_blk HI.out.rblk
      have g4 : wr.frozen? ⟨w.heap.size, 4, none⟩ = false := frozen_of_blk HI.out.rblk
      have hne := HI.out.apart.2
      obtain ⟨wz, HWZ⟩ : ∃ wz, Hid (wz = (((((wr.setCell ⟨w.heap.size, 0, none⟩ (.slice d.k.ao (docOf l).length d.k.cap)).setCell ⟨w.heap.size, 1, none⟩ (.slice d.v.ao (docOf l).length d.v.cap)).setCell ⟨w.heap.size, 2, none⟩ (.slice d.l.ao (docOf l).length d.l.cap)).setCell ⟨w.heap.size, 3, none⟩ (.slice d.p.ao ps.length d.p.cap)).setCell ⟨w.heap.size, 4, none⟩ (.slice d.m.ao ps.length d.m.cap)).drew) := ⟨_, rfl⟩
      have hz : wz.heap[w.heap.size]? = some (.cells #[.slice d.k.ao (docOf l).length d.k.cap, .slice d.v.ao (docOf l).length d.v.cap, .slice d.l.ao (docOf l).length d.l.cap, .slice d.p.ao ps.length d.p.cap, .slice d.m.ao ps.length d.m.cap] 28) := by
        rw [HWZ.out]; exact put5_blk HI.out.rblk rfl _ _ _ _ _
      have k0 : wz.cell? ⟨w.heap.size, 0, none⟩ = some (.slice d.k.ao (docOf l).length d.k.cap) := by rw [cell_of_blk hz]; rfl
      have k1 : wz.cell? ⟨w.heap.size, 1, none⟩ = some (.slice d.v.ao (docOf l).length d.v.cap) := by rw [cell_of_blk hz]; rfl
      have k2 : wz.cell? ⟨w.heap.size, 2, none⟩ = some (.slice d.l.ao (docOf l).length d.l.cap) := by rw [cell_of_blk hz]; rfl
      have k3 : wz.cell? ⟨w.heap.size, 3, none⟩ = some (.slice d.p.ao ps.length d.p.cap) := by rw [cell_of_blk hz]; rfl
      have k4 : wz.cell? ⟨w.heap.size, 4, none⟩ = some (.slice d.m.ao ps.length d.m.cap) := by rw [cell_of_blk hz]; rfl
      have HFIN : Hid (Held w wz tb T ne l.length (docOf l) ∧ DocAt wz d (docOf l) ps) := by
        have hdr : ∀ X : World, Below X.heap.size X X.drew := fun X => ⟨rfl, rfl, rfl, Nat.le_refl _, fun _ _ => rfl⟩
        rw [HWZ.out]
        exact ⟨(put5_held HI.out.rblk rfl (noPtr5 _ _ _ _ _ _ _ _ _ _ _ _ _ _ _) _ _ _ _ _ _ _ _ _ _ _ _ _ _ _ (Nat.le_refl _) HI.out.held).keep (hdr _), (put5_doc HI.out.rblk rfl _ _ _ _ _ HI.out.doc).keep (hdr _)⟩
      clear hz HI
      go_wp2_with fail
      go_region
      all_goals (
        rw [← HWZ.out]
        go_wp2_with fail
        refine bodyPost_ret (v := .tuple #[.pointer (some ⟨tb, 0, none⟩), .agg #[.slice d.k.ao (docOf l).length d.k.cap, .slice d.v.ao (docOf l).length d.v.cap, .slice d.l.ao (docOf l).length d.l.cap, .slice d.p.ao ps.length d.p.cap, .slice d.m.ao ps.length d.m.cap]]) (by simp [results, Try.results6, go_sem, k0, k1, k2, k3, k4]) rfl ?_
        exact ⟨tb, T, ne, d, ps, rfl, HFIN.out.1, HFIN.out.2⟩)
end Go.Proofs.Ytnmndjplbcpglaa
