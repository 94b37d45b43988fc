import Derived.Test.YtcdfbbjakkmmoaaXUnder
import Derived.Test.YtcdfbbjakkmmoaaXGive
import Derived.Test.YtcdfbbjakkmmoaaRIns
import Derived.Test.YtcdfbbjakkmmoaaRInsM
import Derived.Test.YtcdfbbjakkmmoaaRHasI
/- Layer 4 (walk): Count. -/
namespace Go.Proofs.Ytcdfbbjakkmmoaa
open Go.RowKit Go.Shelf
set_option linter.unusedVariables false
attribute [local go_sem] Oper.semAt_some

structure CoI (w : World) (n : Nat) (W : World) : Prop where
  below : Below w.heap.size w W
  box : W.heap[w.heap.size]? = some (.cells #[.int .i64 (n : Int)] 3)

end Go.Proofs.Ytcdfbbjakkmmoaa

/- Layer 4 (walk): what the document fixes of a walk over two entries. -/
namespace Go.Proofs.Ytcdfbbjakkmmoaa
open Go.RowKit Go.Shelf
set_option linter.unusedVariables false
attribute [local go_sem] Oper.semAt_some

abbrev tA : ByteArray := ⟨#[97]⟩
abbrev tB : ByteArray := ⟨#[98]⟩
def two : List En := [(tB, 2), (tA, 1)]
theorem doc_two : docOf two = [(tA, 1), (tB, 2)] := by decide
def sumE (l : List En) : Int := l.foldl (fun s e => wrap64 (wrap64 (10 * s) + e.2)) 0
theorem sumE_snoc (l : List En) (e : En) : sumE (l ++ [e]) = wrap64 (wrap64 (10 * sumE l) + e.2) := by simp [sumE]
theorem sum_two : sumE [(tA, 1), (tB, 2)] = 12 := by first | rfl | simp [sumE, wrap64]

structure AlW (w₀ : World) (bs : Nat) (s : Int) (W : World) : Prop where
  below : Below w₀.heap.size w₀ W
  box : W.heap[bs]? = some (.cells #[.int .i64 s] 3)

theorem fil_all {n : Nat} {t : Tr} (hr : t.p = kE) : fil n t ⟨#[]⟩ = ents n t := by
  rw [fil_root hr]
  refine filter_all fun x _ => ?_
  have : kyb (⟨#[]⟩ : ByteArray) = [] := rfl
  simp [notLt, this, not_lt_nil]

end Go.Proofs.Ytcdfbbjakkmmoaa

/- Layer 4 (walk): the slice in which a law gathers entries. -/
namespace Go.Proofs.Ytcdfbbjakkmmoaa
open Go.RowKit Go.Shelf
set_option linter.unusedVariables false
attribute [local go_sem] Oper.semAt_some

def enCells (l : List En) : List Value := l.flatMap fun e => [.string e.1, .int .i64 e.2]
theorem enCells_length (l : List En) : (enCells l).length = l.length * 2 := by
  induction l with
  | nil => rfl
  | cons e l ih => simp only [enCells, List.flatMap_cons, List.length_append, List.length_cons, List.length_nil] at ih ⊢; omega
theorem enCells_snoc (l : List En) (e : En) : enCells (l ++ [e]) = enCells l ++ [.string e.1, .int .i64 e.2] := by simp [enCells]
theorem enCells_get (l : List En) : ∀ (i : Nat) (h : i < l.length), (enCells l)[i * 2]? = some (.string l[i].1) ∧ (enCells l)[i * 2 + 1]? = some (.int .i64 l[i].2) := by
  induction l with
  | nil => intro i h; simp at h
  | cons e l ih =>
    intro i h
    have hc : enCells (e :: l) = .string e.1 :: .int .i64 e.2 :: enCells l := rfl
    rw [hc]
    cases i with
    | zero => exact ⟨rfl, rfl⟩
    | succ i =>
      have := ih i (by simpa using h)
      rw [show (i + 1) * 2 = i * 2 + 1 + 1 by omega]
      simpa using this
end Go.Proofs.Ytcdfbbjakkmmoaa

/- Layer 3 (radix): needed. -/
namespace Go.Proofs.Ytcdfbbjakkmmoaa
open Go.RowKit
set_option linter.unusedVariables false
variable {R : Rg}

/-- What takes a node's place in a tree. -/
def neededOf (t : Tr) : List Tr := if t.v.isSome || decide (1 < t.ks.length) then [t] else t.ks
theorem neededOf_few (t : Tr) : (neededOf t).length ≤ 1 := by
  unfold neededOf
  split
  · simp
  · rename_i h
    simp at h
    omega

set_option maxRecDepth 100000 in
theorem needed_calls (t : Tr) (w : World) (h : TAt R w t) (hf : t.ks.length ≤ 1000) (hR : ∀ b, R b → b < w.heap.size) :
    Calls Try.prog 33 #[.pointer (some ⟨t.a, 0, none⟩)] w fun e w' => ∃ x : SlV, e = .returned (.slice x.ao x.ks.length x.cap) ∧ x.ks = neededOf t ∧ x.At R w' ∧ Below w.heap.size w w' := by
  obtain ⟨-, -, -, c1, -, -, -, -, -⟩ := h.cells
  obtain ⟨y, hy, hyA, c2⟩ := h.slv
  have hyl : y.ks.length ≤ 1000 := by rw [hy]; exact hf
  have HY : Hid (y.ks = t.ks ∧ y.At R w) := ⟨hy, hyA⟩
  have hone : w.heap.size < (w.alloc (.cells #[.pointer (some ⟨t.a, 0, none⟩)] 35)).heap.size := by simp [World.size_alloc]
  have HONE : Hid (neededOf t = [t] → ∃ x : SlV, Ending.returned (.slice (some ⟨w.heap.size, 0, none⟩) 1 1) = .returned (.slice x.ao x.ks.length x.cap) ∧ x.ks = neededOf t ∧ x.At R (w.alloc (.cells #[.pointer (some ⟨t.a, 0, none⟩)] 35)) ∧ Below w.heap.size w (w.alloc (.cells #[.pointer (some ⟨t.a, 0, none⟩)] 35))) := fun hn =>
    ⟨⟨some ⟨w.heap.size, 0, none⟩, 1, [t]⟩, rfl, hn.symm, one_kid (fun e => by have := hR _ e; omega) (heap_alloc_new _ _), (Below.refl _ _).alloc (Nat.le_refl _) _⟩
  clear hone
  cases hv : t.v with
  | some v =>
    have HN : Hid (neededOf t = [t]) := by show _ = _; unfold neededOf; rw [hv]; rfl
    rw [hv] at c1
    simp only [vptr] at c1
    clear h hy hyA hv
    go_enter Try.func33, Try.ntmps33
    go_wp2
    go_ret
    exact HONE.out HN.out
  | none =>
    rw [hv] at c1
    simp only [vptr] at c1
    by_cases hl : 1 < y.ks.length
    · have HN : Hid (neededOf t = [t]) := by show _ = _; unfold neededOf; rw [hv]; rw [hy] at hl; simp [hl]
      have hd : decide ((y.ks.length : Int) > 1) = true := by simpa using (show (1 : Int) < y.ks.length by omega)
      have hd1 : (1 : Int) < (y.ks.length : Int) := by omega
      clear h hy hyA hv
      go_enter Try.func33, Try.ntmps33
      go_wp2
      go_ret
      exact HONE.out HN.out
    · have HN : Hid (neededOf t = t.ks) := by show _ = _; unfold neededOf; rw [hv]; rw [hy] at hl; simp [hl]
      have hd1 : ¬ (1 : Int) < (y.ks.length : Int) := by omega
      have hd : decide ((y.ks.length : Int) > 1) = false := by simp; omega
      clear h hy hyA hv
      go_enter Try.func33, Try.ntmps33
      go_wp2
      go_ret
      exact ⟨y, rfl, by rw [HN.out]; exact HY.out.1, HY.out.2, Below.refl _ _⟩
end Go.Proofs.Ytcdfbbjakkmmoaa

/- Layer 3 (radix): Delete. -/
namespace Go.Proofs.Ytcdfbbjakkmmoaa
open Go.RowKit Go.Shelf
set_option linter.unusedVariables false
variable {R : Rg} {O : Nat → Prop}
attribute [local go_sem] Oper.semAt_some

/-- What a tree becomes when k's value goes. -/
inductive DelR (N : Nat) (k : ByteArray) : Tr → Tr → Prop
  | here {t a g} (hp : t.p.size = k.size) (ha : N ≤ a) (hg : N ≤ g) : DelR N k t (.nd a t.p none t.ks g)
  | down {t c c' a g} (hn : nx t k.data.toList = some c) (hp : t.p.size < k.size) (h : DelR N k c c') (ha : N ≤ a) (hg : N ≤ g) :
      DelR N k t (.nd a t.p t.v (t.ks.take (posn t.ks t.p.size k[t.p.size]) ++ neededOf c' ++ t.ks.drop (posn t.ks t.p.size k[t.p.size] + 1)) g)

theorem del_down {N : Nat} {k : ByteArray} {t c c' : Tr} {a g : Nat} (h : WF t) (hp : t.p.size < k.size) (hn : nx t k.data.toList = some c) (hi : DelR N k c c') (ha : N ≤ a) (hg : N ≤ g) :
    DelR N k t (.nd a t.p t.v (t.ks.take (posn t.ks t.p.size k[t.p.size]) ++ neededOf c' ++ t.ks.drop (behindOf t k hp)) g) := by
  have hbh : behindOf t k hp = posn t.ks t.p.size k[t.p.size] + 1 := by unfold behindOf; rw [nx_there h hp hn]; rfl
  rw [hbh]
  exact .down hn hp hi ha hg

theorem newNode_some (p : ByteArray) (po : Option Addr) (ao : Option Addr) (n cap : Nat) (w : World) :
    Calls Try.prog 30 #[.string p, .pointer po, .slice ao n cap] w fun e w' => ∃ a g c, e = .returned (.pointer (some ⟨a, 0, none⟩)) ∧ Below w.heap.size w w' ∧ w'.heap[a]? = some (.cells #[.string p, .pointer po, .slice ao n cap, .pointer (some ⟨g, 0, none⟩)] 76) ∧ (WAt w' g c false ∧ g = c + 1) ∧ w.heap.size ≤ a ∧ w.heap.size ≤ g :=
  (newNode_calls p po ao n cap w).mono fun e w' ⟨h1, h2, h3, h4, h5⟩ => ⟨_, _, _, h1, h2, h4, ⟨h5, rfl⟩, by omega, by omega⟩

/-- A node anew, without its value. -/
theorem renew {w w' : World} {c : Tr} {y : SlV} {a g cc : Nat} (h : TAt R w c) (hb : Below w.heap.size w w') (hy : y.ks = c.ks) (hyA : y.At R w) (hn : w'.heap[a]? = some (.cells #[.string c.p, .pointer none, .slice y.ao y.ks.length y.cap, .pointer (some ⟨g, 0, none⟩)] 76)) (hw : WAt w' g cc false ∧ g = cc + 1) : TAt R w' (.nd a c.p none c.ks g) := by
  obtain ⟨hw, rfl⟩ := hw
  rw [← hy]
  exact TAt.laid (v := none) hn (hyA.below hb) (fun y hy => by cases hy) hw (fun t ht => by rw [hy] at ht; exact (h.sub' t ht).keep hb) h.psz'

structure DelMid (O : Nat → Prop) (w : World) (k : ByteArray) (c : Tr) (init : List Tr) (kb g nb a ga : Nat) (wx : World) : Prop where
  below : Below w.heap.size w wx
  kbox : wx.heap[kb]? = some (.cells #[.string k] 9)
  nbox : wx.heap[nb]? = some (.cells #[.pointer (some ⟨a, 0, none⟩)] 35)
  nbl : w.heap.size ≤ nb
  tat : TAt ⟨(· = nb), O⟩ wx (.nd a c.p none c.ks ga)
  new : w.heap.size ≤ a ∧ w.heap.size ≤ ga
  way : KidsAt ⟨(· = nb), O⟩ wx (some ⟨g, 0, none⟩) init
  gne : g ≠ nb ∧ g < wx.heap.size

theorem delmid_store {w w3 w4 : World} {k : ByteArray} {c : Tr} {init : List Tr} {g nb a ga : Nat} (h03 : Below w.heap.size w w3) (hk3 : w3.heap[w.heap.size]? = some (.cells #[.string k] 9)) (hway : KidsAt (nRo R.old) w3 (some ⟨g, 0, none⟩) init) (hg3 : g < w3.heap.size)
    (h34 : Below w3.heap.size w3 w4) (hn : w4.heap[nb]? = some (.cells #[.pointer none] 35)) (hnb : w3.heap.size ≤ nb) (hT : TAt R w4 (.nd a c.p none c.ks ga)) (hR : R nb) (hnew : w3.heap.size ≤ a ∧ w3.heap.size ≤ ga) :
    DelMid R.old w k c init w.heap.size g nb a ga (w4.setCell ⟨nb, 0, none⟩ (.pointer (some ⟨a, 0, none⟩))) := by
  have hz3 := h03.size
  have hz4 := h34.size
  have hkl := lt_of_heap hk3
  have hbb : ∀ b, b < w3.heap.size → (w4.setCell ⟨nb, 0, none⟩ (.pointer (some ⟨a, 0, none⟩))).heap[b]? = w3.heap[b]? := fun b hb => by
    rw [heap_setCell_other _ _ _ _ (by show b ≠ nb; omega)]; exact h34.block b hb
  refine ⟨(h03.trans (h34.mono hz3)).setCell (by show w.heap.size ≤ nb; omega) _, (hbb _ hkl).trans hk3, ?_, by omega, ?_, ⟨by omega, by omega⟩, kids_later hway hbb hnb, by omega, by simp; omega⟩
  · rw [setCell_blk hn]; simp
  · exact ((hT.poke (i := 0) hR hn (by decide) (by decide) (by decide) (.pointer (some ⟨a, 0, none⟩))).less (fun b hb => by have hb' : b = nb := hb; subst hb'; exact hR))

theorem delmid_alloc {w w3 w4 : World} {k : ByteArray} {c : Tr} {init : List Tr} {g a ga : Nat} (h03 : Below w.heap.size w w3) (hk3 : w3.heap[w.heap.size]? = some (.cells #[.string k] 9)) (hway : KidsAt (nRo R.old) w3 (some ⟨g, 0, none⟩) init) (hg3 : g < w3.heap.size)
    (h34 : Below w3.heap.size w3 w4) (hT : TAt R w4 (.nd a c.p none c.ks ga)) (hnew : w3.heap.size ≤ a ∧ w3.heap.size ≤ ga) :
    DelMid R.old w k c init w.heap.size g w4.heap.size a ga (w4.alloc (.cells #[.pointer (some ⟨a, 0, none⟩)] 35)) := by
  have hz3 := h03.size
  have hz4 := h34.size
  have hkl := lt_of_heap hk3
  have h4x : Below w4.heap.size w4 (w4.alloc (.cells #[.pointer (some ⟨a, 0, none⟩)] 35)) := (Below.refl _ _).alloc (Nat.le_refl _) _
  have hbb : ∀ b, b < w3.heap.size → (w4.alloc (.cells #[.pointer (some ⟨a, 0, none⟩)] 35)).heap[b]? = w3.heap[b]? := fun b hb => by
    rw [h4x.block b (by omega)]; exact h34.block b hb
  have h04 : Below w.heap.size w w4 := h03.trans (h34.mono hz3)
  exact ⟨h04.trans (h4x.mono h04.size), (hbb _ hkl).trans hk3, heap_alloc_new _ _, by omega, (hT.avoid (fun b hb => by have hb' : b = w4.heap.size := hb; omega)).keep h4x, ⟨by omega, by omega⟩, kids_later (nb := w4.heap.size) hway hbb hz4, by omega, by simp [World.size_alloc]; omega⟩

/-- Between two rounds of Delete's loop. -/
structure DelI (O : Nat → Prop) (w : World) (k : ByteArray) (all : List Tr) (L kb nb S : Nat) (ix : List Nat) (W : World) (T : Tr) : Prop where
  size : S ≤ W.heap.size
  below : Below w.heap.size w W
  kbox : W.heap[kb]? = some (.cells #[.string k] 9)
  nbox : W.heap[nb]? = some (.cells #[.pointer (some ⟨T.a, 0, none⟩)] 35)
  tat : TAt ⟨(· = nb), O⟩ W T
  few : T.ks.length ≤ 260
  rel : ∀ m, m ≤ L → ix = downTo L m → ∀ u, all[L - m]? = some u → DelR w.heap.size k u T
end Go.Proofs.Ytcdfbbjakkmmoaa

/- Layer 3 (radix): Delete keeps trees well made. -/
namespace Go.Proofs.Ytcdfbbjakkmmoaa
open Go.RowKit
set_option linter.unusedVariables false

theorem mem_repl {ks : List Tr} {q r : Nat} {L : List Tr} {x : Tr} (h : x ∈ ks.take q ++ L ++ ks.drop r) : x ∈ ks ∨ x ∈ L := by
  simp only [List.mem_append] at h
  rcases h with (h | h) | h
  · exact .inl (List.mem_of_mem_take h)
  · exact .inr h
  · exact .inl (List.mem_of_mem_drop h)

/-- The kid at q goes. -/
theorem wf_drop {t : Tr} (h : WF t) {q a g : Nat} (v : Option Vl) : WF (.nd a t.p v (t.ks.take q ++ [] ++ t.ks.drop (q + 1)) g) := by
  refine .mk (fun c hc => ?_) (fun c hc => ?_) ?_
  · rcases mem_repl hc with hc | hc
    · exact h.kids' c hc
    · simp at hc
  · rcases mem_repl hc with hc | hc
    · exact h.ext' c hc
    · simp at hc
  · refine List.Pairwise.sublist ?_ h.ord'
    refine List.Sublist.map _ ?_
    rw [List.append_nil]
    refine List.Sublist.trans (List.Sublist.append (List.Sublist.refl _) ((List.drop_sublist_drop_left t.ks (Nat.le_succ q)))) ?_
    rw [List.take_append_drop]
    exact List.Sublist.refl _

theorem needed_mem {t d : Tr} (h : d ∈ neededOf t) : d = t ∨ d ∈ t.ks := by
  unfold neededOf at h
  split at h
  · left; simpa using h
  · exact .inr h

theorem DelR.wf {N : Nat} {k : ByteArray} {t T : Tr} (h : DelR N k t T) (ht : WF t) (hp : t.path <+: k.data.toList) : WF T ∧ T.p = t.p := by
  induction h with
  | @here t a g hs ha hg => exact ⟨.mk ht.kids' ht.ext' ht.ord', rfl⟩
  | @down t c c' a g hn hs h ha hg ih =>
    obtain ⟨hc, hcp⟩ := nx_mem hn
    have hx := ht.ext' c hc
    obtain ⟨i1, i2⟩ := ih (ht.kids' c hc) hcp
    obtain ⟨hq, hbq⟩ := there_true hs (nx_there ht hs hn)
    have hcb : c.byte t.p.size = k[t.p.size] := by
      unfold Tr.byte
      exact key_pre hcp (by rw [path_length]; exact hx.2) hs
    have hpc : c'.path = c.path := by unfold Tr.path; rw [i2]
    refine ⟨?_, rfl⟩
    have hfew := neededOf_few c'
    cases hL : neededOf c' with
    | nil => exact wf_drop ht _
    | cons J r =>
      have hr : r = [] := by rw [hL] at hfew; simp at hfew; exact hfew
      subst hr
      have hJ : J = c' ∨ J ∈ c'.ks := needed_mem (by rw [hL]; simp)
      have hJ1 : WF J ∧ c'.path <+: J.path ∧ c'.p.size ≤ J.p.size := by
        rcases hJ with rfl | hJ
        · exact ⟨i1, List.prefix_refl _, Nat.le_refl _⟩
        · exact ⟨i1.kids' _ hJ, (i1.ext' _ hJ).1, Nat.le_of_lt (i1.ext' _ hJ).2⟩
      refine wf_set ht hq hJ1.1 ?_ ?_ ?_ _
      · exact (hpc ▸ hx.1 : t.path <+: c'.path).trans hJ1.2.1
      · have := hJ1.2.2; rw [i2] at this; omega
      · rw [hbq, ← hcb, ← byte_pre hJ1.2.1 (by rw [i2]; exact hx.2)]
        unfold Tr.byte; rw [hpc]

theorem DelR.dep {N : Nat} {k : ByteArray} {t T : Tr} (h : DelR N k t T) : ∀ {n : Nat}, Dep n t → Dep n T := by
  induction h with
  | @here t a g hs ha hg =>
    intro n hd
    cases n with
    | zero => cases hd
    | succ n => exact hd
  | @down t c c' a g hn hs h ha hg ih =>
    intro n hd
    cases n with
    | zero => cases hd
    | succ n =>
      intro x hx
      rcases mem_repl hx with hx | hx
      · exact hd x hx
      · have hc := ih (hd c (nx_mem hn).1)
        rcases needed_mem hx with rfl | hx
        · exact hc
        · cases n with
          | zero => cases hc
          | succ n => exact (hc x hx).mono (Nat.le_succ _)
end Go.Proofs.Ytcdfbbjakkmmoaa

/- Layer 4 (walk): a law gathers entries and makes newer trees meanwhile: what stays apart in memory. -/
namespace Go.Proofs.Ytcdfbbjakkmmoaa
open Go.RowKit Go.Shelf
set_option linter.unusedVariables false
attribute [local go_sem] Oper.semAt_some

/-- No cell of the block is a pointer. -/
def NP (cs : Array Value) : Prop := ∀ x ∈ cs.toList, ∀ p, x ≠ .pointer p
theorem zeroNP (n : Nat) : NP (Builtin.zeroCells #[.string ⟨#[]⟩, .int .i64 0] n) := fun x hx p => by
  simp only [Builtin.zeroCells, Array.toList_map, List.mem_map] at hx
  obtain ⟨i, -, rfl⟩ := hx
  have h2 : i % 2 = 0 ∨ i % 2 = 1 := by omega
  show (#[Value.string ⟨#[]⟩, Value.int .i64 0])[i % 2]! ≠ _
  rcases h2 with h | h <;> rw [h] <;> simp
theorem NP.append {a b : Array Value} (ha : NP a) (hb : NP b) : NP (a ++ b) := fun x hx p => by
  rw [Array.toList_append, List.mem_append] at hx
  exact hx.elim (fun h => ha x h p) (fun h => hb x h p)
theorem np_new (k : ByteArray) (v : Int) : NP [Value.string k, Value.int .i64 v].toArray := fun x hx p => by
  simp at hx
  rcases hx with rfl | rfl <;> simp
theorem np_take {cur : Array Value} (h : NP cur) (n : Nat) : NP (cur.toList.take n).toArray := fun x hx p => h x (List.mem_of_mem_take (by simpa using hx)) p
theorem np_drop {cur : Array Value} (h : NP cur) (n : Nat) : NP (cur.toList.drop n).toArray := fun x hx p => h x (List.mem_of_mem_drop (by simpa using hx)) p
theorem np_enCells (l : List En) : NP (enCells l).toArray := fun x hx p => by
  simp only [enCells, List.mem_flatMap] at hx
  obtain ⟨e, -, he⟩ := hx
  simp at he
  rcases he with rfl | rfl <;> simp

/-- A tree stays where what changes is no part of it: blocks of other kinds that hold no pointer. -/
theorem TAt.off {R : Rg} {W W' : World} {t : Tr} (E : Nat → Prop) (hk : ∀ b, b < W.heap.size → ¬ E b → W'.heap[b]? = W.heap[b]?) (hE : ∀ b, E b → ∃ cs ty, W.heap[b]? = some (.cells cs ty) ∧ NP cs ∧ ty ≠ 76 ∧ ty ≠ 97 ∧ ty ≠ 117) (h : TAt R W t) : TAt R W' t := by
  have hne : ∀ {a : Nat} {ds : Array Value} {ty' : TypeId}, W.heap[a]? = some (.cells ds ty') → ty' = 76 ∨ ty' = 97 ∨ ty' = 117 → W'.heap[a]? = W.heap[a]? := fun {a ds ty'} ha ht => hk a (lt_of_heap ha) (fun he => by
    obtain ⟨cs, ty, h1, -, h2, h3, h4⟩ := hE a he
    rw [ha] at h1
    simp at h1
    obtain ⟨-, rfl⟩ := h1
    rcases ht with h | h | h
    · exact h2 h
    · exact h3 h
    · exact h4 h)
  have hwc : ∀ {g : Nat}, Wc R.old W g → Wc R.old W' g := fun hg => by
    obtain ⟨f, hg, ho⟩ := hg
    refine ⟨f, ⟨(hne hg.blk (.inr (.inr rfl))).trans hg.blk, (hk _ hg.ltc (fun he => ?_)).trans hg.chn⟩, ho⟩
    obtain ⟨cs, ty, h1, -⟩ := hE _ he
    rw [hg.chn] at h1
    cases h1
  induction h with
  | mk blk kids val wat sub room nil psz ih =>
    refine .mk ((hne blk (.inl rfl)).trans blk) (fun j hj => ?_) (fun x hx => ?_) (hwc wat) ih room nil psz
    · obtain ⟨b, off, ha, h0, hr⟩ := kids j hj
      refine ⟨b, off, ha, (World.cell?_of_block (w := W) (hk b (World.block_lt_of_cell? W _ h0) (fun he => ?_))).trans h0, hr⟩
      obtain ⟨cs, ty, h1, hn, -⟩ := hE b he
      rw [cell_of_blk h1] at h0
      exact hn _ (by simpa using Array.mem_of_getElem? h0) _ rfl
    · have hx' := val x hx
      exact ⟨(hne hx'.blk (.inr (.inl rfl))).trans hx'.blk, hwc hx'.wat, hx'.num⟩

/-- No array of kids lies in a box that holds a pointer to a tree. -/
theorem TAt.treeBox {R : Rg} {w : World} {t : Tr} {nb tb : Nat} {ty : TypeId} {cs : Array Value} (h : TAt R w t) (hb : w.heap[nb]? = some (.cells #[.pointer (some ⟨tb, 0, none⟩)] ty)) (ht : w.heap[tb]? = some (.cells cs 68)) : TAt ⟨fun b => b = nb, R.old⟩ w t := by
  induction h with
  | mk blk kids val wat sub room nil psz ih =>
    refine .mk blk (fun j hj => ?_) val wat ih room nil psz
    obtain ⟨b, off, ha, h0, -⟩ := kids j hj
    refine ⟨b, off, ha, h0, fun e => ?_⟩
    have e' : b = nb := e
    subst e'
    rw [cell_of_blk hb] at h0
    have hsub := sub _ (List.getElem_mem hj)
    match h1 : off + j with
    | 0 =>
      rw [h1] at h0
      simp at h0
      cases hs : (‹List Tr›)[j] with
      | nd a p v ks g =>
        rw [hs] at hsub h0
        simp only [Tr.a] at h0
        subst h0
        cases hsub with
        | mk blk' _ _ _ _ _ _ _ => rw [ht] at blk'; simp at blk'
    | k + 1 => rw [h1] at h0; simp at h0
end Go.Proofs.Ytcdfbbjakkmmoaa
