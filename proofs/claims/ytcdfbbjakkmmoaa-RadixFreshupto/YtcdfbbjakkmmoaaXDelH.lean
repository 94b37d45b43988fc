import Derived.Test.YtcdfbbjakkmmoaaXFrom
import Derived.Test.YtcdfbbjakkmmoaaXBuilt4
import Derived.Test.YtcdfbbjakkmmoaaRCanon
import Derived.Test.YtcdfbbjakkmmoaaRGet
import Derived.Test.YtcdfbbjakkmmoaaRDelete
import Derived.Test.YtcdfbbjakkmmoaaXKidsM
/- Layer 4 (walk): Under. -/
namespace Go.Proofs.Ytcdfbbjakkmmoaa
open Go.RowKit Go.Shelf
set_option linter.unusedVariables false
attribute [local go_sem] Oper.semAt_some

def beg (p : ByteArray) (e : En) : Bool := begB (kyl e) (kyb p)
/-- The entries under p. -/
def und (n : Nat) (t : Tr) (p : ByteArray) : List En := (fil n t p).filter (beg p)

theorem filter_pre {α : Type} {p : α → Bool} {q l : List α} (h : q <+: l) (hq : ∀ x ∈ q, p x = true) : q <+: l.filter p := by
  obtain ⟨r, rfl⟩ := h
  rw [List.filter_append, filter_all hq]
  exact ⟨_, rfl⟩
/-- Behind an entry from p on that does not begin with p comes none that does. -/
theorem beg_gone {p : List UInt8} {x y : List UInt8} (hx : ¬ Lt x p) (hb : ¬ p <+: x) (hxy : Lt x y) : ¬ p <+: y := by
  intro hy
  rcases lt_tot p x with h | h | h
  · exact lt_asy hxy (by obtain ⟨z, rfl⟩ := hy; exact lt_more h hb z)
  · exact hb (by rw [h]; exact List.prefix_refl _)
  · exact hx h
theorem filter_stop {α : Type} {p : α → Bool} {q l : List α} {x : α} (h : q ++ [x] <+: l) (hq : ∀ y ∈ q, p y = true) (hx : p x = false) (hr : ∀ r, q ++ [x] ++ r = l → ∀ y ∈ r, p y = false) : l.filter p = q := by
  obtain ⟨r, hr'⟩ := h
  have := hr r hr'
  rw [← hr', List.filter_append, List.filter_append, filter_all hq, filter_none' this]
  simp [hx]

theorem ents_size {w : World} {n : Nat} : ∀ {t : Tr}, TAt nR w t → ∀ e ∈ ents n t, e.1.size ≤ 140737488351296 := by
  induction n with
  | zero => intro t _ e he; cases he
  | succ n ih =>
    intro t ht e he
    rcases List.mem_append.1 he with h | h
    · unfold ownE at h
      split at h
      · simp at h; subst h; exact ht.psz'
      · cases h
    · obtain ⟨c, hc, h⟩ := List.mem_flatMap.1 h
      exact ih (ht.sub' c hc) e h
theorem fil_size {w : World} {n : Nat} {t : Tr} {lo : ByteArray} (ht : TAt nR w t) : ∀ e ∈ fil n t lo, e.1.size ≤ 140737488351296 := fun e he => ents_size ht e (List.mem_filter.1 he).1
theorem fil_sorted {n : Nat} {t : Tr} (hw : WF t) (lo : ByteArray) : (fil n t lo).Pairwise EnLt := (ents_sorted hw).filter _
theorem fil_ge {n : Nat} {t : Tr} {lo : ByteArray} (hr : t.p = kE) : ∀ e ∈ fil n t lo, ¬ Lt (kyl e) (kyb lo) := fun e he => by
  rw [fil_root hr] at he
  have := (List.mem_filter.1 he).2
  simpa [notLt] using this
theorem und_stop {n : Nat} {t : Tr} {p : ByteArray} (hw : WF t) (hr : t.p = kE) {q : List En} {x : En} (h : q ++ [x] <+: fil n t p) (hq : ∀ y ∈ q, beg p y = true) (hx : beg p x = false) : und n t p = q := by
  refine filter_stop h hq hx fun r hr' y hy => ?_
  have hs := fil_sorted (n := n) hw p
  rw [← hr', List.pairwise_append] at hs
  have h1 : EnLt x y := hs.2.2 x (by simp) y hy
  have hxm : x ∈ fil n t p := by rw [← hr']; simp
  have := beg_gone (fil_ge hr x hxm) (fun h => by unfold beg begB at hx; rw [List.isPrefixOf_iff_prefix.2 h] at hx; cases hx) h1
  unfold beg begB
  rw [Bool.eq_false_iff, ne_eq, List.isPrefixOf_iff_prefix]
  exact this

theorem box_blocks {w w1 : World} {ao : Option Addr} {lo : ByteArray} (h : w1 = (w.alloc (.cells #[.pointer ao] 24)).alloc (.cells #[.string lo] 9)) :
    Below w.heap.size w w1 ∧ w1.heap.size = w.heap.size + 2 ∧ w1.heap[w.heap.size]? = some (.cells #[.pointer ao] 24) ∧ w1.heap[w.heap.size + 1]? = some (.cells #[.string lo] 9) := by
  subst h
  refine ⟨((Below.refl _ w).alloc (Nat.le_refl _) _).alloc (by simp) _, by simp [World.size_alloc], ?_, ?_⟩
  · rw [Below.heap_alloc _ _ _ (by simp)]; exact heap_alloc_new _ _
  · have := heap_alloc_new (w.alloc (.cells #[.pointer ao] 24)) (.cells #[.string lo] 9)
    rwa [World.size_alloc] at this
end Go.Proofs.Ytcdfbbjakkmmoaa

/- Layer 4 (walk): Count. -/
namespace Go.Proofs.Ytcdfbbjakkmmoaa
open Go.RowKit Go.Shelf
set_option linter.unusedVariables false
attribute [local go_sem] Oper.semAt_some

structure CoI (w : World) (n : Nat) (W : World) : Prop where
  below : Below w.heap.size w W
  box : W.heap[w.heap.size]? = some (.cells #[.int .i64 (n : Int)] 3)

end Go.Proofs.Ytcdfbbjakkmmoaa

/- Layer 4 (walk): what the document fixes of a walk over two entries. -/
namespace Go.Proofs.Ytcdfbbjakkmmoaa
open Go.RowKit Go.Shelf
set_option linter.unusedVariables false
attribute [local go_sem] Oper.semAt_some

abbrev tA : ByteArray := ⟨#[97]⟩
abbrev tB : ByteArray := ⟨#[98]⟩
def two : List En := [(tB, 2), (tA, 1)]
theorem doc_two : docOf two = [(tA, 1), (tB, 2)] := by decide
def sumE (l : List En) : Int := l.foldl (fun s e => wrap64 (wrap64 (10 * s) + e.2)) 0
theorem sumE_snoc (l : List En) (e : En) : sumE (l ++ [e]) = wrap64 (wrap64 (10 * sumE l) + e.2) := by simp [sumE]
theorem sum_two : sumE [(tA, 1), (tB, 2)] = 12 := by first | rfl | simp [sumE, wrap64]

structure AlW (w₀ : World) (bs : Nat) (s : Int) (W : World) : Prop where
  below : Below w₀.heap.size w₀ W
  box : W.heap[bs]? = some (.cells #[.int .i64 s] 3)

theorem fil_all {n : Nat} {t : Tr} (hr : t.p = kE) : fil n t ⟨#[]⟩ = ents n t := by
  rw [fil_root hr]
  refine filter_all fun x _ => ?_
  have : kyb (⟨#[]⟩ : ByteArray) = [] := rfl
  simp [notLt, this, not_lt_nil]

end Go.Proofs.Ytcdfbbjakkmmoaa

/- Layer 4 (walk): the slice in which a law gathers entries. -/
namespace Go.Proofs.Ytcdfbbjakkmmoaa
open Go.RowKit Go.Shelf
set_option linter.unusedVariables false
attribute [local go_sem] Oper.semAt_some

def enCells (l : List En) : List Value := l.flatMap fun e => [.string e.1, .int .i64 e.2]
theorem enCells_length (l : List En) : (enCells l).length = l.length * 2 := by
  induction l with
  | nil => rfl
  | cons e l ih => simp only [enCells, List.flatMap_cons, List.length_append, List.length_cons, List.length_nil] at ih ⊢; omega
theorem enCells_snoc (l : List En) (e : En) : enCells (l ++ [e]) = enCells l ++ [.string e.1, .int .i64 e.2] := by simp [enCells]
theorem enCells_get (l : List En) : ∀ (i : Nat) (h : i < l.length), (enCells l)[i * 2]? = some (.string l[i].1) ∧ (enCells l)[i * 2 + 1]? = some (.int .i64 l[i].2) := by
  induction l with
  | nil => intro i h; simp at h
  | cons e l ih =>
    intro i h
    have hc : enCells (e :: l) = .string e.1 :: .int .i64 e.2 :: enCells l := rfl
    rw [hc]
    cases i with
    | zero => exact ⟨rfl, rfl⟩
    | succ i =>
      have := ih i (by simpa using h)
      rw [show (i + 1) * 2 = i * 2 + 1 + 1 by omega]
      simpa using this
end Go.Proofs.Ytcdfbbjakkmmoaa

/- Layer 4 (walk): a law gathers entries and makes newer trees meanwhile: what stays apart in memory. -/
namespace Go.Proofs.Ytcdfbbjakkmmoaa
open Go.RowKit Go.Shelf
set_option linter.unusedVariables false
attribute [local go_sem] Oper.semAt_some

/-- No cell of the block is a pointer. -/
def NP (cs : Array Value) : Prop := ∀ x ∈ cs.toList, ∀ p, x ≠ .pointer p
theorem zeroNP (n : Nat) : NP (Builtin.zeroCells #[.string ⟨#[]⟩, .int .i64 0] n) := fun x hx p => by
  simp only [Builtin.zeroCells, Array.toList_map, List.mem_map] at hx
  obtain ⟨i, -, rfl⟩ := hx
  have h2 : i % 2 = 0 ∨ i % 2 = 1 := by omega
  show (#[Value.string ⟨#[]⟩, Value.int .i64 0])[i % 2]! ≠ _
  rcases h2 with h | h <;> rw [h] <;> simp
theorem NP.append {a b : Array Value} (ha : NP a) (hb : NP b) : NP (a ++ b) := fun x hx p => by
  rw [Array.toList_append, List.mem_append] at hx
  exact hx.elim (fun h => ha x h p) (fun h => hb x h p)
theorem np_new (k : ByteArray) (v : Int) : NP [Value.string k, Value.int .i64 v].toArray := fun x hx p => by
  simp at hx
  rcases hx with rfl | rfl <;> simp
theorem np_take {cur : Array Value} (h : NP cur) (n : Nat) : NP (cur.toList.take n).toArray := fun x hx p => h x (List.mem_of_mem_take (by simpa using hx)) p
theorem np_drop {cur : Array Value} (h : NP cur) (n : Nat) : NP (cur.toList.drop n).toArray := fun x hx p => h x (List.mem_of_mem_drop (by simpa using hx)) p
theorem np_enCells (l : List En) : NP (enCells l).toArray := fun x hx p => by
  simp only [enCells, List.mem_flatMap] at hx
  obtain ⟨e, -, he⟩ := hx
  simp at he
  rcases he with rfl | rfl <;> simp

/-- A tree stays where what changes is no part of it: blocks of other kinds that hold no pointer. -/
theorem TAt.off {R : Rg} {W W' : World} {t : Tr} (E : Nat → Prop) (hk : ∀ b, b < W.heap.size → ¬ E b → W'.heap[b]? = W.heap[b]?) (hE : ∀ b, E b → ∃ cs ty, W.heap[b]? = some (.cells cs ty) ∧ NP cs ∧ ty ≠ 76 ∧ ty ≠ 97 ∧ ty ≠ 117) (h : TAt R W t) : TAt R W' t := by
  have hne : ∀ {a : Nat} {ds : Array Value} {ty' : TypeId}, W.heap[a]? = some (.cells ds ty') → ty' = 76 ∨ ty' = 97 ∨ ty' = 117 → W'.heap[a]? = W.heap[a]? := fun {a ds ty'} ha ht => hk a (lt_of_heap ha) (fun he => by
    obtain ⟨cs, ty, h1, -, h2, h3, h4⟩ := hE a he
    rw [ha] at h1
    simp at h1
    obtain ⟨-, rfl⟩ := h1
    rcases ht with h | h | h
    · exact h2 h
    · exact h3 h
    · exact h4 h)
  have hwc : ∀ {g : Nat}, Wc R.old W g → Wc R.old W' g := fun hg => by
    obtain ⟨f, hg, ho⟩ := hg
    refine ⟨f, ⟨(hne hg.blk (.inr (.inr rfl))).trans hg.blk, (hk _ hg.ltc (fun he => ?_)).trans hg.chn⟩, ho⟩
    obtain ⟨cs, ty, h1, -⟩ := hE _ he
    rw [hg.chn] at h1
    cases h1
  induction h with
  | mk blk kids val wat sub room nil psz ih =>
    refine .mk ((hne blk (.inl rfl)).trans blk) (fun j hj => ?_) (fun x hx => ?_) (hwc wat) ih room nil psz
    · obtain ⟨b, off, ha, h0, hr⟩ := kids j hj
      refine ⟨b, off, ha, (World.cell?_of_block (w := W) (hk b (World.block_lt_of_cell? W _ h0) (fun he => ?_))).trans h0, hr⟩
      obtain ⟨cs, ty, h1, hn, -⟩ := hE b he
      rw [cell_of_blk h1] at h0
      exact hn _ (by simpa using Array.mem_of_getElem? h0) _ rfl
    · have hx' := val x hx
      exact ⟨(hne hx'.blk (.inr (.inl rfl))).trans hx'.blk, hwc hx'.wat, hx'.num⟩

/-- No array of kids lies in a box that holds a pointer to a tree. -/
theorem TAt.treeBox {R : Rg} {w : World} {t : Tr} {nb tb : Nat} {ty : TypeId} {cs : Array Value} (h : TAt R w t) (hb : w.heap[nb]? = some (.cells #[.pointer (some ⟨tb, 0, none⟩)] ty)) (ht : w.heap[tb]? = some (.cells cs 68)) : TAt ⟨fun b => b = nb, R.old⟩ w t := by
  induction h with
  | mk blk kids val wat sub room nil psz ih =>
    refine .mk blk (fun j hj => ?_) val wat ih room nil psz
    obtain ⟨b, off, ha, h0, -⟩ := kids j hj
    refine ⟨b, off, ha, h0, fun e => ?_⟩
    have e' : b = nb := e
    subst e'
    rw [cell_of_blk hb] at h0
    have hsub := sub _ (List.getElem_mem hj)
    match h1 : off + j with
    | 0 =>
      rw [h1] at h0
      simp at h0
      cases hs : (‹List Tr›)[j] with
      | nd a p v ks g =>
        rw [hs] at hsub h0
        simp only [Tr.a] at h0
        subst h0
        cases hsub with
        | mk blk' _ _ _ _ _ _ _ => rw [ht] at blk'; simp at blk'
    | k + 1 => rw [h1] at h0; simp at h0
end Go.Proofs.Ytcdfbbjakkmmoaa

/- Layer 4 (walk): a tree behind Delete. -/
namespace Go.Proofs.Ytcdfbbjakkmmoaa
open Go.RowKit
set_option linter.unusedVariables false

theorem Held.delete {w W W' : World} {tb tb' N : Nat} {T T' : Tr} {ne : Int} {d : Nat} {k : ByteArray} {es : List En} (h : Held w W tb T ne d es) (hb : Below W.heap.size W W') (ht : TreeAt W' tb' T' (ne - 1)) (hi : DelR N k T T') (hk : k ∈ keysOf es) : Held w W' tb' T' (ne - 1) d (delE es k) := by
  have hp := root_pre h.good.root k.data.toList
  have hw := hi.wf h.good.wf hp
  have hc := h.cnt
  have hd := delE_count h.sorted hk
  have h2 := h.good.hi
  refine ⟨⟨h.good.below.trans (hb.mono h.good.below.size), ht, hw.1, hw.2.trans h.good.root, hi.dep h.good.dep, by omega, by omega⟩, fun k' x => ?_, delE_sorted h.sorted _, by omega⟩
  rw [hi.has h.good.wf hp, h.has]
  constructor
  · rintro ⟨h1, e, he, rfl, rfl⟩
    exact ⟨e, (mem_delE h.sorted).2 ⟨fun h3 => h1 (by rw [kyl, h3]), he⟩, rfl, rfl⟩
  · rintro ⟨e, he, rfl, rfl⟩
    obtain ⟨h1, h2⟩ := (mem_delE h.sorted).1 he
    exact ⟨fun h3 => h1 (ky_inj h3), e, h2, rfl, rfl⟩
end Go.Proofs.Ytcdfbbjakkmmoaa
