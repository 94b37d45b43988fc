import Derived.Test.YtcdfbbjakkmmoaaXGive
import Derived.Deep.CutRange
import Derived.Test.YtcdfbbjakkmmoaaXRemade
import Derived.Deep.RegionWith
/- Layer 4 (walk): rise. -/
namespace Go.Proofs.Ytcdfbbjakkmmoaa
open Go.RowKit Go.Shelf
set_option linter.unusedVariables false

/-! ### which entries -/
def notLt (b : List UInt8) (e : En) : Bool := !decide (Lt (kyl e) b)
/-- The entries at t and beneath from t's path with lo behind it on. -/
def fil (n : Nat) (t : Tr) (lo : ByteArray) : List En := (ents n t).filter (notLt (t.path ++ kyb lo))
def ownF (t : Tr) (lo : ByteArray) : List En := if lo.size = 0 then ownE t else []
def pcOf (t c : Tr) : ByteArray := c.p.extract t.p.size c.p.size
def kidF (n : Nat) (t : Tr) (lo : ByteArray) (c : Tr) : List En := if bndB (pcOf t c) lo = true then fil n c (bndL (pcOf t c) lo) else []

theorem kyb_empty {lo : ByteArray} (h : lo.size = 0) : kyb lo = [] := List.length_eq_zero_iff.1 (by rw [kyb_len]; exact h)
theorem filter_all {α : Type} {p : α → Bool} {l : List α} (h : ∀ x ∈ l, p x = true) : l.filter p = l := List.filter_eq_self.2 h
theorem filter_none' {α : Type} {p : α → Bool} {l : List α} (h : ∀ x ∈ l, p x = false) : l.filter p = [] := by
  rw [List.filter_eq_nil_iff]; intro a ha; rw [h a ha]; simp
theorem pc_path {t c : Tr} (hw : WF t) (hc : c ∈ t.ks) : c.path = t.path ++ kyb (pcOf t c) := by
  obtain ⟨z, hz⟩ := (hw.ext' c hc).1
  have : kyb (pcOf t c) = c.path.drop t.p.size := by unfold kyb pcOf Tr.path; exact extract_drop _ _
  rw [this, ← hz, ← path_length, List.drop_left]
theorem ownF_fil (t : Tr) (lo : ByteArray) : (ownE t).filter (notLt (t.path ++ kyb lo)) = ownF t lo := by
  unfold ownF
  have hk : ∀ x ∈ ownE t, kyl x = t.path := by
    intro x hx
    unfold ownE at hx
    split at hx
    · simp at hx; subst hx; rfl
    · cases hx
  split
  · rename_i h
    rw [kyb_empty h, List.append_nil]
    exact filter_all fun x hx => by unfold notLt; rw [hk x hx]; simp [lt_irr]
  · rename_i h
    refine filter_none' fun x hx => ?_
    unfold notLt
    rw [hk x hx]
    have : Lt t.path (t.path ++ kyb lo) := pre_lt ⟨_, rfl⟩ (by simp [kyb_len]; omega)
    simp [this]
theorem kid_fil {n : Nat} {t c : Tr} (hw : WF t) (hc : c ∈ t.ks) (lo : ByteArray) : (ents n c).filter (notLt (t.path ++ kyb lo)) = kidF n t lo c := by
  have hp := pc_path hw hc
  have hpre : ∀ x ∈ ents n c, ∃ z, kyl x = t.path ++ kyb (pcOf t c) ++ z := fun x hx => by
    obtain ⟨z, hz⟩ := ents_pre (hw.kids' _ hc) hx
    exact ⟨z, by rw [← hz, hp]⟩
  unfold kidF bndB bndL
  by_cases h : Lt (kyb (pcOf t c)) (kyb lo)
  · rw [if_pos h, if_pos h]
    by_cases hb : begB lo.data.toList (pcOf t c).data.toList = true
    · rw [if_pos hb]
      have hb' : kyb (pcOf t c) <+: kyb lo := List.isPrefixOf_iff_prefix.1 hb
      unfold fil cutB
      rw [if_pos hb]
      have e : kyb (lo.extract (pcOf t c).size lo.size) = (kyb lo).drop (kyb (pcOf t c)).length := by rw [kyb_len]; exact extract_drop _ _
      obtain ⟨z, hz⟩ := hb'
      rw [e, ← hz, List.drop_left, hp, List.append_assoc]
    · rw [if_neg hb]
      have hb' : ¬ kyb (pcOf t c) <+: kyb lo := fun h => hb (List.isPrefixOf_iff_prefix.2 h)
      refine filter_none' fun x hx => ?_
      obtain ⟨z, hz⟩ := hpre x hx
      have : Lt (kyl x) (t.path ++ kyb lo) := by rw [hz, List.append_assoc, lt_common]; exact lt_more h hb' z
      simp [notLt, this]
  · rw [if_neg h, if_neg h, if_pos rfl]
    unfold fil
    rw [filter_all, filter_all]
    · intro x hx
      have : kyb (⟨#[]⟩ : ByteArray) = [] := rfl
      have h2 : ¬ Lt (kyl x) c.path := pre_not_lt (ents_pre (hw.kids' _ hc) hx)
      simp [notLt, this, h2]
    · intro x hx
      obtain ⟨z, hz⟩ := hpre x hx
      have : ¬ Lt (kyl x) (t.path ++ kyb lo) := by rw [hz, List.append_assoc, lt_common]; exact not_lt_more h z
      simp [notLt, this]
theorem flatMap_filter' {α β : Type} (p : β → Bool) (f g : α → List β) : ∀ (l : List α), (∀ a ∈ l, (f a).filter p = g a) → (l.flatMap f).filter p = l.flatMap g
  | [], _ => rfl
  | a :: l, h => by rw [List.flatMap_cons, List.filter_append, h a (by simp), flatMap_filter' p f g l (fun b hb => h b (by simp [hb])), List.flatMap_cons]
theorem fil_succ {n : Nat} {t : Tr} (hw : WF t) (lo : ByteArray) : fil (n + 1) t lo = ownF t lo ++ t.ks.flatMap (kidF n t lo) := by
  unfold fil
  show (ownE t ++ t.ks.flatMap (ents n)).filter _ = _
  rw [List.filter_append, ownF_fil, flatMap_filter' _ _ (kidF n t lo) t.ks (fun c hc => kid_fil hw hc lo)]
/-- From the root on. -/
theorem fil_root {n : Nat} {t : Tr} (hr : t.p = kE) (lo : ByteArray) : fil n t lo = (ents n t).filter (notLt (kyb lo)) := by
  unfold fil; rw [show t.path = [] by unfold Tr.path; rw [hr]]; rfl

theorem bndL_size (pc lo : ByteArray) : (bndL pc lo).size ≤ lo.size := by
  unfold bndL cutB
  split
  · split
    · have := kyb_len (lo.extract pc.size lo.size)
      rw [← this]
      have e : kyb (lo.extract pc.size lo.size) = (kyb lo).drop pc.size := extract_drop _ _
      rw [e, List.length_drop, kyb_len]; omega
    · exact Nat.le_refl _
  · exact Nat.zero_le _
theorem pcOf_size (t c : Tr) : (pcOf t c).size ≤ c.p.size := by
  have := kyb_len (pcOf t c)
  rw [← this]
  have e : kyb (pcOf t c) = (kyb c.p).drop t.p.size := extract_drop _ _
  rw [e, List.length_drop, kyb_len]; omega
theorem take_flat {α β : Type} (f : α → List β) (l : List α) (j : Nat) (hj : j < l.length) : (l.take (j + 1)).flatMap f = (l.take j).flatMap f ++ f l[j] := by
  rw [List.take_succ_eq_append_getElem hj, List.flatMap_append]; simp
theorem take_flat_pre {α β : Type} (f : α → List β) (l : List α) (j : Nat) : (l.take j).flatMap f <+: l.flatMap f := by
  conv => rhs; rw [← List.take_append_drop j l]
  rw [List.flatMap_append]; exact ⟨_, rfl⟩

end Go.Proofs.Ytcdfbbjakkmmoaa

/- The document's From over sorted lists. -/
namespace Go.Proofs.Ytcdfbbjakkmmoaa
open Go.RowKit
set_option linter.unusedVariables false

/-- The places of the entries at which p holds, among the first j. -/
def idxTo (p : En → Bool) (es : List En) (j : Nat) : List Nat := (List.range j).filter fun i => p (es.getD i (⟨#[]⟩, 0))
theorem idxTo_succ (p : En → Bool) (es : List En) (j : Nat) (hj : j < es.length) : idxTo p es (j + 1) = idxTo p es j ++ (if p es[j] then [j] else []) := by
  unfold idxTo
  rw [List.range_succ, List.filter_append]
  congr 1
  simp [List.filter_cons, hj]
theorem idxTo_len (p : En → Bool) (es : List En) (j : Nat) : (idxTo p es j).length ≤ j := by
  have := List.length_filter_le (fun i => p (es.getD i (⟨#[]⟩, 0))) (List.range j)
  simpa [idxTo] using this
theorem idxTo_map (p : En → Bool) (es : List En) (j : Nat) (hj : j ≤ es.length) : (idxTo p es j).map (fun i => es.getD i (⟨#[]⟩, 0)) = (es.take j).filter p := by
  induction j with
  | zero => simp [idxTo]
  | succ j ih =>
    rw [idxTo_succ p es j (by omega), List.map_append, ih (by omega), List.take_succ_eq_append_getElem (by omega : j < es.length), List.filter_append]
    congr 1
    by_cases h : p es[j] = true
    · simp [h, show j < es.length by omega]
    · simp [h]
theorem idxTo_lt (p : En → Bool) (es : List En) (j : Nat) : ∀ i ∈ idxTo p es j, i < j := fun i hi => by
  have := (List.mem_filter.1 hi).1
  simpa using this
def natV (l : List Nat) : List Value := ints (l.map (fun i : Nat => (i : Int)))
theorem natV_length (l : List Nat) : (natV l).length = l.length := by simp [natV, ints]

structure IdI (w : World) (tc : Array Value) (l : List Nat) (ao : Option Addr) (n cap : Nat) (W : World) : Prop where
  below : Below w.heap.size w W
  tb : W.heap[w.heap.size]? = some (.cells tc 28)
  own : OwnV W w.heap.size 3 (.slice ao n cap) (natV l)
theorem IdI.keep {w : World} {tc : Array Value} {l : List Nat} {ao : Option Addr} {n cap : Nat} {W W' : World} (h : IdI w tc l ao n cap W) (hb : Below W.heap.size W W') : IdI w tc l ao n cap W' := ⟨h.below.trans (hb.mono h.below.size), (hb.block _ (lt_of_heap h.tb)).trans h.tb, h.own.below hb⟩

end Go.Proofs.Ytcdfbbjakkmmoaa

/- Layer 4 (walk): these. -/
namespace Go.Proofs.Ytcdfbbjakkmmoaa
open Go.RowKit
set_option linter.unusedVariables false

structure ThI (w : World) (tc : Array Value) (W : World) : Prop where
  below : Below w.heap.size w W
  tb : W.heap[w.heap.size]? = some (.cells tc 28)

end Go.Proofs.Ytcdfbbjakkmmoaa

/- Layer 4 (walk): From, All. -/
namespace Go.Proofs.Ytcdfbbjakkmmoaa
open Go.RowKit Go.Shelf
set_option linter.unusedVariables false

theorem ownFrom_abs {β : Type} {B : Nat} {J : β → World → Prop} (h : OwnM B J) : Abs J := fun s A C hs hb => h s A C none hs ⟨hb.os, hb.tape, hb.output, hb.size, fun k hk _ => hb.block k hk⟩ (fun r e => by cases e)

/-- A tree that lay in w₀, and what is said of it. -/
structure Tin (w₀ : World) (tb : Nat) (T : Tr) (ne : Int) (d : Nat) : Prop where
  tree : TreeAt w₀ tb T ne
  wf : WF T
  dep : Dep (d + 1) T
  root : T.p = kE
theorem Held.tin {w W : World} {tb : Nat} {T : Tr} {ne : Int} {d : Nat} {es : List En} (h : Held w W tb T ne d es) : Tin W tb T ne d := ⟨h.good.tree, h.good.wf, h.good.dep, h.good.root⟩

/-- The two boxes that From lays. -/
theorem from_boxes {w w1 : World} {ao : Option Addr} {lo : ByteArray} (h : w1 = (w.alloc (.cells #[.pointer ao] 24)).alloc (.cells #[.string lo] 9)) :
    Below w.heap.size w w1 ∧ w1.heap.size = w.heap.size + 2 ∧ w1.cell? ⟨w.heap.size, 0, none⟩ = some (.pointer ao) ∧ w1.cell? ⟨w.heap.size + 1, 0, none⟩ = some (.string lo) := by
  subst h
  have e1 : ((w.alloc (.cells #[.pointer ao] 24)).alloc (.cells #[.string lo] 9)).heap[w.heap.size]? = some (.cells #[.pointer ao] 24) := by
    rw [Below.heap_alloc _ _ _ (by simp)]; exact heap_alloc_new _ _
  have e2 : ((w.alloc (.cells #[.pointer ao] 24)).alloc (.cells #[.string lo] 9)).heap[w.heap.size + 1]? = some (.cells #[.string lo] 9) := by
    have := heap_alloc_new (w.alloc (.cells #[.pointer ao] 24)) (.cells #[.string lo] 9)
    rwa [World.size_alloc] at this
  exact ⟨((Below.refl _ w).alloc (Nat.le_refl _) _).alloc (by simp) _, by simp [World.size_alloc], by rw [cell_of_blk e1]; rfl, by rw [cell_of_blk e2]; rfl⟩
end Go.Proofs.Ytcdfbbjakkmmoaa

/- Layer 4 (walk): Under. -/
namespace Go.Proofs.Ytcdfbbjakkmmoaa
open Go.RowKit Go.Shelf
set_option linter.unusedVariables false
attribute [local go_sem] Oper.semAt_some

def beg (p : ByteArray) (e : En) : Bool := begB (kyl e) (kyb p)
/-- The entries under p. -/
def und (n : Nat) (t : Tr) (p : ByteArray) : List En := (fil n t p).filter (beg p)

theorem filter_pre {α : Type} {p : α → Bool} {q l : List α} (h : q <+: l) (hq : ∀ x ∈ q, p x = true) : q <+: l.filter p := by
  obtain ⟨r, rfl⟩ := h
  rw [List.filter_append, filter_all hq]
  exact ⟨_, rfl⟩
/-- Behind an entry from p on that does not begin with p comes none that does. -/
theorem beg_gone {p : List UInt8} {x y : List UInt8} (hx : ¬ Lt x p) (hb : ¬ p <+: x) (hxy : Lt x y) : ¬ p <+: y := by
  intro hy
  rcases lt_tot p x with h | h | h
  · exact lt_asy hxy (by obtain ⟨z, rfl⟩ := hy; exact lt_more h hb z)
  · exact hb (by rw [h]; exact List.prefix_refl _)
  · exact hx h
theorem filter_stop {α : Type} {p : α → Bool} {q l : List α} {x : α} (h : q ++ [x] <+: l) (hq : ∀ y ∈ q, p y = true) (hx : p x = false) (hr : ∀ r, q ++ [x] ++ r = l → ∀ y ∈ r, p y = false) : l.filter p = q := by
  obtain ⟨r, hr'⟩ := h
  have := hr r hr'
  rw [← hr', List.filter_append, List.filter_append, filter_all hq, filter_none' this]
  simp [hx]

theorem ents_size {w : World} {n : Nat} : ∀ {t : Tr}, TAt nR w t → ∀ e ∈ ents n t, e.1.size ≤ 140737488351296 := by
  induction n with
  | zero => intro t _ e he; cases he
  | succ n ih =>
    intro t ht e he
    rcases List.mem_append.1 he with h | h
    · unfold ownE at h
      split at h
      · simp at h; subst h; exact ht.psz'
      · cases h
    · obtain ⟨c, hc, h⟩ := List.mem_flatMap.1 h
      exact ih (ht.sub' c hc) e h
theorem fil_size {w : World} {n : Nat} {t : Tr} {lo : ByteArray} (ht : TAt nR w t) : ∀ e ∈ fil n t lo, e.1.size ≤ 140737488351296 := fun e he => ents_size ht e (List.mem_filter.1 he).1
theorem fil_sorted {n : Nat} {t : Tr} (hw : WF t) (lo : ByteArray) : (fil n t lo).Pairwise EnLt := (ents_sorted hw).filter _
theorem fil_ge {n : Nat} {t : Tr} {lo : ByteArray} (hr : t.p = kE) : ∀ e ∈ fil n t lo, ¬ Lt (kyl e) (kyb lo) := fun e he => by
  rw [fil_root hr] at he
  have := (List.mem_filter.1 he).2
  simpa [notLt] using this
theorem und_stop {n : Nat} {t : Tr} {p : ByteArray} (hw : WF t) (hr : t.p = kE) {q : List En} {x : En} (h : q ++ [x] <+: fil n t p) (hq : ∀ y ∈ q, beg p y = true) (hx : beg p x = false) : und n t p = q := by
  refine filter_stop h hq hx fun r hr' y hy => ?_
  have hs := fil_sorted (n := n) hw p
  rw [← hr', List.pairwise_append] at hs
  have h1 : EnLt x y := hs.2.2 x (by simp) y hy
  have hxm : x ∈ fil n t p := by rw [← hr']; simp
  have := beg_gone (fil_ge hr x hxm) (fun h => by unfold beg begB at hx; rw [List.isPrefixOf_iff_prefix.2 h] at hx; cases hx) h1
  unfold beg begB
  rw [Bool.eq_false_iff, ne_eq, List.isPrefixOf_iff_prefix]
  exact this

theorem box_blocks {w w1 : World} {ao : Option Addr} {lo : ByteArray} (h : w1 = (w.alloc (.cells #[.pointer ao] 24)).alloc (.cells #[.string lo] 9)) :
    Below w.heap.size w w1 ∧ w1.heap.size = w.heap.size + 2 ∧ w1.heap[w.heap.size]? = some (.cells #[.pointer ao] 24) ∧ w1.heap[w.heap.size + 1]? = some (.cells #[.string lo] 9) := by
  subst h
  refine ⟨((Below.refl _ w).alloc (Nat.le_refl _) _).alloc (by simp) _, by simp [World.size_alloc], ?_, ?_⟩
  · rw [Below.heap_alloc _ _ _ (by simp)]; exact heap_alloc_new _ _
  · have := heap_alloc_new (w.alloc (.cells #[.pointer ao] 24)) (.cells #[.string lo] 9)
    rwa [World.size_alloc] at this
end Go.Proofs.Ytcdfbbjakkmmoaa
