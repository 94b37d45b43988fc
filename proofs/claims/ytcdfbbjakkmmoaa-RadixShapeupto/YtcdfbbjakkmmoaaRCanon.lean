import Derived.Test.YtcdfbbjakkmmoaaRHasI
import Derived.Test.YtcdfbbjakkmmoaaRDel
import Derived.Test.YtcdfbbjakkmmoaaRGet
import Derived.Test.YtcdfbbjakkmmoaaRDelete
import Derived.Test.YtcdfbbjakkmmoaaXHeldM
import Derived.Test.YtcdfbbjakkmmoaaRHas
/- Layer 3 (radix): what a tree holds behind Delete. -/
namespace Go.Proofs.Ytcdfbbjakkmmoaa
open Go.RowKit
set_option linter.unusedVariables false

theorem has_needed (t : Tr) (k : List UInt8) (x : Value) : (∃ d ∈ neededOf t, Has d k x) ↔ Has t k x := by
  unfold neededOf
  split
  · simp
  · rename_i h
    rw [has_tr]
    simp at h
    constructor
    · exact .inr
    · rintro (⟨y, h1, -⟩ | h1)
      · rw [h.1] at h1; cases h1
      · exact h1

theorem DelR.has {N : Nat} {k : ByteArray} {t T : Tr} (h : DelR N k t T) (ht : WF t) (hp : t.path <+: k.data.toList) : ∀ (k' : List UInt8) (x : Value), Has T k' x ↔ (k' ≠ k.data.toList ∧ Has t k' x) := by
  induction h with
  | @here t a g hs ha hg =>
    intro k' x
    have hpe := path_eq hp hs
    rw [has_tr, has_tr (t := t)]
    simp only [Tr.v, Tr.ks]
    constructor
    · rintro (⟨y, h1, -⟩ | ⟨c, hc, h⟩)
      · cases h1
      · refine ⟨fun e => ?_, .inr ⟨c, hc, h⟩⟩
        have h1 := kid_longer ht hc h
        rw [e, ← hpe, path_length] at h1
        omega
    · rintro ⟨h1, ⟨y, h2, h3, h4⟩ | h2⟩
      · exact absurd (h3.trans hpe) h1
      · exact .inr h2
  | @down t c c' a g hn hs h ha hg ih =>
    obtain ⟨hc, hcp⟩ := nx_mem hn
    obtain ⟨hq, hbq⟩ := there_true hs (nx_there ht hs hn)
    have hcb : c.byte t.p.size = k[t.p.size] := by
      unfold Tr.byte
      exact key_pre hcp (by rw [path_length]; exact (ht.ext' c hc).2) hs
    have hce : t.ks[posn t.ks t.p.size k[t.p.size]] = c := ht.inj (List.getElem_mem hq) hc (by rw [hbq, hcb])
    intro k' x
    have := has_repl ht hq (by rw [key_len]; exact hs) (by rw [hbq, getD_key k _ hs]) (L := neededOf c') (A := fun k' x => False) (fun _ _ h => h.elim) (fun k2 x2 => ?_) a g k' x
    · rw [this]; simp
    · rw [has_needed, hce, ih (ht.kids' c hc) hcp k2 x2]; simp
end Go.Proofs.Ytcdfbbjakkmmoaa

/- Layer 4 (walk): a tree behind Delete. -/
namespace Go.Proofs.Ytcdfbbjakkmmoaa
open Go.RowKit
set_option linter.unusedVariables false

theorem Held.delete {w W W' : World} {tb tb' N : Nat} {T T' : Tr} {ne : Int} {d : Nat} {k : ByteArray} {es : List En} (h : Held w W tb T ne d es) (hb : Below W.heap.size W W') (ht : TreeAt W' tb' T' (ne - 1)) (hi : DelR N k T T') (hk : k ∈ keysOf es) : Held w W' tb' T' (ne - 1) d (delE es k) := by
  have hp := root_pre h.good.root k.data.toList
  have hw := hi.wf h.good.wf hp
  have hc := h.cnt
  have hd := delE_count h.sorted hk
  have h2 := h.good.hi
  refine ⟨⟨h.good.below.trans (hb.mono h.good.below.size), ht, hw.1, hw.2.trans h.good.root, hi.dep h.good.dep, by omega, by omega⟩, fun k' x => ?_, delE_sorted h.sorted _, by omega⟩
  rw [hi.has h.good.wf hp, h.has]
  constructor
  · rintro ⟨h1, e, he, rfl, rfl⟩
    exact ⟨e, (mem_delE h.sorted).2 ⟨fun h3 => h1 (by rw [kyl, h3]), he⟩, rfl, rfl⟩
  · rintro ⟨e, he, rfl, rfl⟩
    obtain ⟨h1, h2⟩ := (mem_delE h.sorted).1 he
    exact ⟨fun h3 => h1 (ky_inj h3), e, h2, rfl, rfl⟩
end Go.Proofs.Ytcdfbbjakkmmoaa

/- Layer 4 (walk): taking out, in lists of entries and in trees. -/
namespace Go.Proofs.Ytcdfbbjakkmmoaa
open Go.RowKit Go.Shelf
set_option linter.unusedVariables false

/-- The entries without those keys. -/
def rmE (es : List En) (ks : List ByteArray) : List En := ks.foldl delE es
theorem rmE_snoc (es : List En) (ks : List ByteArray) (k : ByteArray) : rmE es (ks ++ [k]) = delE (rmE es ks) k := by simp [rmE]
theorem rmE_sorted {es : List En} (hs : SortedE es) (ks : List ByteArray) : SortedE (rmE es ks) := by
  unfold rmE
  induction ks generalizing es with
  | nil => exact hs
  | cons k ks ih => exact ih (delE_sorted hs k)
theorem mem_rmE {es : List En} (hs : SortedE es) (ks : List ByteArray) {x : En} : x ∈ rmE es ks ↔ x ∈ es ∧ x.1 ∉ ks := by
  unfold rmE
  induction ks generalizing es with
  | nil => simp
  | cons k ks ih =>
    rw [List.foldl_cons, ih (delE_sorted hs k), mem_delE hs]
    simp only [List.mem_cons, not_or]
    constructor
    · rintro ⟨⟨h1, h2⟩, h3⟩; exact ⟨h2, h1, h3⟩
    · rintro ⟨h2, h1, h3⟩; exact ⟨⟨h1, h2⟩, h3⟩
theorem rmE_len {es : List En} (ks : List ByteArray) : (rmE es ks).length ≤ es.length := by
  unfold rmE
  induction ks generalizing es with
  | nil => exact Nat.le_refl _
  | cons k ks ih =>
    refine Nat.le_trans ih ?_
    unfold delE
    have := place_le (keysOf es) k
    rw [keysOf_len] at this
    split <;> simp <;> omega
/-- What is left when all beneath p is taken out. -/
def leftE (p : ByteArray) (es : List En) : List En := es.filter fun e => !beg p e
theorem rmE_all {es : List En} (hs : SortedE es) (p : ByteArray) : rmE es ((es.filter (beg p)).map (·.1)) = leftE p es := by
  refine sorted_uniq (r := EnLt) (fun a => lt_irr _) (fun a b c => lt_tr) _ _ (rmE_sorted hs _) (List.Pairwise.filter _ hs) fun x => ?_
  rw [mem_rmE hs]
  unfold leftE
  rw [List.mem_filter]
  constructor
  · rintro ⟨h1, h2⟩
    refine ⟨h1, ?_⟩
    by_cases hb : beg p x = true
    · exact absurd (List.mem_map.2 ⟨x, List.mem_filter.2 ⟨h1, hb⟩, rfl⟩) h2
    · rw [Bool.eq_false_iff.2 hb]; rfl
  · rintro ⟨h1, h2⟩
    refine ⟨h1, fun hm => ?_⟩
    obtain ⟨y, hy, e⟩ := List.mem_map.1 hm
    have hb := (List.mem_filter.1 hy).2
    unfold beg kyl at hb h2
    rw [e] at hb
    rw [hb] at h2
    cases h2

theorem Held.rebase {w w' W : World} {tb : Nat} {T : Tr} {ne : Int} {d : Nat} {es : List En} (h : Held w W tb T ne d es) (hb : Below w'.heap.size w' W) : Held w' W tb T ne d es := ⟨⟨hb, h.good.tree, h.good.wf, h.good.root, h.good.dep, h.good.lo, h.good.hi⟩, h.has, h.sorted, h.cnt⟩
/-- Delete, over a tree that holds just es. -/
theorem delH_calls (tb : Nat) (T : Tr) (ne : Int) (d : Nat) (es : List En) (w₀ w : World) (h : Held w₀ w tb T ne d es) (k : ByteArray) (hk : k.size ≤ 140737488351296) (hd : d + 1 ≤ 17592186044416) :
    Calls Try.prog 9 #[.pointer (some ⟨tb, 0, none⟩), .string k] w fun e w' => ∃ (tb' : Nat) (T' : Tr) (ne' : Int) (r1 : Value) (r2 : Bool), e = .returned (.tuple #[.pointer (some ⟨tb', 0, none⟩), r1, .bool r2]) ∧ Below w.heap.size w w' ∧ Held w₀ w' tb' T' ne' d (delE es k) := by
  obtain ⟨init, c, hA⟩ := along_split (k := k.data.toList) h.good.wf
  have hlen := hA.len h.good.dep
  have hlo := h.good.lo
  have hhi := h.good.hi
  have hv := h.has.val h.good.wf (root_pre h.good.root _) hA
  refine (delete_calls tb T ne k w init c h.good.tree h.good.wf (root_pre h.good.root _) hk hA (by simp at hlen; omega) (by omega) (by omega)).mono ?_
  rintro e w' ⟨hb, (⟨h1, rfl⟩ | ⟨x, tb', T', h1, rfl, ht, hi, -⟩)⟩
  · rw [h1] at hv
    have hno : k ∉ keysOf es := of_decide_eq_false hv.symm
    exact ⟨tb, T, ne, _, _, rfl, hb, by rw [delE_none h.sorted hno]; exact h.keep hb⟩
  · rw [h1] at hv
    have hin : k ∈ keysOf es := of_decide_eq_true hv.symm
    exact ⟨_, _, _, _, _, rfl, hb, h.delete hb ht hi hin⟩

/-- A tree stays where what changes is no part of it. -/
theorem Held.off {w W W' : World} {tb : Nat} {T : Tr} {ne : Int} {d : Nat} {es : List En} (E : Nat → Prop) (h : Held w W tb T ne d es) (hb : Below w.heap.size w W') (hk : ∀ b, b < W.heap.size → ¬ E b → W'.heap[b]? = W.heap[b]?) (hE : ∀ b, E b → ∃ cs ty, W.heap[b]? = some (.cells cs ty) ∧ NP cs ∧ ty ≠ 76 ∧ ty ≠ 97 ∧ ty ≠ 117 ∧ ty ≠ 68) : Held w W' tb T ne d es := by
  refine ⟨⟨hb, ⟨(hk tb (lt_of_heap h.good.tree.blk) (fun he => ?_)).trans h.good.tree.blk, h.good.tree.tat.off E hk (fun b he => ?_)⟩, h.good.wf, h.good.root, h.good.dep, h.good.lo, h.good.hi⟩, h.has, h.sorted, h.cnt⟩
  · obtain ⟨cs, ty, h1, -, -, -, -, h2⟩ := hE _ he
    rw [h.good.tree.blk] at h1
    simp at h1
    exact h2 h1.2.symm
  · obtain ⟨cs, ty, h1, h2, h3, h4, h5, -⟩ := hE _ he
    exact ⟨cs, ty, h1, h2, h3, h4, h5⟩
/-- Another tree is put into a box that holds a tree. -/
theorem Held.put {w W : World} {tb tb₀ nb : Nat} {T : Tr} {ne : Int} {d : Nat} {es : List En} {cs : Array Value} (h : Held w W tb T ne d es) (hnb : w.heap.size ≤ nb) (hbox : W.heap[nb]? = some (.cells #[.pointer (some ⟨tb₀, 0, none⟩)] 24)) (ht : W.heap[tb₀]? = some (.cells cs 68)) (u : Value) : Held w (W.setCell ⟨nb, 0, none⟩ u) tb T ne d es := by
  refine ⟨⟨h.good.below.setCell (p := ⟨nb, 0, none⟩) hnb _, ⟨(heap_setCell_other _ _ _ _ (fun e => ?_)).trans h.good.tree.blk, ((h.good.tree.tat.treeBox hbox ht).poke rfl hbox (by decide) (by decide) (by decide) u).less (fun b hb => hb.elim)⟩, h.good.wf, h.good.root, h.good.dep, h.good.lo, h.good.hi⟩, h.has, h.sorted, h.cnt⟩
  have e' : tb = nb := e
  subst e'
  have h1 := h.good.tree.blk
  rw [hbox] at h1
  simp at h1
theorem Held.grown {w W W' : World} {row : Option Nat} {tb : Nat} {T : Tr} {ne : Int} {d : Nat} {es : List En} (h : Held w W tb T ne d es) (hg : W.grownBy W' row) (hr : ∀ r, row = some r → w.heap.size ≤ r ∧ ∃ o : Obj, W.heap[r]? = some o ∧ isMark o = true) : Held w W' tb T ne d es :=
  ⟨⟨h.good.below.grown hg h.good.below.size (fun r e => (hr r e).1), ⟨heap_kept h.good.tree.blk hg (fun r e => (hr r e).2), h.good.tree.tat.grown hg (fun r e => (hr r e).2)⟩, h.good.wf, h.good.root, h.good.dep, h.good.lo, h.good.hi⟩, h.has, h.sorted, h.cnt⟩
end Go.Proofs.Ytcdfbbjakkmmoaa

/- Layer 3 (radix): what trees hold behind Insert, Delete. -/

/- Layer 3 (radix): Delete keeps trees well made; Insert and Delete keep the canonical form; how many entries; what Get finds. -/
namespace Go.Proofs.Ytcdfbbjakkmmoaa
open Go.RowKit
set_option linter.unusedVariables false

theorem leaf_canon {l g : Nat} {k : ByteArray} {v : Option Vl} : Canon (.nd l k v [] g) := .mk (fun c hc => by simp [Tr.ks] at hc) (fun c hc => by simp [Tr.ks] at hc)
theorem canon_of {a g : Nat} {p : ByteArray} {v : Option Vl} {ks : List Tr} (h : ∀ c ∈ ks, Canon c ∧ Need c) : Canon (.nd a p v ks g) := .mk (fun c hc => (h c hc).1) (fun c hc => (h c hc).2)
theorem Canon.both {t : Tr} (h : Canon t) : ∀ c ∈ t.ks, Canon c ∧ Need c := fun c hc => ⟨h.kids c hc, h.need c hc⟩
theorem canon_repl {t : Tr} (h : Canon t) {a g q r : Nat} {p : ByteArray} {v : Option Vl} {L : List Tr} (hL : ∀ c ∈ L, Canon c ∧ Need c) : Canon (.nd a p v (t.ks.take q ++ L ++ t.ks.drop r) g) :=
  canon_of fun c hc => (mem_repl hc).elim (h.both c) (hL c)

theorem JoinR.canon {N : Nat} {k : ByteArray} {v : Vl} {n T : Tr} (h : JoinR N k v n T) (hn : Canon n ∧ Need n) : Canon T ∧ Need T := by
  cases h with
  | above ha hg hp hl => exact ⟨canon_of fun c hc => by simp at hc; subst hc; exact hn, .inl rfl⟩
  | less => exact ⟨canon_of fun c hc => by simp at hc; rcases hc with rfl | rfl; exact ⟨leaf_canon, .inl rfl⟩; exact hn, .inr (by simp [Tr.ks])⟩
  | more => exact ⟨canon_of fun c hc => by simp at hc; rcases hc with rfl | rfl; exact hn; exact ⟨leaf_canon, .inl rfl⟩, .inr (by simp [Tr.ks])⟩
theorem EntR.canon {N : Nat} {k : ByteArray} {v : Vl} {t T : Tr} (h : EntR N k v t T) (ht : Canon t) : Canon T ∧ (Need t → Need T) := by
  cases h with
  | here ha hg hs => exact ⟨canon_of ht.both, fun _ => .inl rfl⟩
  | leaf ha hg hl hgl hs hno =>
    refine ⟨canon_repl ht fun c hc => by simp at hc; subst hc; exact ⟨leaf_canon, .inl rfl⟩, ?_⟩
    rintro (h | h)
    · exact .inl h
    · refine .inr ?_
      have := posn_le t.ks t.p.size k[t.p.size]
      simp [Tr.ks] at this ⊢
      simp [Tr.ks] at h
      omega
  | @join a g c J ha hg hs hq hc hb hn hJ =>
    refine ⟨canon_repl ht fun d hd => by simp at hd; subst hd; exact hJ.canon (ht.both c (by rw [← hc]; exact List.getElem_mem hq)), ?_⟩
    rintro (h | h)
    · exact .inl h
    · refine .inr ?_
      show 2 ≤ (t.ks.take _ ++ [J] ++ t.ks.drop _).length
      simp only [List.length_append, List.length_take, List.length_drop, List.length_singleton]
      omega
theorem InsR.canon {N : Nat} {k : ByteArray} {v : Vl} {t T : Tr} (h : InsR N k v t T) (hw : WF t) : Canon t → Canon T ∧ (Need t → Need T) := by
  induction h with
  | entry hn h => exact h.canon
  | @down t c c' a g hn hs h ha hg ih =>
    intro ht
    have hc := (nx_mem hn).1
    obtain ⟨hq, hbq⟩ := there_true hs (nx_there hw hs hn)
    obtain ⟨i1, i2⟩ := ih (hw.kids' c hc) (ht.kids c hc)
    refine ⟨canon_repl ht fun d hd => by simp at hd; subst hd; exact ⟨i1, i2 (ht.need c hc)⟩, ?_⟩
    rintro (h | h)
    · exact .inl h
    · refine .inr ?_
      show 2 ≤ (t.ks.take _ ++ [c'] ++ t.ks.drop _).length
      simp only [List.length_append, List.length_take, List.length_drop, List.length_singleton]
      omega
theorem DelR.canon {N : Nat} {k : ByteArray} {t T : Tr} (h : DelR N k t T) : Canon t → Canon T := by
  induction h with
  | here hs ha hg => exact fun ht => canon_of ht.both
  | @down t c c' a g hn hs h ha hg ih =>
    intro ht
    have hc := ih (ht.kids c (nx_mem hn).1)
    refine canon_repl ht fun d hd => ?_
    unfold neededOf at hd
    split at hd
    · rename_i h
      simp at hd
      subst hd
      refine ⟨hc, ?_⟩
      rcases Bool.or_eq_true _ _ ▸ h with h | h
      · exact .inl h
      · exact .inr (by simp at h; omega)
    · exact hc.both d hd

/-! ### how many -/

theorem nodup_le {l m : List (List UInt8)} (hl : l.Nodup) : (∀ a ∈ l, a ∈ m) → l.length ≤ m.length := by
  induction l generalizing m with
  | nil => simp
  | cons a l ih =>
    intro h
    rw [List.nodup_cons] at hl
    have ha := h a (by simp)
    have := ih hl.2 (m := m.erase a) fun b hb => by
      have hne : b ≠ a := fun e => hl.1 (e ▸ hb)
      exact (List.mem_erase_of_ne hne).2 (h b (by simp [hb]))
    rw [List.length_erase_of_mem ha] at this
    have := List.length_pos_of_mem ha
    simp
    omega

/-- The tree holds n keys. -/
def Cnt (t : Tr) (n : Int) : Prop := ∃ l : List (List UInt8), l.Nodup ∧ (∀ k, k ∈ l ↔ ∃ x, Has t k x) ∧ n = l.length
theorem Cnt.uniq {t s : Tr} {n m : Int} (h : Cnt t n) (h' : Cnt s m) (he : ∀ k, (∃ x, Has t k x) ↔ ∃ x, Has s k x) : n = m := by
  obtain ⟨l, h1, h2, rfl⟩ := h
  obtain ⟨r, h3, h4, rfl⟩ := h'
  have a := nodup_le h1 (m := r) fun a ha => (h4 a).2 ((he a).1 ((h2 a).1 ha))
  have b := nodup_le h3 (m := l) fun a ha => (h2 a).2 ((he a).2 ((h4 a).1 ha))
  omega
theorem Cnt.zero (a g : Nat) (p : ByteArray) : Cnt (.nd a p none [] g) 0 :=
  ⟨[], by simp, fun k => by simp [has_nd], rfl⟩
theorem Cnt.more {t T : Tr} {n : Int} {k : List UInt8} {y : Value} (h : Cnt t n) (hT : ∀ k' x, Has T k' x ↔ (k' = k ∧ x = y) ∨ (k' ≠ k ∧ Has t k' x)) (hk : ∀ x, ¬ Has t k x) : Cnt T (n + 1) := by
  obtain ⟨l, h1, h2, rfl⟩ := h
  refine ⟨k :: l, List.nodup_cons.2 ⟨fun e => ?_, h1⟩, fun k' => ?_, by simp⟩
  · obtain ⟨x, hx⟩ := (h2 k).1 e
    exact hk x hx
  · by_cases e : k' = k
    · subst e; simp [hT]
    · simp [hT, e, h2]
theorem Cnt.again {t T : Tr} {n : Int} {k : List UInt8} {y z : Value} (h : Cnt t n) (hT : ∀ k' x, Has T k' x ↔ (k' = k ∧ x = y) ∨ (k' ≠ k ∧ Has t k' x)) (hk : Has t k z) : Cnt T n := by
  obtain ⟨l, h1, h2, rfl⟩ := h
  refine ⟨l, h1, fun k' => ?_, rfl⟩
  rw [h2]
  by_cases e : k' = k
  · subst e
    exact ⟨fun _ => ⟨y, (hT _ _).2 (.inl ⟨rfl, rfl⟩)⟩, fun _ => ⟨z, hk⟩⟩
  · simp [hT, e]
theorem Cnt.less {t T : Tr} {n : Int} {k : List UInt8} {z : Value} (h : Cnt t n) (hT : ∀ k' x, Has T k' x ↔ (k' ≠ k ∧ Has t k' x)) (hk : Has t k z) : Cnt T (n - 1) := by
  obtain ⟨l, h1, h2, rfl⟩ := h
  have hm : k ∈ l := (h2 k).2 ⟨z, hk⟩
  refine ⟨l.erase k, h1.erase k, fun k' => ?_, ?_⟩
  · rw [h1.mem_erase_iff, h2]
    simp [hT]
  · rw [List.length_erase_of_mem hm]
    have := List.length_pos_of_mem hm
    omega
end Go.Proofs.Ytcdfbbjakkmmoaa
