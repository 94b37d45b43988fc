import Derived.Test.YtcdfbbjakkmmoaaRHasI
import Derived.Test.YtcdfbbjakkmmoaaRInsM
import Derived.Test.YtcdfbbjakkmmoaaXDocM
/- Layer 3 (radix): what a tree holds for a key is what lies at the end of the key's way. -/
namespace Go.Proofs.Ytcdfbbjakkmmoaa
open Go.RowKit
set_option linter.unusedVariables false

theorem has_along {k : ByteArray} {t : Tr} {l : List Tr} (h : Along k.data.toList t l) : ∀ {init : List Tr} {c : Tr}, l = init ++ [c] → WF t → t.path <+: k.data.toList → ∀ x, Has t k.data.toList x ↔ ∃ y, valAt c k = some y ∧ y.x = x := by
  induction h with
  | @stop t h =>
    intro init c hl ht hp x
    have hc : c = t := by
      cases init with
      | nil => simpa using hl.symm
      | cons a r => simp at hl
    subst hc
    have hle := hp.length_le
    rw [path_length, key_len] at hle
    have hno : ∀ d ∈ c.ks, ∀ x, ¬ Has d k.data.toList x := by
      intro d hd x hx
      have h1 := List.find?_eq_none.1 h d hd
      exact h1 (by simpa using hx.pre (ht.kids' _ hd))
    rw [has_tr]
    unfold valAt
    constructor
    · rintro (⟨y, h1, h2, h3⟩ | ⟨d, hd, h1⟩)
      · refine ⟨y, ?_, h3.symm⟩
        have := congrArg List.length h2
        rw [path_length, key_len] at this
        rw [if_neg (by omega)]
        exact h1
      · exact absurd h1 (hno d hd x)
    · rintro ⟨y, h1, h2⟩
      split at h1
      · cases h1
      · exact .inl ⟨y, h1, (path_eq hp (by omega)).symm, h2.symm⟩
  | @go t d l h r ih =>
    intro init c hl ht hp x
    obtain ⟨hd, hdp⟩ := nx_mem h
    have hinit : ∃ i', l = i' ++ [c] := by
      cases init with
      | nil => simp at hl; exact absurd hl.2 r.ne
      | cons a r => simp at hl; exact ⟨r, hl.2⟩
    obtain ⟨i', hi'⟩ := hinit
    rw [← ih hi' (ht.kids' d hd) hdp x]
    have hx := ht.ext' d hd
    constructor
    · intro h1
      obtain ⟨e, he, h2, h3⟩ := h1.down ht (by have := hdp.length_le; rw [path_length] at this; omega)
      have : e = d := ht.inj he hd (by
        rw [h3]
        exact prefix_getD hdp _ (by rw [path_length]; exact hx.2))
      exact this ▸ h2
    · exact fun h1 => .kid hd h1

/-! ### how many -/

end Go.Proofs.Ytcdfbbjakkmmoaa

/- Layer 3 (radix): New. -/
namespace Go.Proofs.Ytcdfbbjakkmmoaa
open Go.RowKit
set_option linter.unusedVariables false

/-- New: a tree of one node. -/
theorem newTree_calls (w : World) : Calls Try.prog 14 #[] w fun e w' => ∃ tb a g, e = .returned (.pointer (some ⟨tb, 0, none⟩)) ∧ Below w.heap.size w w' ∧ TreeAt w' tb (.nd a ⟨#[]⟩ none [] g) 0 ∧ w.heap.size ≤ tb ∧ w.heap.size ≤ a ∧ w.heap.size ≤ g := by
  go_enter Try.func14, Try.ntmps14
  go_wp2_with fail
  refine (newNode_calls _ _ _ _ _ w).mono ?_
  rintro e w1 ⟨rfl, hb1, hs1, hn1, hw1⟩
  have H1 : Hid (Below w.heap.size w w1 ∧ w1.heap.size = w.heap.size + 3 ∧ TAt nR w1 (.nd (w.heap.size + 2) ⟨#[]⟩ none [] (w.heap.size + 1))) :=
    ⟨hb1, hs1, TAt.laid (x := ⟨none, 0, []⟩) hn1 ⟨fun i hi => by simp at hi, Nat.le_refl _, fun _ => rfl⟩ (fun y hy => by cases hy) hw1 (fun t ht => by simp at ht) (by decide)⟩
  clear hb1 hs1 hn1 hw1
  go_wp2
  go_ret
  obtain ⟨hb1, hs1, hT⟩ := H1.out
  have h2 : Below w1.heap.size w1 (w1.alloc (.cells #[.pointer (some ⟨w.heap.size + 2, 0, none⟩), .int .i64 0] 68)) := (Below.refl _ _).alloc (Nat.le_refl _) _
  exact ⟨w1.heap.size, w.heap.size + 2, w.heap.size + 1, rfl, hb1.trans (h2.mono hb1.size), ⟨heap_alloc_new _ _, hT.keep h2⟩, hb1.size, by omega, by omega⟩
end Go.Proofs.Ytcdfbbjakkmmoaa

/- Layer 3 (radix): trees that stand at the end of a walk of ours. -/
namespace Go.Proofs.Ytcdfbbjakkmmoaa
open Go.RowKit
set_option linter.unusedVariables false

abbrev kE : ByteArray := ⟨#[]⟩
theorem root_pre {T : Tr} (h : T.p = kE) (k : List UInt8) : T.path <+: k := by
  unfold Tr.path; rw [h]; exact List.nil_prefix

/-- The texts lie one behind the other at the address. -/
def StrsAt (w : World) (ao : Option Addr) (ks : List ByteArray) : Prop :=
  ∀ i (h : i < ks.length), ∃ b off, ao = some ⟨b, off, none⟩ ∧ w.cell? ⟨b, off + i, none⟩ = some (.string ks[i]) ∧ ks[i].size ≤ 140737488351296
theorem StrsAt.below {w w' : World} {ao : Option Addr} {ks : List ByteArray} (h : StrsAt w ao ks) (hb : Below w.heap.size w w') : StrsAt w' ao ks := by
  intro i hi
  obtain ⟨b, off, ha, h0, hs⟩ := h i hi
  have hl : b < w.heap.size := World.block_lt_of_cell? w _ h0
  exact ⟨b, off, ha, by rw [hb.cell (by exact hl)]; exact h0, hs⟩

/-- A tree that stands at the end of a walk of ours. -/
structure Good (w W : World) (tb : Nat) (T : Tr) (ne : Int) (d : Nat) : Prop where
  below : Below w.heap.size w W
  tree : TreeAt W tb T ne
  wf : WF T
  root : T.p = kE
  dep : Dep (d + 1) T
  lo : 0 ≤ ne
  hi : ne ≤ d

theorem Good.keep {w W W' : World} {tb : Nat} {T : Tr} {ne : Int} {d : Nat} (h : Good w W tb T ne d) (hb : Below W.heap.size W W') : Good w W' tb T ne d :=
  ⟨h.below.trans (hb.mono h.below.size), h.tree.keep hb, h.wf, h.root, h.dep, h.lo, h.hi⟩

theorem along_split {k : List UInt8} {t : Tr} (h : WF t) : ∃ init c, Along k t (init ++ [c]) := by
  obtain ⟨l, hl⟩ := Along.ex h k
  have hne := hl.ne
  exact ⟨l.dropLast, l.getLast hne, by rw [List.dropLast_concat_getLast hne]; exact hl⟩

theorem Good.insert {w W W' : World} {tb tb' : Nat} {T T' : Tr} {ne : Int} {d N : Nat} {k : ByteArray} {v : Vl} {o : Option Vl} (h : Good w W tb T ne d) (hb : Below W.heap.size W W') (ht : TreeAt W' tb' T' (ne + plusNew o)) (hi : InsR N k v T T') : Good w W' tb' T' (ne + plusNew o) (d + 1) := by
  have hw := hi.wf h.wf (root_pre h.root _)
  have hp : 0 ≤ plusNew o ∧ plusNew o ≤ 1 := by unfold plusNew; split <;> omega
  have h1 := h.lo
  have h2 := h.hi
  exact ⟨h.below.trans (hb.mono h.below.size), ht, hw.1, hw.2.trans h.root, hi.dep h.dep, by omega, by omega⟩
end Go.Proofs.Ytcdfbbjakkmmoaa

/- Layer 4 (walk): the entries of a tree, in order. -/
namespace Go.Proofs.Ytcdfbbjakkmmoaa
open Go.RowKit
set_option linter.unusedVariables false

theorem ents_has {n : Nat} : ∀ {t : Tr} {e : En}, e ∈ ents n t → ∃ x, Has t (kyl e) x ∧ intOf x = e.2 := by
  induction n with
  | zero => intro t e he; cases he
  | succ n ih =>
    intro t e he
    rcases List.mem_append.1 he with h | h
    · unfold ownE at h
      split at h
      · rename_i v hv
        simp at h; subst h; exact ⟨v.x, .here hv, rfl⟩
      · cases h
    · obtain ⟨c, hc, h⟩ := List.mem_flatMap.1 h
      obtain ⟨x, hx, e2⟩ := ih h
      exact ⟨x, .kid hc hx, e2⟩
theorem has_ents {t : Tr} {k : List UInt8} {x : Value} (h : Has t k x) : ∀ {n : Nat}, Dep n t → ∃ e ∈ ents n t, kyl e = k ∧ e.2 = intOf x := by
  induction h with
  | @here t v hv =>
    intro n hd
    cases n with
    | zero => cases hd
    | succ n => exact ⟨(t.p, intOf v.x), List.mem_append_left _ (by unfold ownE; rw [hv]; exact List.mem_singleton.2 rfl), rfl, rfl⟩
  | @kid t c k x hc h ih =>
    intro n hd
    cases n with
    | zero => cases hd
    | succ n =>
      obtain ⟨e, he, h1, h2⟩ := ih (hd _ hc)
      exact ⟨e, List.mem_append_right _ (List.mem_flatMap.2 ⟨c, hc, he⟩), h1, h2⟩

/-- The tree holds just the entries es. -/
def HasE (T : Tr) (es : List En) : Prop := ∀ k x, Has T k x ↔ ∃ e ∈ es, kyl e = k ∧ x = .int .i64 e.2

structure Held (w W : World) (tb : Nat) (T : Tr) (ne : Int) (d : Nat) (es : List En) : Prop where
  good : Good w W tb T ne d
  has : HasE T es
  sorted : SortedE es
  cnt : ne = (es.length : Int)

theorem Held.keep {w W W' : World} {tb : Nat} {T : Tr} {ne : Int} {d : Nat} {es : List En} (h : Held w W tb T ne d es) (hb : Below W.heap.size W W') : Held w W' tb T ne d es := ⟨h.good.keep hb, h.has, h.sorted, h.cnt⟩

theorem ents_uniq {T : Tr} {n : Nat} {es : List En} (hd : Dep n T) (hw : WF T) (hh : HasE T es) (hs : SortedE es) : ents n T = es := by
  refine sorted_uniq (r := EnLt) (fun a => lt_irr _) (fun a b c => lt_tr) _ _ (ents_sorted hw) hs fun e => ?_
  constructor
  · intro he
    obtain ⟨x, hx, h1⟩ := ents_has he
    obtain ⟨e', he', h2, rfl⟩ := (hh _ _).1 hx
    have : e' = e := Prod.ext (ky_inj h2) (by rw [← h1]; rfl)
    rw [← this]; exact he'
  · intro he
    obtain ⟨e', he', h2, h3⟩ := has_ents ((hh (kyl e) _).2 ⟨e, he, rfl, rfl⟩) hd
    have : e' = e := Prod.ext (ky_inj h2) (by rw [h3]; rfl)
    rw [← this]; exact he'
theorem Held.ents {w W : World} {tb : Nat} {T : Tr} {ne : Int} {d : Nat} {es : List En} (h : Held w W tb T ne d es) : ents (d + 1) T = es := ents_uniq h.good.dep h.good.wf h.has h.sorted

theorem HasE.nil {a g : Nat} {p : ByteArray} : HasE (.nd a p none [] g) [] := fun k x => by
  rw [has_nd]
  constructor
  · rintro (⟨y, h, -⟩ | ⟨c, h, -⟩)
    · cases h
    · simp at h
  · rintro ⟨e, h, -⟩; simp at h

theorem HasE.insert {T T' : Tr} {es : List En} {N va vg : Nat} {k : ByteArray} {n : Int} (hh : HasE T es) (hs : SortedE es) (hw : WF T) (hp : T.path <+: k.data.toList) (hi : InsR N k ⟨va, .int .i64 n, vg⟩ T T') : HasE T' (insE es k n) := fun k' x => by
  rw [hi.has hw hp, hh]
  constructor
  · rintro (⟨rfl, rfl⟩ | ⟨h1, e, he, rfl, rfl⟩)
    · exact ⟨(k, n), (mem_insE hs).2 (.inl rfl), rfl, rfl⟩
    · exact ⟨e, (mem_insE hs).2 (.inr ⟨fun h2 => h1 (by rw [kyl, h2]), he⟩), rfl, rfl⟩
  · rintro ⟨e, he, rfl, rfl⟩
    rcases (mem_insE hs).1 he with rfl | ⟨h1, h2⟩
    · exact .inl ⟨rfl, rfl⟩
    · exact .inr ⟨fun h3 => h1 (ky_inj h3), e, h2, rfl, rfl⟩

theorem insE_count {es : List En} (hs : SortedE es) (k : ByteArray) (v : Int) : (insE es k v).length = es.length + (if k ∈ keysOf es then 0 else 1) := by
  have hl := keysOf_len es
  have hp := place_le (keysOf es) k
  unfold insE
  by_cases h : k ∈ keysOf es
  · obtain ⟨h1, -⟩ := (place_mem hs.keys).2 h
    rw [if_pos h, if_pos h]; simp; omega
  · rw [if_neg h, if_neg h]; simp; omega
theorem delE_count {es : List En} (hs : SortedE es) {k : ByteArray} (h : k ∈ keysOf es) : (delE es k).length + 1 = es.length := by
  have hl := keysOf_len es
  obtain ⟨h1, -⟩ := (place_mem hs.keys).2 h
  unfold delE
  rw [if_pos h]; simp; omega
theorem delE_none {es : List En} (hs : SortedE es) {k : ByteArray} (h : k ∉ keysOf es) : delE es k = es := by
  unfold delE
  rw [if_neg h, List.take_append_drop]
/-- What stands at the end of a key's way says whether the key is held. -/
theorem HasE.val {T : Tr} {es : List En} {k : ByteArray} {init : List Tr} {c : Tr} (hh : HasE T es) (hw : WF T) (hp : T.path <+: k.data.toList) (hA : Along k.data.toList T (init ++ [c])) : (valAt c k).isSome = decide (k ∈ keysOf es) := by
  rw [Bool.eq_iff_iff, decide_eq_true_eq, Option.isSome_iff_exists]
  constructor
  · rintro ⟨y, hy⟩
    obtain ⟨e, he, h1, -⟩ := (hh _ _).1 ((has_along hA rfl hw hp y.x).2 ⟨y, hy, rfl⟩)
    exact List.mem_map.2 ⟨e, he, ky_inj h1⟩
  · intro hm
    obtain ⟨e, he, h1⟩ := List.mem_map.1 hm
    obtain ⟨y, hy, -⟩ := (has_along hA rfl hw hp _).1 ((hh k.data.toList (.int .i64 e.2)).2 ⟨e, he, by rw [kyl, h1], rfl⟩)
    exact ⟨y, hy⟩
theorem Held.insert {w W W' : World} {tb tb' : Nat} {T T' : Tr} {ne n : Int} {d N va vg : Nat} {k : ByteArray} {o : Option Vl} {es : List En} (h : Held w W tb T ne d es) (hb : Below W.heap.size W W') (ht : TreeAt W' tb' T' (ne + plusNew o)) (hi : InsR N k ⟨va, .int .i64 n, vg⟩ T T') (ho : o.isSome = decide (k ∈ keysOf es)) : Held w W' tb' T' (ne + plusNew o) (d + 1) (insE es k n) := by
  refine ⟨h.good.insert hb ht hi, h.has.insert h.sorted h.good.wf (root_pre h.good.root _) hi, insE_sorted h.sorted _ _, ?_⟩
  have hc := h.cnt
  rw [insE_count h.sorted]
  unfold plusNew
  rw [ho]
  by_cases hk : k ∈ keysOf es
  · rw [decide_eq_true hk, if_pos hk]; simp; omega
  · rw [decide_eq_false hk, if_neg hk]; simp; omega
end Go.Proofs.Ytcdfbbjakkmmoaa
