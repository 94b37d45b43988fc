import Derived.Test.YtcdfbbjakkmmoaaXOrd
import Derived.Test.YtcdfbbjakkmmoaaRHas0
import Derived.Test.YtcdfbbjakkmmoaaXDocM
import Derived.Test.YtcdfbbjakkmmoaaRClone
/- Layer 4 (walk): the entries of a tree, in order. -/
namespace Go.Proofs.Ytcdfbbjakkmmoaa
open Go.RowKit
set_option linter.unusedVariables false

theorem ents_has {n : Nat} : ∀ {t : Tr} {e : En}, e ∈ ents n t → ∃ x, Has t (kyl e) x ∧ intOf x = e.2 := by
  induction n with
  | zero => intro t e he; cases he
  | succ n ih =>
    intro t e he
    rcases List.mem_append.1 he with h | h
    · unfold ownE at h
      split at h
      · rename_i v hv
        simp at h; subst h; exact ⟨v.x, .here hv, rfl⟩
      · cases h
    · obtain ⟨c, hc, h⟩ := List.mem_flatMap.1 h
      obtain ⟨x, hx, e2⟩ := ih h
      exact ⟨x, .kid hc hx, e2⟩
theorem has_ents {t : Tr} {k : List UInt8} {x : Value} (h : Has t k x) : ∀ {n : Nat}, Dep n t → ∃ e ∈ ents n t, kyl e = k ∧ e.2 = intOf x := by
  induction h with
  | @here t v hv =>
    intro n hd
    cases n with
    | zero => cases hd
    | succ n => exact ⟨(t.p, intOf v.x), List.mem_append_left _ (by unfold ownE; rw [hv]; exact List.mem_singleton.2 rfl), rfl, rfl⟩
  | @kid t c k x hc h ih =>
    intro n hd
    cases n with
    | zero => cases hd
    | succ n =>
      obtain ⟨e, he, h1, h2⟩ := ih (hd _ hc)
      exact ⟨e, List.mem_append_right _ (List.mem_flatMap.2 ⟨c, hc, he⟩), h1, h2⟩

/-- The tree holds just the entries es. -/
def HasE (T : Tr) (es : List En) : Prop := ∀ k x, Has T k x ↔ ∃ e ∈ es, kyl e = k ∧ x = .int .i64 e.2

structure Held (w W : World) (tb : Nat) (T : Tr) (ne : Int) (d : Nat) (es : List En) : Prop where
  good : Good w W tb T ne d
  has : HasE T es
  sorted : SortedE es
  cnt : ne = (es.length : Int)

theorem Held.keep {w W W' : World} {tb : Nat} {T : Tr} {ne : Int} {d : Nat} {es : List En} (h : Held w W tb T ne d es) (hb : Below W.heap.size W W') : Held w W' tb T ne d es := ⟨h.good.keep hb, h.has, h.sorted, h.cnt⟩

theorem ents_uniq {T : Tr} {n : Nat} {es : List En} (hd : Dep n T) (hw : WF T) (hh : HasE T es) (hs : SortedE es) : ents n T = es := by
  refine sorted_uniq (r := EnLt) (fun a => lt_irr _) (fun a b c => lt_tr) _ _ (ents_sorted hw) hs fun e => ?_
  constructor
  · intro he
    obtain ⟨x, hx, h1⟩ := ents_has he
    obtain ⟨e', he', h2, rfl⟩ := (hh _ _).1 hx
    have : e' = e := Prod.ext (ky_inj h2) (by rw [← h1]; rfl)
    rw [← this]; exact he'
  · intro he
    obtain ⟨e', he', h2, h3⟩ := has_ents ((hh (kyl e) _).2 ⟨e, he, rfl, rfl⟩) hd
    have : e' = e := Prod.ext (ky_inj h2) (by rw [h3]; rfl)
    rw [← this]; exact he'
theorem Held.ents {w W : World} {tb : Nat} {T : Tr} {ne : Int} {d : Nat} {es : List En} (h : Held w W tb T ne d es) : ents (d + 1) T = es := ents_uniq h.good.dep h.good.wf h.has h.sorted

theorem HasE.nil {a g : Nat} {p : ByteArray} : HasE (.nd a p none [] g) [] := fun k x => by
  rw [has_nd]
  constructor
  · rintro (⟨y, h, -⟩ | ⟨c, h, -⟩)
    · cases h
    · simp at h
  · rintro ⟨e, h, -⟩; simp at h

theorem HasE.insert {T T' : Tr} {es : List En} {N va vg : Nat} {k : ByteArray} {n : Int} (hh : HasE T es) (hs : SortedE es) (hw : WF T) (hp : T.path <+: k.data.toList) (hi : InsR N k ⟨va, .int .i64 n, vg⟩ T T') : HasE T' (insE es k n) := fun k' x => by
  rw [hi.has hw hp, hh]
  constructor
  · rintro (⟨rfl, rfl⟩ | ⟨h1, e, he, rfl, rfl⟩)
    · exact ⟨(k, n), (mem_insE hs).2 (.inl rfl), rfl, rfl⟩
    · exact ⟨e, (mem_insE hs).2 (.inr ⟨fun h2 => h1 (by rw [kyl, h2]), he⟩), rfl, rfl⟩
  · rintro ⟨e, he, rfl, rfl⟩
    rcases (mem_insE hs).1 he with rfl | ⟨h1, h2⟩
    · exact .inl ⟨rfl, rfl⟩
    · exact .inr ⟨fun h3 => h1 (ky_inj h3), e, h2, rfl, rfl⟩

theorem insE_count {es : List En} (hs : SortedE es) (k : ByteArray) (v : Int) : (insE es k v).length = es.length + (if k ∈ keysOf es then 0 else 1) := by
  have hl := keysOf_len es
  have hp := place_le (keysOf es) k
  unfold insE
  by_cases h : k ∈ keysOf es
  · obtain ⟨h1, -⟩ := (place_mem hs.keys).2 h
    rw [if_pos h, if_pos h]; simp; omega
  · rw [if_neg h, if_neg h]; simp; omega
theorem delE_count {es : List En} (hs : SortedE es) {k : ByteArray} (h : k ∈ keysOf es) : (delE es k).length + 1 = es.length := by
  have hl := keysOf_len es
  obtain ⟨h1, -⟩ := (place_mem hs.keys).2 h
  unfold delE
  rw [if_pos h]; simp; omega
theorem delE_none {es : List En} (hs : SortedE es) {k : ByteArray} (h : k ∉ keysOf es) : delE es k = es := by
  unfold delE
  rw [if_neg h, List.take_append_drop]
/-- What stands at the end of a key's way says whether the key is held. -/
theorem HasE.val {T : Tr} {es : List En} {k : ByteArray} {init : List Tr} {c : Tr} (hh : HasE T es) (hw : WF T) (hp : T.path <+: k.data.toList) (hA : Along k.data.toList T (init ++ [c])) : (valAt c k).isSome = decide (k ∈ keysOf es) := by
  rw [Bool.eq_iff_iff, decide_eq_true_eq, Option.isSome_iff_exists]
  constructor
  · rintro ⟨y, hy⟩
    obtain ⟨e, he, h1, -⟩ := (hh _ _).1 ((has_along hA rfl hw hp y.x).2 ⟨y, hy, rfl⟩)
    exact List.mem_map.2 ⟨e, he, ky_inj h1⟩
  · intro hm
    obtain ⟨e, he, h1⟩ := List.mem_map.1 hm
    obtain ⟨y, hy, -⟩ := (has_along hA rfl hw hp _).1 ((hh k.data.toList (.int .i64 e.2)).2 ⟨e, he, by rw [kyl, h1], rfl⟩)
    exact ⟨y, hy⟩
theorem Held.insert {w W W' : World} {tb tb' : Nat} {T T' : Tr} {ne n : Int} {d N va vg : Nat} {k : ByteArray} {o : Option Vl} {es : List En} (h : Held w W tb T ne d es) (hb : Below W.heap.size W W') (ht : TreeAt W' tb' T' (ne + plusNew o)) (hi : InsR N k ⟨va, .int .i64 n, vg⟩ T T') (ho : o.isSome = decide (k ∈ keysOf es)) : Held w W' tb' T' (ne + plusNew o) (d + 1) (insE es k n) := by
  refine ⟨h.good.insert hb ht hi, h.has.insert h.sorted h.good.wf (root_pre h.good.root _) hi, insE_sorted h.sorted _ _, ?_⟩
  have hc := h.cnt
  rw [insE_count h.sorted]
  unfold plusNew
  rw [ho]
  by_cases hk : k ∈ keysOf es
  · rw [decide_eq_true hk, if_pos hk]; simp; omega
  · rw [decide_eq_false hk, if_neg hk]; simp; omega
end Go.Proofs.Ytcdfbbjakkmmoaa

/- Layer 3 (radix): Len, Get. -/
namespace Go.Proofs.Ytcdfbbjakkmmoaa
open Go.RowKit
set_option linter.unusedVariables false

theorem len_calls (tb : Nat) (t : Tr) (n : Int) (w : World) (h : TreeAt w tb t n) : Calls Try.prog 22 #[.pointer (some ⟨tb, 0, none⟩)] w fun e w' => e = .returned (.int .i64 n) ∧ w' = w := by
  have c1 : w.cell? ⟨tb, 1, none⟩ = some (.int .i64 n) := by rw [cell_of_blk h.blk]; rfl
  clear h
  go_enter Try.func22, Try.ntmps22
  go_wp2
  go_ret
  exact ⟨rfl, rfl⟩

theorem get_tree (tb : Nat) (t : Tr) (n : Int) (k : ByteArray) (w : World) (init : List Tr) (c : Tr) (h : TreeAt w tb t n) (hw : WF t) (hp : t.path <+: k.data.toList) (hks : k.size ≤ 140737488351296) (hA : Along k.data.toList t (init ++ [c])) :
    Calls Try.prog 41 #[.pointer (some ⟨tb, 0, none⟩), .string k] w fun e w' => e = .returned (.tuple #[held (valAt c k), .bool (valAt c k).isSome]) ∧ Below w.heap.size w w' := by
  have c0 : w.cell? ⟨tb, 0, none⟩ = some (.pointer (some ⟨t.a, 0, none⟩)) := by rw [cell_of_blk h.blk]; rfl
  have HV := valueOf_calls t k w init c hA h.tat hw hp hks
  have hv : ∀ x, valAt c k = some x → VAt anyO w x := fun x hx => by
    unfold valAt at hx
    split at hx
    · cases hx
    · exact (along_tat hA h.tat c (by simp)).val' x hx
  have HVV : Hid (∀ x, valAt c k = some x → VAt anyO w x) := hv
  clear h hw hp hA hv
  go_enter Try.func41, Try.ntmps41
  go_wp2_with fail
  refine HV.mono ?_
  clear HV
  rintro e w1 ⟨rfl, hb1⟩
  have HG := get_calls (valAt c k) w1 (fun x hx => (HVV.out x hx).below hb1)
  have HB : Hid (Below w.heap.size w w1) := hb1
  clear hb1 c0
  go_wp2_with fail
  refine HG.mono ?_
  clear HG
  rintro e w2 ⟨rfl, rfl⟩
  go_wp2
  go_ret2
  exact ⟨rfl, HB.out⟩
end Go.Proofs.Ytcdfbbjakkmmoaa
