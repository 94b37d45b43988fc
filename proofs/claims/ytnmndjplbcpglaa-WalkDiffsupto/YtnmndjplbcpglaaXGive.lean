import Derived.Test.YtnmndjplbcpglaaRHasI
import Derived.Test.YtnmndjplbcpglaaRHas0
import Derived.Test.YtnmndjplbcpglaaXDocM
import Derived.Test.YtnmndjplbcpglaaXFind
import Derived.Test.YtnmndjplbcpglaaXLaw
/- Layer 3 (radix): what a tree holds for a key is what lies at the end of the key's way. -/
namespace Go.Proofs.Ytnmndjplbcpglaa
open Go.RowKit
set_option linter.unusedVariables false

theorem has_along {k : ByteArray} {t : Tr} {l : List Tr} (h : Along k.data.toList t l) : ∀ {init : List Tr} {c : Tr}, l = init ++ [c] → WF t → t.path <+: k.data.toList → ∀ x, Has t k.data.toList x ↔ ∃ y, valAt c k = some y ∧ y.x = x := by
  induction h with
  | @stop t h =>
    intro init c hl ht hp x
    have hc : c = t := by
      cases init with
      | nil => simpa using hl.symm
      | cons a r => simp at hl
    subst hc
    have hle := hp.length_le
    rw [path_length, key_len] at hle
    have hno : ∀ d ∈ c.ks, ∀ x, ¬ Has d k.data.toList x := by
      intro d hd x hx
      have h1 := List.find?_eq_none.1 h d hd
      exact h1 (by simpa using hx.pre (ht.kids' _ hd))
    rw [has_tr]
    unfold valAt
    constructor
    · rintro (⟨y, h1, h2, h3⟩ | ⟨d, hd, h1⟩)
      · refine ⟨y, ?_, h3.symm⟩
        have := congrArg List.length h2
        rw [path_length, key_len] at this
        rw [if_neg (by omega)]
        exact h1
      · exact absurd h1 (hno d hd x)
    · rintro ⟨y, h1, h2⟩
      split at h1
      · cases h1
      · exact .inl ⟨y, h1, (path_eq hp (by omega)).symm, h2.symm⟩
  | @go t d l h r ih =>
    intro init c hl ht hp x
    obtain ⟨hd, hdp⟩ := nx_mem h
    have hinit : ∃ i', l = i' ++ [c] := by
      cases init with
      | nil => simp at hl; exact absurd hl.2 r.ne
      | cons a r => simp at hl; exact ⟨r, hl.2⟩
    obtain ⟨i', hi'⟩ := hinit
    rw [← ih hi' (ht.kids' d hd) hdp x]
    have hx := ht.ext' d hd
    constructor
    · intro h1
      obtain ⟨e, he, h2, h3⟩ := h1.down ht (by have := hdp.length_le; rw [path_length] at this; omega)
      have : e = d := ht.inj he hd (by
        rw [h3]
        exact prefix_getD hdp _ (by rw [path_length]; exact hx.2))
      exact this ▸ h2
    · exact fun h1 => .kid hd h1

/-! ### how many -/

end Go.Proofs.Ytnmndjplbcpglaa

/- Layer 3 (radix): trees that stand at the end of a walk of ours. -/
namespace Go.Proofs.Ytnmndjplbcpglaa
open Go.RowKit
set_option linter.unusedVariables false

abbrev kE : ByteArray := ⟨#[]⟩
theorem root_pre {T : Tr} (h : T.p = kE) (k : List UInt8) : T.path <+: k := by
  unfold Tr.path; rw [h]; exact List.nil_prefix

/-- The texts lie one behind the other at the address. -/
def StrsAt (w : World) (ao : Option Addr) (ks : List ByteArray) : Prop :=
  ∀ i (h : i < ks.length), ∃ b off, ao = some ⟨b, off, none⟩ ∧ w.cell? ⟨b, off + i, none⟩ = some (.string ks[i]) ∧ ks[i].size ≤ 140737488351296
theorem StrsAt.below {w w' : World} {ao : Option Addr} {ks : List ByteArray} (h : StrsAt w ao ks) (hb : Below w.heap.size w w') : StrsAt w' ao ks := by
  intro i hi
  obtain ⟨b, off, ha, h0, hs⟩ := h i hi
  have hl : b < w.heap.size := World.block_lt_of_cell? w _ h0
  exact ⟨b, off, ha, by rw [hb.cell (by exact hl)]; exact h0, hs⟩

/-- A tree that stands at the end of a walk of ours. -/
structure Good (w W : World) (tb : Nat) (T : Tr) (ne : Int) (d : Nat) : Prop where
  below : Below w.heap.size w W
  tree : TreeAt W tb T ne
  wf : WF T
  root : T.p = kE
  dep : Dep (d + 1) T
  lo : 0 ≤ ne
  hi : ne ≤ d

theorem Good.keep {w W W' : World} {tb : Nat} {T : Tr} {ne : Int} {d : Nat} (h : Good w W tb T ne d) (hb : Below W.heap.size W W') : Good w W' tb T ne d :=
  ⟨h.below.trans (hb.mono h.below.size), h.tree.keep hb, h.wf, h.root, h.dep, h.lo, h.hi⟩

theorem along_split {k : List UInt8} {t : Tr} (h : WF t) : ∃ init c, Along k t (init ++ [c]) := by
  obtain ⟨l, hl⟩ := Along.ex h k
  have hne := hl.ne
  exact ⟨l.dropLast, l.getLast hne, by rw [List.dropLast_concat_getLast hne]; exact hl⟩

theorem Good.insert {w W W' : World} {tb tb' : Nat} {T T' : Tr} {ne : Int} {d N : Nat} {k : ByteArray} {v : Vl} {o : Option Vl} (h : Good w W tb T ne d) (hb : Below W.heap.size W W') (ht : TreeAt W' tb' T' (ne + plusNew o)) (hi : InsR N k v T T') : Good w W' tb' T' (ne + plusNew o) (d + 1) := by
  have hw := hi.wf h.wf (root_pre h.root _)
  have hp : 0 ≤ plusNew o ∧ plusNew o ≤ 1 := by unfold plusNew; split <;> omega
  have h1 := h.lo
  have h2 := h.hi
  exact ⟨h.below.trans (hb.mono h.below.size), ht, hw.1, hw.2.trans h.root, hi.dep h.dep, by omega, by omega⟩
end Go.Proofs.Ytnmndjplbcpglaa

/- Layer 4 (walk): the entries of a tree, in order. -/
namespace Go.Proofs.Ytnmndjplbcpglaa
open Go.RowKit
set_option linter.unusedVariables false

theorem ents_has {n : Nat} : ∀ {t : Tr} {e : En}, e ∈ ents n t → ∃ x, Has t (kyl e) x ∧ intOf x = e.2 := by
  induction n with
  | zero => intro t e he; cases he
  | succ n ih =>
    intro t e he
    rcases List.mem_append.1 he with h | h
    · unfold ownE at h
      split at h
      · rename_i v hv
        simp at h; subst h; exact ⟨v.x, .here hv, rfl⟩
      · cases h
    · obtain ⟨c, hc, h⟩ := List.mem_flatMap.1 h
      obtain ⟨x, hx, e2⟩ := ih h
      exact ⟨x, .kid hc hx, e2⟩
theorem has_ents {t : Tr} {k : List UInt8} {x : Value} (h : Has t k x) : ∀ {n : Nat}, Dep n t → ∃ e ∈ ents n t, kyl e = k ∧ e.2 = intOf x := by
  induction h with
  | @here t v hv =>
    intro n hd
    cases n with
    | zero => cases hd
    | succ n => exact ⟨(t.p, intOf v.x), List.mem_append_left _ (by unfold ownE; rw [hv]; exact List.mem_singleton.2 rfl), rfl, rfl⟩
  | @kid t c k x hc h ih =>
    intro n hd
    cases n with
    | zero => cases hd
    | succ n =>
      obtain ⟨e, he, h1, h2⟩ := ih (hd _ hc)
      exact ⟨e, List.mem_append_right _ (List.mem_flatMap.2 ⟨c, hc, he⟩), h1, h2⟩

/-- The tree holds just the entries es. -/
def HasE (T : Tr) (es : List En) : Prop := ∀ k x, Has T k x ↔ ∃ e ∈ es, kyl e = k ∧ x = .int .i64 e.2

structure Held (w W : World) (tb : Nat) (T : Tr) (ne : Int) (d : Nat) (es : List En) : Prop where
  good : Good w W tb T ne d
  has : HasE T es
  sorted : SortedE es
  cnt : ne = (es.length : Int)

theorem Held.keep {w W W' : World} {tb : Nat} {T : Tr} {ne : Int} {d : Nat} {es : List En} (h : Held w W tb T ne d es) (hb : Below W.heap.size W W') : Held w W' tb T ne d es := ⟨h.good.keep hb, h.has, h.sorted, h.cnt⟩

theorem ents_uniq {T : Tr} {n : Nat} {es : List En} (hd : Dep n T) (hw : WF T) (hh : HasE T es) (hs : SortedE es) : ents n T = es := by
  refine sorted_uniq (r := EnLt) (fun a => lt_irr _) (fun a b c => lt_tr) _ _ (ents_sorted hw) hs fun e => ?_
  constructor
  · intro he
    obtain ⟨x, hx, h1⟩ := ents_has he
    obtain ⟨e', he', h2, rfl⟩ := (hh _ _).1 hx
    have : e' = e := Prod.ext (ky_inj h2) (by rw [← h1]; rfl)
    rw [← this]; exact he'
  · intro he
    obtain ⟨e', he', h2, h3⟩ := has_ents ((hh (kyl e) _).2 ⟨e, he, rfl, rfl⟩) hd
    have : e' = e := Prod.ext (ky_inj h2) (by rw [h3]; rfl)
    rw [← this]; exact he'
theorem Held.ents {w W : World} {tb : Nat} {T : Tr} {ne : Int} {d : Nat} {es : List En} (h : Held w W tb T ne d es) : ents (d + 1) T = es := ents_uniq h.good.dep h.good.wf h.has h.sorted

theorem HasE.nil {a g : Nat} {p : ByteArray} : HasE (.nd a p none [] g) [] := fun k x => by
  rw [has_nd]
  constructor
  · rintro (⟨y, h, -⟩ | ⟨c, h, -⟩)
    · cases h
    · simp at h
  · rintro ⟨e, h, -⟩; simp at h

theorem HasE.insert {T T' : Tr} {es : List En} {N va vg : Nat} {k : ByteArray} {n : Int} (hh : HasE T es) (hs : SortedE es) (hw : WF T) (hp : T.path <+: k.data.toList) (hi : InsR N k ⟨va, .int .i64 n, vg⟩ T T') : HasE T' (insE es k n) := fun k' x => by
  rw [hi.has hw hp, hh]
  constructor
  · rintro (⟨rfl, rfl⟩ | ⟨h1, e, he, rfl, rfl⟩)
    · exact ⟨(k, n), (mem_insE hs).2 (.inl rfl), rfl, rfl⟩
    · exact ⟨e, (mem_insE hs).2 (.inr ⟨fun h2 => h1 (by rw [kyl, h2]), he⟩), rfl, rfl⟩
  · rintro ⟨e, he, rfl, rfl⟩
    rcases (mem_insE hs).1 he with rfl | ⟨h1, h2⟩
    · exact .inl ⟨rfl, rfl⟩
    · exact .inr ⟨fun h3 => h1 (ky_inj h3), e, h2, rfl, rfl⟩

theorem insE_count {es : List En} (hs : SortedE es) (k : ByteArray) (v : Int) : (insE es k v).length = es.length + (if k ∈ keysOf es then 0 else 1) := by
  have hl := keysOf_len es
  have hp := place_le (keysOf es) k
  unfold insE
  by_cases h : k ∈ keysOf es
  · obtain ⟨h1, -⟩ := (place_mem hs.keys).2 h
    rw [if_pos h, if_pos h]; simp; omega
  · rw [if_neg h, if_neg h]; simp; omega
theorem delE_count {es : List En} (hs : SortedE es) {k : ByteArray} (h : k ∈ keysOf es) : (delE es k).length + 1 = es.length := by
  have hl := keysOf_len es
  obtain ⟨h1, -⟩ := (place_mem hs.keys).2 h
  unfold delE
  rw [if_pos h]; simp; omega
theorem delE_none {es : List En} (hs : SortedE es) {k : ByteArray} (h : k ∉ keysOf es) : delE es k = es := by
  unfold delE
  rw [if_neg h, List.take_append_drop]
/-- What stands at the end of a key's way says whether the key is held. -/
theorem HasE.val {T : Tr} {es : List En} {k : ByteArray} {init : List Tr} {c : Tr} (hh : HasE T es) (hw : WF T) (hp : T.path <+: k.data.toList) (hA : Along k.data.toList T (init ++ [c])) : (valAt c k).isSome = decide (k ∈ keysOf es) := by
  rw [Bool.eq_iff_iff, decide_eq_true_eq, Option.isSome_iff_exists]
  constructor
  · rintro ⟨y, hy⟩
    obtain ⟨e, he, h1, -⟩ := (hh _ _).1 ((has_along hA rfl hw hp y.x).2 ⟨y, hy, rfl⟩)
    exact List.mem_map.2 ⟨e, he, ky_inj h1⟩
  · intro hm
    obtain ⟨e, he, h1⟩ := List.mem_map.1 hm
    obtain ⟨y, hy, -⟩ := (has_along hA rfl hw hp _).1 ((hh k.data.toList (.int .i64 e.2)).2 ⟨e, he, by rw [kyl, h1], rfl⟩)
    exact ⟨y, hy⟩
theorem Held.insert {w W W' : World} {tb tb' : Nat} {T T' : Tr} {ne n : Int} {d N va vg : Nat} {k : ByteArray} {o : Option Vl} {es : List En} (h : Held w W tb T ne d es) (hb : Below W.heap.size W W') (ht : TreeAt W' tb' T' (ne + plusNew o)) (hi : InsR N k ⟨va, .int .i64 n, vg⟩ T T') (ho : o.isSome = decide (k ∈ keysOf es)) : Held w W' tb' T' (ne + plusNew o) (d + 1) (insE es k n) := by
  refine ⟨h.good.insert hb ht hi, h.has.insert h.sorted h.good.wf (root_pre h.good.root _) hi, insE_sorted h.sorted _ _, ?_⟩
  have hc := h.cnt
  rw [insE_count h.sorted]
  unfold plusNew
  rw [ho]
  by_cases hk : k ∈ keysOf es
  · rw [decide_eq_true hk, if_pos hk]; simp; omega
  · rw [decide_eq_false hk, if_neg hk]; simp; omega
end Go.Proofs.Ytnmndjplbcpglaa

/- Layer 4 (walk): bound, give. -/
namespace Go.Proofs.Ytnmndjplbcpglaa
open Go.RowKit Go.Shelf
set_option linter.unusedVariables false
attribute [local go_sem] Oper.semAt_some

/-! ### bound -/
def cutB (lo p : ByteArray) : ByteArray := if begB lo.data.toList p.data.toList then lo.extract p.size lo.size else lo

set_option maxHeartbeats 400000 in
theorem cutL_calls (s p : ByteArray) (w : World) (hs : s.size ≤ 140737488355328) (hp : p.size ≤ 140737488355328) :
    Calls Try.prog 82 #[.string s, .string p] w fun e w' => e = .returned (.tuple #[.string (cutB s p), .bool (begB s.data.toList p.data.toList)]) ∧ w' = w := by
  have HH := hasPrefixL_calls s p w (by omega) (by omega)
  by_cases hb : begB s.data.toList p.data.toList = true
  · have hc : cutB s p = s.extract p.size s.size := if_pos hb
    have hle : p.size ≤ s.size := by
      have := (List.isPrefixOf_iff_prefix.1 hb).length_le
      simpa using this
    rw [hb] at HH
    rw [hc, hb]
    clear hb hc
    go_enter Try.func82, Try.ntmps82
    go_wp2_with fail
    refine HH.mono ?_
    clear HH
    rintro e w1 ⟨rfl, rfl⟩
    go_wp2
    go_ret2
    exact ⟨rfl, rfl⟩
  · have hb' := Bool.eq_false_iff.2 hb
    have hc : cutB s p = s := if_neg hb
    rw [hb'] at HH
    rw [hc, hb']
    clear hb hc hb'
    go_enter Try.func82, Try.ntmps82
    go_wp2_with fail
    refine HH.mono ?_
    clear HH
    rintro e w1 ⟨rfl, rfl⟩
    go_wp2
    go_ret2
    exact ⟨rfl, rfl⟩
theorem cut_calls (s p : ByteArray) (w : World) (hs : s.size ≤ 140737488355328) (hp : p.size ≤ 140737488355328) :
    Calls Try.prog 80 #[.string s, .string p] w fun e w' => e = .returned (.tuple #[.string (cutB s p), .bool (begB s.data.toList p.data.toList)]) ∧ w' = w := by
  have HH := cutL_calls s p w hs hp
  go_enter Try.func80, Try.ntmps80
  go_wp2_with fail
  refine HH.mono ?_
  clear HH
  rintro e w1 ⟨rfl, rfl⟩
  go_wp2
  go_ret2
  exact ⟨rfl, rfl⟩

def bndL (pc lo : ByteArray) : ByteArray := if Lt (kyb pc) (kyb lo) then cutB lo pc else ⟨#[]⟩
def bndB (pc lo : ByteArray) : Bool := if Lt (kyb pc) (kyb lo) then begB lo.data.toList pc.data.toList else true

theorem bound_calls (pc lo : ByteArray) (w : World) (hs : pc.size ≤ 140737488355328) (hp : lo.size ≤ 140737488355328) :
    Calls Try.prog 65 #[.string pc, .string lo] w fun e w' => e = .returned (.tuple #[.string (bndL pc lo), .bool (bndB pc lo)]) ∧ w' = w := by
  have HH := cut_calls lo pc w hp hs
  have hlt := less_lt pc lo
  unfold bndL bndB
  by_cases h : Lt (kyb pc) (kyb lo)
  · rw [if_pos h, if_pos h]
    rw [decide_eq_true (show Lt pc.data.toList lo.data.toList from h)] at hlt
    go_enter Try.func65, Try.ntmps65
    go_wp2_with fail
    refine HH.mono ?_
    clear HH
    rintro e w1 ⟨rfl, rfl⟩
    go_wp2
    go_ret2
    exact ⟨rfl, rfl⟩
  · rw [if_neg h, if_neg h]
    rw [decide_eq_false (show ¬ Lt pc.data.toList lo.data.toList from h)] at hlt
    go_enter Try.func65, Try.ntmps65
    go_wp2_with fail
    go_ret2
    exact ⟨rfl, rfl⟩

/-! ### rounds -/
theorem wide_room (k : Nat) : Fence.wide.room k := fun d h => by cases h
theorem RoundIn.anyW {m m' : Nat} {P : Program} {l : Nat} {f : FuncId} {tmps : Array Value} {assign body : Code} {w : World} {R : Ending → World → Prop}
    (h : RoundIn Fence.wide m P l f tmps assign body w R) : RoundIn Fence.wide m' P l f tmps assign body w R := ⟨h.1, fun c cs _ => h.2 c cs (wide_room _)⟩
theorem YieldAt.anyW {m : Nat} (m' : Nat) {P : Program} {l : Nat} {args : Array Value} {W : World} {R : Ending → World → Prop} (h : YieldAt Fence.wide m P l args W R) : YieldAt Fence.wide m' P l args W R := by
  obtain ⟨fn, tmps, assign, body, hy, hR⟩ := h
  exact ⟨fn, tmps, assign, body, hy, RoundIn.anyW hR⟩

/-- The block's kind is one that a walk over a tree reads. -/
def KTy (ty : TypeId) : Prop := ty = 63 ∨ ty = 9 ∨ ty = 24 ∨ ty = 59
/-- What a round must leave as it was: what lay ahead, and what the walk itself has made. -/
structure Kp (n₀ : Nat) (X : Nat → Prop) (W W' : World) : Prop where
  below : Below n₀ W W'
  kept : ∀ b cs ty, W.heap[b]? = some (.cells cs ty) → KTy ty → ¬ X b → W'.heap[b]? = W.heap[b]?
theorem Kp.trans {n₀ : Nat} {X : Nat → Prop} {A B C : World} (h : Kp n₀ X A B) (k : Kp n₀ X B C) : Kp n₀ X A C :=
  ⟨h.below.trans k.below, fun b cs ty hb ht hx => by
    have h1 := h.kept b cs ty hb ht hx
    rw [k.kept b cs ty (h1.trans hb) ht hx, h1]⟩
theorem Kp.ofBelow {n₀ : Nat} {X : Nat → Prop} {A B : World} (h : Below A.heap.size A B) (hn : n₀ ≤ A.heap.size) : Kp n₀ X A B :=
  ⟨h.mono hn, fun b cs ty hb _ _ => h.block b (lt_of_heap hb)⟩

/-- The entries that are given. -/
abbrev El (es : List En) := { e : En // e ∈ es }
def encE (es : List En) (x : El es) : Array Value := #[.string x.1.1, .int .i64 x.1.2]
def YOk (l n₀ : Nat) (X : Nat → Prop) (es : List En) (J Jx : List (El es) → World → Prop) : Prop :=
  ∀ m pre x W, J pre W → (pre ++ [x]).map (·.1) <+: es → YieldAt Fence.wide m Try.prog l (encE es x) W (Rnd (Kp n₀ X) l J Jx pre x W)
def Abs {β : Type} (J : β → World → Prop) : Prop := ∀ s A B, J s A → Below A.heap.size A B → J s B

set_option maxRecDepth 100000 in
set_option maxHeartbeats 2000000 in
theorem give_calls (l n₀ : Nat) (X : Nat → Prop) (es : List En) (J Jx : List (El es) → World → Prop) (hJ : Abs J) (hY : YOk l n₀ X es J Jx) (t : Tr) (pre : List (El es)) (W : World) (hn : n₀ ≤ W.heap.size) (ht : TAt nR W t) (hj : J pre W) (hp : pre.map (·.1) ++ ownE t <+: es) :
    Calls Try.prog 47 #[nodeV t, .func (.yield l) #[] #[]] W fun e W' =>
      (e = .returned (.bool true) ∧ ∃ ys : List (El es), ys.map (·.1) = ownE t ∧ J (pre ++ ys) W' ∧ Kp n₀ X W W') ∨ (e = .returned (.bool false) ∧ ∃ ys : List (El es), ys.map (·.1) <+: ownE t ∧ Jx (pre ++ ys) W') := by
  obtain ⟨w1, HW1⟩ : ∃ w1, Hid (w1 = W.alloc (.cells #[.pointer (some ⟨t.a, 0, none⟩)] 63)) := ⟨_, rfl⟩
  have hb1 : Below W.heap.size W w1 := by rw [HW1.out]; exact (Below.refl _ _).alloc (Nat.le_refl _) _
  have q1 : w1.heap[W.heap.size]? = some (.cells #[.pointer (some ⟨t.a, 0, none⟩)] 63) := by rw [HW1.out]; exact heap_alloc_new _ _
  have HV := value_calls t w1 (ht.keep hb1)
  have HB1 : Hid (Below W.heap.size W w1) := hb1
  unfold nodeV
  unfold nodeV at HV
  have HT : Hid (TAt nR W t) := ht
  have HJ : Hid (J pre W) := hj
  have hlt1 := lt_of_heap q1
  cases hv : t.v with
  | none =>
    rw [hv] at HV
    have ho : ownE t = [] := by unfold ownE; rw [hv]
    rw [ho]
    simp only [held, Option.isSome_none] at HV
    clear q1 ht hb1 hj
    refine (callsIn_wide (n := 8)).1 ?_
    refine callsIn_of_wp Try.func47 rfl trivial ?_ rfl
    simp only [Try.ntmps47, List.size_toArray, List.length_cons, List.length_nil, Nat.reduceAdd, Nat.reduceSub, Array.replicate_succ, Array.replicate_zero, List.push_toArray, List.append_toArray, List.nil_append, List.cons_append]
    gi_wp2_with fail
    refine ⟨trivial, ?_⟩
    rw [← HW1.out]
    refine (callsIn_wide.2 HV).mono ?_
    clear HV HW1
    rintro e w2 ⟨rfl, hb2⟩
    have HB2 : Hid (Below W.heap.size W w2) := HB1.out.trans (hb2.mono HB1.out.size)
    clear hb2
    gi_wp2_with fail
    refine ⟨trivial, ?_⟩
    gi_wp2_with fail
    refine ⟨fun _ h => (by cases h), ?_⟩
    gi_wp2
    go_ret
    exact .inl ⟨rfl, [], rfl, by rw [List.append_nil]; exact hJ _ _ _ HJ.out HB2.out, Kp.ofBelow HB2.out hn⟩
  | some v =>
    rw [hv] at HV
    obtain ⟨n, hn1⟩ := (ht.val' v hv).num
    have ho : ownE t = [(t.p, n)] := by unfold ownE; rw [hv]; simp [hn1, intOf]
    rw [ho] at hp ⊢
    have hx : (t.p, n) ∈ es := hp.subset (by simp)
    simp only [held, Option.isSome_some, hn1] at HV
    clear ht hb1 hj
    refine (callsIn_wide (n := 8)).1 ?_
    refine callsIn_of_wp Try.func47 rfl trivial ?_ rfl
    simp only [Try.ntmps47, List.size_toArray, List.length_cons, List.length_nil, Nat.reduceAdd, Nat.reduceSub, Array.replicate_succ, Array.replicate_zero, List.push_toArray, List.append_toArray, List.nil_append, List.cons_append]
    gi_wp2_with fail
    refine ⟨trivial, ?_⟩
    rw [← HW1.out]
    refine (callsIn_wide.2 HV).mono ?_
    clear HV HW1
    rintro e w2 ⟨rfl, hb2⟩
    have HB2 : Hid (Below W.heap.size W w2) := HB1.out.trans (hb2.mono HB1.out.size)
    have q2 : w2.cell? ⟨W.heap.size, 0, none⟩ = some (.pointer (some ⟨t.a, 0, none⟩)) := by rw [hb2.cell (by exact hlt1), cell_of_blk q1]; rfl
    have HP := path_calls (R := nR) t w2 (HT.out.keep HB2.out)
    unfold nodeV at HP
    clear hb2 q1
    gi_wp2_with fail
    refine ⟨trivial, ?_⟩
    refine (callsIn_wide.2 HP).mono ?_
    clear HP
    rintro e w3 ⟨rfl, hb3⟩
    have HB3 : Hid (Below W.heap.size W w3) := HB2.out.trans (hb3.mono HB2.out.size)
    obtain ⟨fn, tmps, assign, body, hy, hR⟩ := hY 7 pre ⟨(t.p, n), hx⟩ w3 (hJ _ _ _ HJ.out HB3.out) (by rw [List.map_append]; exact hp)
    dsimp only [encE] at hy
    clear hb3 q2
    gi_wp2_with fail
    refine hR.mono ?_
    clear hR hy
    rintro e w4 (⟨rfl, hJ4, hk4, -⟩ | ⟨rfl, hJx4, -⟩)
    · have HR : Hid (J (pre ++ [⟨(t.p, n), hx⟩]) w4 ∧ Kp n₀ X W w4) := ⟨hJ4, (Kp.ofBelow HB3.out hn).trans hk4⟩
      clear hJ4 hk4
      gi_wp2
      go_ret
      exact .inl ⟨rfl, [⟨(t.p, n), hx⟩], rfl, HR.out.1, HR.out.2⟩
    · have HR : Hid (Jx (pre ++ [⟨(t.p, n), hx⟩]) w4) := hJx4
      clear hJx4
      gi_wp2
      go_ret
      exact .inr ⟨rfl, [⟨(t.p, n), hx⟩], List.prefix_refl _, HR.out⟩
end Go.Proofs.Ytnmndjplbcpglaa
