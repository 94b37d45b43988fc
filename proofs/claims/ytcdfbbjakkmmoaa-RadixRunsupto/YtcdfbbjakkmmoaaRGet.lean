import Derived.Test.YtcdfbbjakkmmoaaRHasI
import Derived.Test.YtcdfbbjakkmmoaaXHeldM
import Derived.Test.YtcdfbbjakkmmoaaXHeld
import Derived.Test.YtcdfbbjakkmmoaaRDelete
import Derived.Test.YtcdfbbjakkmmoaaRConcat
/- Layer 3 (radix): what a tree holds behind Delete. -/
namespace Go.Proofs.Ytcdfbbjakkmmoaa
open Go.RowKit
set_option linter.unusedVariables false

theorem has_needed (t : Tr) (k : List UInt8) (x : Value) : (∃ d ∈ neededOf t, Has d k x) ↔ Has t k x := by
  unfold neededOf
  split
  · simp
  · rename_i h
    rw [has_tr]
    simp at h
    constructor
    · exact .inr
    · rintro (⟨y, h1, -⟩ | h1)
      · rw [h.1] at h1; cases h1
      · exact h1

theorem DelR.has {N : Nat} {k : ByteArray} {t T : Tr} (h : DelR N k t T) (ht : WF t) (hp : t.path <+: k.data.toList) : ∀ (k' : List UInt8) (x : Value), Has T k' x ↔ (k' ≠ k.data.toList ∧ Has t k' x) := by
  induction h with
  | @here t a g hs ha hg =>
    intro k' x
    have hpe := path_eq hp hs
    rw [has_tr, has_tr (t := t)]
    simp only [Tr.v, Tr.ks]
    constructor
    · rintro (⟨y, h1, -⟩ | ⟨c, hc, h⟩)
      · cases h1
      · refine ⟨fun e => ?_, .inr ⟨c, hc, h⟩⟩
        have h1 := kid_longer ht hc h
        rw [e, ← hpe, path_length] at h1
        omega
    · rintro ⟨h1, ⟨y, h2, h3, h4⟩ | h2⟩
      · exact absurd (h3.trans hpe) h1
      · exact .inr h2
  | @down t c c' a g hn hs h ha hg ih =>
    obtain ⟨hc, hcp⟩ := nx_mem hn
    obtain ⟨hq, hbq⟩ := there_true hs (nx_there ht hs hn)
    have hcb : c.byte t.p.size = k[t.p.size] := by
      unfold Tr.byte
      exact key_pre hcp (by rw [path_length]; exact (ht.ext' c hc).2) hs
    have hce : t.ks[posn t.ks t.p.size k[t.p.size]] = c := ht.inj (List.getElem_mem hq) hc (by rw [hbq, hcb])
    intro k' x
    have := has_repl ht hq (by rw [key_len]; exact hs) (by rw [hbq, getD_key k _ hs]) (L := neededOf c') (A := fun k' x => False) (fun _ _ h => h.elim) (fun k2 x2 => ?_) a g k' x
    · rw [this]; simp
    · rw [has_needed, hce, ih (ht.kids' c hc) hcp k2 x2]; simp
end Go.Proofs.Ytcdfbbjakkmmoaa

/- Layer 4 (walk): a tree behind Delete. -/
namespace Go.Proofs.Ytcdfbbjakkmmoaa
open Go.RowKit
set_option linter.unusedVariables false

theorem Held.delete {w W W' : World} {tb tb' N : Nat} {T T' : Tr} {ne : Int} {d : Nat} {k : ByteArray} {es : List En} (h : Held w W tb T ne d es) (hb : Below W.heap.size W W') (ht : TreeAt W' tb' T' (ne - 1)) (hi : DelR N k T T') (hk : k ∈ keysOf es) : Held w W' tb' T' (ne - 1) d (delE es k) := by
  have hp := root_pre h.good.root k.data.toList
  have hw := hi.wf h.good.wf hp
  have hc := h.cnt
  have hd := delE_count h.sorted hk
  have h2 := h.good.hi
  refine ⟨⟨h.good.below.trans (hb.mono h.good.below.size), ht, hw.1, hw.2.trans h.good.root, hi.dep h.good.dep, by omega, by omega⟩, fun k' x => ?_, delE_sorted h.sorted _, by omega⟩
  rw [hi.has h.good.wf hp, h.has]
  constructor
  · rintro ⟨h1, e, he, rfl, rfl⟩
    exact ⟨e, (mem_delE h.sorted).2 ⟨fun h3 => h1 (by rw [kyl, h3]), he⟩, rfl, rfl⟩
  · rintro ⟨e, he, rfl, rfl⟩
    obtain ⟨h1, h2⟩ := (mem_delE h.sorted).1 he
    exact ⟨fun h3 => h1 (ky_inj h3), e, h2, rfl, rfl⟩
end Go.Proofs.Ytcdfbbjakkmmoaa

/- Layer 4 (walk): taking out, in lists of entries and in trees. -/
namespace Go.Proofs.Ytcdfbbjakkmmoaa
open Go.RowKit Go.Shelf
set_option linter.unusedVariables false

/-- The entries without those keys. -/
def rmE (es : List En) (ks : List ByteArray) : List En := ks.foldl delE es
theorem rmE_snoc (es : List En) (ks : List ByteArray) (k : ByteArray) : rmE es (ks ++ [k]) = delE (rmE es ks) k := by simp [rmE]
theorem rmE_sorted {es : List En} (hs : SortedE es) (ks : List ByteArray) : SortedE (rmE es ks) := by
  unfold rmE
  induction ks generalizing es with
  | nil => exact hs
  | cons k ks ih => exact ih (delE_sorted hs k)
theorem mem_rmE {es : List En} (hs : SortedE es) (ks : List ByteArray) {x : En} : x ∈ rmE es ks ↔ x ∈ es ∧ x.1 ∉ ks := by
  unfold rmE
  induction ks generalizing es with
  | nil => simp
  | cons k ks ih =>
    rw [List.foldl_cons, ih (delE_sorted hs k), mem_delE hs]
    simp only [List.mem_cons, not_or]
    constructor
    · rintro ⟨⟨h1, h2⟩, h3⟩; exact ⟨h2, h1, h3⟩
    · rintro ⟨h2, h1, h3⟩; exact ⟨⟨h1, h2⟩, h3⟩
theorem rmE_len {es : List En} (ks : List ByteArray) : (rmE es ks).length ≤ es.length := by
  unfold rmE
  induction ks generalizing es with
  | nil => exact Nat.le_refl _
  | cons k ks ih =>
    refine Nat.le_trans ih ?_
    unfold delE
    have := place_le (keysOf es) k
    rw [keysOf_len] at this
    split <;> simp <;> omega
/-- What is left when all beneath p is taken out. -/
def leftE (p : ByteArray) (es : List En) : List En := es.filter fun e => !beg p e
theorem rmE_all {es : List En} (hs : SortedE es) (p : ByteArray) : rmE es ((es.filter (beg p)).map (·.1)) = leftE p es := by
  refine sorted_uniq (r := EnLt) (fun a => lt_irr _) (fun a b c => lt_tr) _ _ (rmE_sorted hs _) (List.Pairwise.filter _ hs) fun x => ?_
  rw [mem_rmE hs]
  unfold leftE
  rw [List.mem_filter]
  constructor
  · rintro ⟨h1, h2⟩
    refine ⟨h1, ?_⟩
    by_cases hb : beg p x = true
    · exact absurd (List.mem_map.2 ⟨x, List.mem_filter.2 ⟨h1, hb⟩, rfl⟩) h2
    · rw [Bool.eq_false_iff.2 hb]; rfl
  · rintro ⟨h1, h2⟩
    refine ⟨h1, fun hm => ?_⟩
    obtain ⟨y, hy, e⟩ := List.mem_map.1 hm
    have hb := (List.mem_filter.1 hy).2
    unfold beg kyl at hb h2
    rw [e] at hb
    rw [hb] at h2
    cases h2

theorem Held.rebase {w w' W : World} {tb : Nat} {T : Tr} {ne : Int} {d : Nat} {es : List En} (h : Held w W tb T ne d es) (hb : Below w'.heap.size w' W) : Held w' W tb T ne d es := ⟨⟨hb, h.good.tree, h.good.wf, h.good.root, h.good.dep, h.good.lo, h.good.hi⟩, h.has, h.sorted, h.cnt⟩
/-- Delete, over a tree that holds just es. -/
theorem delH_calls (tb : Nat) (T : Tr) (ne : Int) (d : Nat) (es : List En) (w₀ w : World) (h : Held w₀ w tb T ne d es) (k : ByteArray) (hk : k.size ≤ 140737488351296) (hd : d + 1 ≤ 17592186044416) :
    Calls Try.prog 9 #[.pointer (some ⟨tb, 0, none⟩), .string k] w fun e w' => ∃ (tb' : Nat) (T' : Tr) (ne' : Int) (r1 : Value) (r2 : Bool), e = .returned (.tuple #[.pointer (some ⟨tb', 0, none⟩), r1, .bool r2]) ∧ Below w.heap.size w w' ∧ Held w₀ w' tb' T' ne' d (delE es k) := by
  obtain ⟨init, c, hA⟩ := along_split (k := k.data.toList) h.good.wf
  have hlen := hA.len h.good.dep
  have hlo := h.good.lo
  have hhi := h.good.hi
  have hv := h.has.val h.good.wf (root_pre h.good.root _) hA
  refine (delete_calls tb T ne k w init c h.good.tree h.good.wf (root_pre h.good.root _) hk hA (by simp at hlen; omega) (by omega) (by omega)).mono ?_
  rintro e w' ⟨hb, (⟨h1, rfl⟩ | ⟨x, tb', T', h1, rfl, ht, hi, -⟩)⟩
  · rw [h1] at hv
    have hno : k ∉ keysOf es := of_decide_eq_false hv.symm
    exact ⟨tb, T, ne, _, _, rfl, hb, by rw [delE_none h.sorted hno]; exact h.keep hb⟩
  · rw [h1] at hv
    have hin : k ∈ keysOf es := of_decide_eq_true hv.symm
    exact ⟨_, _, _, _, _, rfl, hb, h.delete hb ht hi hin⟩

/-- A tree stays where what changes is no part of it. -/
theorem Held.off {w W W' : World} {tb : Nat} {T : Tr} {ne : Int} {d : Nat} {es : List En} (E : Nat → Prop) (h : Held w W tb T ne d es) (hb : Below w.heap.size w W') (hk : ∀ b, b < W.heap.size → ¬ E b → W'.heap[b]? = W.heap[b]?) (hE : ∀ b, E b → ∃ cs ty, W.heap[b]? = some (.cells cs ty) ∧ NP cs ∧ ty ≠ 76 ∧ ty ≠ 97 ∧ ty ≠ 117 ∧ ty ≠ 68) : Held w W' tb T ne d es := by
  refine ⟨⟨hb, ⟨(hk tb (lt_of_heap h.good.tree.blk) (fun he => ?_)).trans h.good.tree.blk, h.good.tree.tat.off E hk (fun b he => ?_)⟩, h.good.wf, h.good.root, h.good.dep, h.good.lo, h.good.hi⟩, h.has, h.sorted, h.cnt⟩
  · obtain ⟨cs, ty, h1, -, -, -, -, h2⟩ := hE _ he
    rw [h.good.tree.blk] at h1
    simp at h1
    exact h2 h1.2.symm
  · obtain ⟨cs, ty, h1, h2, h3, h4, h5, -⟩ := hE _ he
    exact ⟨cs, ty, h1, h2, h3, h4, h5⟩
/-- Another tree is put into a box that holds a tree. -/
theorem Held.put {w W : World} {tb tb₀ nb : Nat} {T : Tr} {ne : Int} {d : Nat} {es : List En} {cs : Array Value} (h : Held w W tb T ne d es) (hnb : w.heap.size ≤ nb) (hbox : W.heap[nb]? = some (.cells #[.pointer (some ⟨tb₀, 0, none⟩)] 24)) (ht : W.heap[tb₀]? = some (.cells cs 68)) (u : Value) : Held w (W.setCell ⟨nb, 0, none⟩ u) tb T ne d es := by
  refine ⟨⟨h.good.below.setCell (p := ⟨nb, 0, none⟩) hnb _, ⟨(heap_setCell_other _ _ _ _ (fun e => ?_)).trans h.good.tree.blk, ((h.good.tree.tat.treeBox hbox ht).poke rfl hbox (by decide) (by decide) (by decide) u).less (fun b hb => hb.elim)⟩, h.good.wf, h.good.root, h.good.dep, h.good.lo, h.good.hi⟩, h.has, h.sorted, h.cnt⟩
  have e' : tb = nb := e
  subst e'
  have h1 := h.good.tree.blk
  rw [hbox] at h1
  simp at h1
theorem Held.grown {w W W' : World} {row : Option Nat} {tb : Nat} {T : Tr} {ne : Int} {d : Nat} {es : List En} (h : Held w W tb T ne d es) (hg : W.grownBy W' row) (hr : ∀ r, row = some r → w.heap.size ≤ r ∧ ∃ o : Obj, W.heap[r]? = some o ∧ isMark o = true) : Held w W' tb T ne d es :=
  ⟨⟨h.good.below.grown hg h.good.below.size (fun r e => (hr r e).1), ⟨heap_kept h.good.tree.blk hg (fun r e => (hr r e).2), h.good.tree.tat.grown hg (fun r e => (hr r e).2)⟩, h.good.wf, h.good.root, h.good.dep, h.good.lo, h.good.hi⟩, h.has, h.sorted, h.cnt⟩
end Go.Proofs.Ytcdfbbjakkmmoaa

/- Layer 3 (radix): Len, Get. -/
namespace Go.Proofs.Ytcdfbbjakkmmoaa
open Go.RowKit
set_option linter.unusedVariables false

theorem len_calls (tb : Nat) (t : Tr) (n : Int) (w : World) (h : TreeAt w tb t n) : Calls Try.prog 22 #[.pointer (some ⟨tb, 0, none⟩)] w fun e w' => e = .returned (.int .i64 n) ∧ w' = w := by
  have c1 : w.cell? ⟨tb, 1, none⟩ = some (.int .i64 n) := by rw [cell_of_blk h.blk]; rfl
  clear h
  go_enter Try.func22, Try.ntmps22
  go_wp2
  go_ret
  exact ⟨rfl, rfl⟩

theorem get_tree (tb : Nat) (t : Tr) (n : Int) (k : ByteArray) (w : World) (init : List Tr) (c : Tr) (h : TreeAt w tb t n) (hw : WF t) (hp : t.path <+: k.data.toList) (hks : k.size ≤ 140737488351296) (hA : Along k.data.toList t (init ++ [c])) :
    Calls Try.prog 41 #[.pointer (some ⟨tb, 0, none⟩), .string k] w fun e w' => e = .returned (.tuple #[held (valAt c k), .bool (valAt c k).isSome]) ∧ Below w.heap.size w w' := by
  have c0 : w.cell? ⟨tb, 0, none⟩ = some (.pointer (some ⟨t.a, 0, none⟩)) := by rw [cell_of_blk h.blk]; rfl
  have HV := valueOf_calls t k w init c hA h.tat hw hp hks
  have hv : ∀ x, valAt c k = some x → VAt anyO w x := fun x hx => by
    unfold valAt at hx
    split at hx
    · cases hx
    · exact (along_tat hA h.tat c (by simp)).val' x hx
  have HVV : Hid (∀ x, valAt c k = some x → VAt anyO w x) := hv
  clear h hw hp hA hv
  go_enter Try.func41, Try.ntmps41
  go_wp2_with fail
  refine HV.mono ?_
  clear HV
  rintro e w1 ⟨rfl, hb1⟩
  have HG := get_calls (valAt c k) w1 (fun x hx => (HVV.out x hx).below hb1)
  have HB : Hid (Below w.heap.size w w1) := hb1
  clear hb1 c0
  go_wp2_with fail
  refine HG.mono ?_
  clear HG
  rintro e w2 ⟨rfl, rfl⟩
  go_wp2
  go_ret2
  exact ⟨rfl, HB.out⟩
end Go.Proofs.Ytcdfbbjakkmmoaa
