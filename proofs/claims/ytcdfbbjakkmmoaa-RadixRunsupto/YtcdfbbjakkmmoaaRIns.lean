/- Layer 3 (radix): Insert. -/
import Derived.Test.YtcdfbbjakkmmoaaXLaw
import Derived.Deep.DeepCutAuto
import Derived.Deep.CutRange
namespace Go.Proofs.Ytcdfbbjakkmmoaa
open Go.RowKit Go.Shelf
set_option linter.unusedVariables false
variable {R : Rg} {O : Nat → Prop}
attribute [local go_sem] Oper.semAt_some

/-- What a tree becomes when k's value comes. -/
inductive InsR (N : Nat) (k : ByteArray) (v : Vl) : Tr → Tr → Prop
  | entry {t T} (hn : nx t k.data.toList = none) (h : EntR N k v t T) : InsR N k v t T
  | down {t c c' a g} (hn : nx t k.data.toList = some c) (hp : t.p.size < k.size) (h : InsR N k v c c') (ha : N ≤ a) (hg : N ≤ g) :
      InsR N k v t (.nd a t.p t.v (t.ks.take (posn t.ks t.p.size k[t.p.size]) ++ [c'] ++ t.ks.drop (posn t.ks t.p.size k[t.p.size] + 1)) g)

abbrev nRo (O : Nat → Prop) : Rg := ⟨fun _ => False, O⟩
abbrev anyO : Nat → Prop := fun _ => True
abbrev nR : Rg := nRo anyO

structure TreeAtO (O : Nat → Prop) (w : World) (tb : Nat) (t : Tr) (n : Int) : Prop where
  blk : w.heap[tb]? = some (.cells #[.pointer (some ⟨t.a, 0, none⟩), .int .i64 n] 68)
  tat : TAt (nRo O) w t
theorem TreeAtO.keep {w w' : World} {tb : Nat} {t : Tr} {n : Int} (h : TreeAtO O w tb t n) (hb : Below w.heap.size w w') : TreeAtO O w' tb t n := ⟨(hb.block _ (lt_of_heap h.blk)).trans h.blk, h.tat.keep hb⟩

/-- The boxes of nodes that hold nothing yet. -/
def boxR (W : World) (b : Nat) : Prop := W.heap[b]? = some (.cells #[.pointer none] 35)
theorem TAt.boxes {W w : World} {t : Tr} (h : TAt R w t) (hW : ∀ b, boxR W b → w.heap[b]? = some (.cells #[.pointer none] 35)) : TAt ⟨boxR W, R.old⟩ w t := by
  induction h with
  | mk blk kids val wat sub room nil psz ih =>
    refine .mk blk (fun i hi => ?_) val wat ih room nil psz
    obtain ⟨b, off, ha, h0, _⟩ := kids i hi
    refine ⟨b, off, ha, h0, fun hc => ?_⟩
    rw [cell_of_blk (hW b hc)] at h0
    cases ho : off + i with
    | zero => rw [ho] at h0; simp at h0
    | succ m => rw [ho] at h0; simp at h0
theorem TAt.less {R' : Nat → Prop} {w : World} {t : Tr} (h : TAt R w t) (hR : ∀ b, R' b → R b) : TAt ⟨R', R.old⟩ w t := by
  induction h with
  | mk blk kids val wat sub room nil psz ih =>
    refine .mk blk (fun i hi => ?_) val wat ih room nil psz
    obtain ⟨b, off, ha, h0, hr⟩ := kids i hi
    exact ⟨b, off, ha, h0, fun hc => hr (hR b hc)⟩

theorem entry_boxes (t : Tr) (k : ByteArray) (v : Vl) (w : World) (h : TAt (nRo O) w t) (hw : WF t) (hv : VAt O w v) (hp : t.path <+: k.data.toList) (hks : k.size ≤ 140737488351296) (hnx : nx t k.data.toList = none) :
    Calls Try.prog 45 #[.pointer (some ⟨t.a, 0, none⟩), .string k, .pointer (some ⟨v.a, 0, none⟩)] w fun e w' => ∃ T' : Tr, e = .returned (.pointer (some ⟨T'.a, 0, none⟩)) ∧ Below w.heap.size w w' ∧ TAt ⟨boxR w, O⟩ w' T' ∧ EntR w.heap.size k v t T' :=
  entry_calls t k v w (h.boxes fun b hb => hb) hw hv hp hks hnx (fun b hb => lt_of_heap hb)

theorem newValue_some (n : Int) (w : World) : Calls Try.prog 46 #[.int .i64 n] w fun e w' => ∃ va vg, e = .returned (.pointer (some ⟨va, 0, none⟩)) ∧ Below w.heap.size w w' ∧ VAt O w' ⟨va, .int .i64 n, vg⟩ ∧ w.heap.size ≤ va ∧ w.heap.size ≤ vg :=
  (newValue_calls n w).mono fun e w' ⟨h1, h2, h3, h4⟩ => ⟨_, _, h1, h2, h4, by omega, by omega⟩

theorem below_drew {w w' : World} (h : Below w.drew.heap.size w.drew w') : Below w.heap.size w w' := ⟨h.os, h.tape, h.output, h.size, h.block⟩
theorem below_alloc {w w' : World} {o : Obj} (h : Below (w.alloc o).heap.size (w.alloc o) w') : Below w.heap.size w w' ∧ w'.heap[w.heap.size]? = some o := by
  have h1 : Below w.heap.size w (w.alloc o) := (Below.refl _ w).alloc (Nat.le_refl _) _
  exact ⟨h1.trans (h.mono h1.size), (h.block _ (by simp [World.size_alloc])).trans (heap_alloc_new w o)⟩

/-- How many entries more. -/
def plusNew (v : Option Vl) : Int := if v.isSome then 0 else 1

/-- What stands between way and the loop. -/
structure InsMid (O : Nat → Prop) (w : World) (k : ByteArray) (v : Vl) (c : Tr) (init : List Tr) (kb g nb : Nat) (T : Tr) (wx : World) : Prop where
  below : Below w.heap.size w wx
  kbox : wx.heap[kb]? = some (.cells #[.string k] 9)
  kbl : w.heap.size ≤ kb
  nbox : wx.heap[nb]? = some (.cells #[.pointer (some ⟨T.a, 0, none⟩)] 35)
  nbl : w.heap.size ≤ nb
  tat : TAt ⟨(· = nb), O⟩ wx T
  ent : EntR w.heap.size k v c T
  way : KidsAt ⟨(· = nb), O⟩ wx (some ⟨g, 0, none⟩) init
  gne : g ≠ nb ∧ g < wx.heap.size
  val : VAt O wx v
  va : w.heap.size ≤ v.a ∧ w.heap.size ≤ v.g

theorem kids_later {w2 w4 : World} {nb g : Nat} {init : List Tr} (hk : KidsAt (nRo O) w2 (some ⟨g, 0, none⟩) init) (hb : ∀ b, b < w2.heap.size → w4.heap[b]? = w2.heap[b]?) (hn : w2.heap.size ≤ nb) : KidsAt ⟨(· = nb), O⟩ w4 (some ⟨g, 0, none⟩) init := by
  intro i hi
  · obtain ⟨b, off, he, hc, _⟩ := hk i hi
    have hl : b < w2.heap.size := World.block_lt_of_cell? w2 _ hc
    exact ⟨b, off, he, by rw [World.cell?_of_block (hb b hl)]; exact hc, by show ¬ b = nb; omega⟩

theorem mid_store {w w1 w2 w4 : World} {k : ByteArray} {v : Vl} {c T : Tr} {init : List Tr} {g nb M : Nat} (h01 : Below w.heap.size w w1 ∧ w1.heap[w.heap.size]? = some (.cells #[.string k] 9)) (h12 : Below w1.heap.size w1 w2 ∧ KidsAt (nRo R.old) w2 (some ⟨g, 0, none⟩) init ∧ g < w2.heap.size) (hs1 : w.heap.size + 1 ≤ w1.heap.size)
    (h24 : Below w2.heap.size w2 w4) (hn : w4.heap[nb]? = some (.cells #[.pointer none] 35)) (hnb : w2.heap.size ≤ nb) (hT : TAt R w4 T) (hR : R nb) (hE : EntR M k v c T) (hM : w.heap.size ≤ M) (hv : VAt R.old w4 v) (hva : w2.heap.size ≤ v.a ∧ w2.heap.size ≤ v.g) :
    InsMid R.old w k v c init w.heap.size g nb T (w4.setCell ⟨nb, 0, none⟩ (.pointer (some ⟨T.a, 0, none⟩))) := by
  have hz := h12.1.size
  have h02 : Below w.heap.size w w2 := h01.1.trans (h12.1.mono h01.1.size)
  have hz2 := h02.size
  have hk2 : w2.heap[w.heap.size]? = some (.cells #[.string k] 9) := (h12.1.block _ (by omega)).trans h01.2
  have hbb : ∀ b, b < w2.heap.size → (w4.setCell ⟨nb, 0, none⟩ (.pointer (some ⟨T.a, 0, none⟩))).heap[b]? = w2.heap[b]? := fun b hb => by
    rw [heap_setCell_other _ _ _ _ (by show b ≠ nb; omega)]; exact h24.block b hb
  have hway := kids_later h12.2.1 hbb hnb
  have hg2 := h12.2.2
  have hz4 := h24.size
  have hgne : g ≠ nb ∧ g < (w4.setCell ⟨nb, 0, none⟩ (.pointer (some ⟨T.a, 0, none⟩))).heap.size := ⟨by omega, by simp; omega⟩
  have hne : ∀ {a : Nat} {ds : Array Value} {ty' : TypeId}, w4.heap[a]? = some (.cells ds ty') → 35 ≠ ty' → (w4.setCell ⟨nb, 0, none⟩ (.pointer (some ⟨T.a, 0, none⟩))).heap[a]? = w4.heap[a]? := fun ha ht => heap_setCell_other _ _ _ _ (fun e => by
    have e' : _ = nb := e
    subst e'
    have := hn.symm.trans ha
    simp at this
    exact ht this.2)
  obtain ⟨ff, hwat, hfo⟩ := hv.wat
  refine ⟨(h02.trans (h24.mono hz2)).setCell (by show w.heap.size ≤ nb; omega) _, (hbb _ (by omega)).trans hk2, Nat.le_refl _, ?_, by omega, ?_, hE.lower hM, hway, hgne, ⟨(hne hv.blk (by decide)).trans hv.blk, ⟨ff, hwat.aside hn (by decide) _, hfo⟩, hv.num⟩, by omega, by omega⟩
  · rw [setCell_blk hn]; simp
  · exact ((hT.poke (i := 0) hR hn (by decide) (by decide) (by decide) (.pointer (some ⟨T.a, 0, none⟩))).less (fun b hb => by have hb' : b = nb := hb; subst hb'; exact hR))

theorem mid_alloc {w w1 w2 w4 : World} {k : ByteArray} {v : Vl} {c T : Tr} {init : List Tr} {g M : Nat} (h01 : Below w.heap.size w w1 ∧ w1.heap[w.heap.size]? = some (.cells #[.string k] 9)) (h12 : Below w1.heap.size w1 w2 ∧ KidsAt (nRo R.old) w2 (some ⟨g, 0, none⟩) init ∧ g < w2.heap.size) (hs1 : w.heap.size + 1 ≤ w1.heap.size)
    (h24 : Below w2.heap.size w2 w4) (hT : TAt R w4 T) (hE : EntR M k v c T) (hM : w.heap.size ≤ M) (hv : VAt R.old w4 v) (hva : w2.heap.size ≤ v.a ∧ w2.heap.size ≤ v.g) :
    InsMid R.old w k v c init w.heap.size g w4.heap.size T (w4.alloc (.cells #[.pointer (some ⟨T.a, 0, none⟩)] 35)) := by
  have hz := h12.1.size
  have h02 : Below w.heap.size w w2 := h01.1.trans (h12.1.mono h01.1.size)
  have hz2 := h02.size
  have hz4 := h24.size
  have hk2 : w2.heap[w.heap.size]? = some (.cells #[.string k] 9) := (h12.1.block _ (by omega)).trans h01.2
  have h4x : Below w4.heap.size w4 (w4.alloc (.cells #[.pointer (some ⟨T.a, 0, none⟩)] 35)) := (Below.refl _ _).alloc (Nat.le_refl _) _
  have hbb : ∀ b, b < w2.heap.size → (w4.alloc (.cells #[.pointer (some ⟨T.a, 0, none⟩)] 35)).heap[b]? = w2.heap[b]? := fun b hb => by
    rw [h4x.block b (by omega)]; exact h24.block b hb
  have hway := kids_later (nb := w4.heap.size) h12.2.1 hbb hz4
  have hg2 := h12.2.2
  have hgne : g ≠ w4.heap.size ∧ g < (w4.alloc (.cells #[.pointer (some ⟨T.a, 0, none⟩)] 35)).heap.size := ⟨by omega, by simp [World.size_alloc]; omega⟩
  have h04 : Below w.heap.size w w4 := h02.trans (h24.mono hz2)
  exact ⟨h04.trans (h4x.mono h04.size), (hbb _ (by omega)).trans hk2, Nat.le_refl _, heap_alloc_new _ _, by omega, (hT.avoid (fun b hb => by have hb' : b = w4.heap.size := hb; omega)).keep h4x, hE.lower hM, hway, hgne, hv.below h4x, by omega, by omega⟩

theorem heap_kept {W W' : World} {row : Option Nat} {b : Nat} {cs : Array Value} {ty : TypeId} (h : W.heap[b]? = some (.cells cs ty)) (hg : W.grownBy W' row) (hr : ∀ r, row = some r → ∃ o : Obj, W.heap[r]? = some o ∧ isMark o = true) : W'.heap[b]? = some (.cells cs ty) := by
  refine (hg.block b (lt_of_heap h) (fun e => ?_)).trans h
  obtain ⟨o, ho, hc⟩ := hr b e.symm
  rw [h] at ho
  cases ho
  cases hc
theorem TAt.grown {W W' : World} {row : Option Nat} {t : Tr} (h : TAt R W t) (hg : W.grownBy W' row) (hr : ∀ r, row = some r → ∃ o : Obj, W.heap[r]? = some o ∧ isMark o = true) : TAt R W' t := by
  have hwc : ∀ {g : Nat}, Wc R.old W g → Wc R.old W' g := fun hx => by
    obtain ⟨f, hx, ho⟩ := hx
    exact ⟨f, ⟨heap_kept hx.blk hg hr, obj_keptM hx.chn rfl hg hr⟩, ho⟩
  induction h with
  | mk blk kids val wat sub room nil psz ih =>
    refine .mk (heap_kept blk hg hr) (fun i hi => ?_) (fun x hx => ?_) (hwc wat) ih room nil psz
    · obtain ⟨b, off, ha, h0, hn⟩ := kids i hi
      exact ⟨b, off, ha, cell_keptM h0 hg hr, hn⟩
    · have := val x hx
      exact ⟨heap_kept this.blk hg hr, hwc this.wat, this.num⟩

theorem nx_there {t c : Tr} (h : WF t) {k : ByteArray} (hp : t.p.size < k.size) (hn : nx t k.data.toList = some c) : thereB t.ks t.p.size k[t.p.size] = true := by
  obtain ⟨hc, hcp⟩ := nx_mem hn
  obtain ⟨i, hi, rfl⟩ := List.getElem_of_mem hc
  have hx := h.ext' _ hc
  have e1 := prefix_getD hcp t.p.size (by rw [path_length]; exact hx.2)
  have e2 := kid_at h (k := k.data.toList) hi (by unfold Tr.byte; rw [e1])
  rw [getD_key k _ hp] at e1 e2
  unfold thereB
  rw [e2, List.getElem?_eq_getElem hi]
  simp [Tr.byte, e1]
theorem ins_down {N : Nat} {k : ByteArray} {v : Vl} {t c c' : Tr} {a g : Nat} (h : WF t) (hp : t.p.size < k.size) (hn : nx t k.data.toList = some c) (hi : InsR N k v c c') (ha : N ≤ a) (hg : N ≤ g) :
    InsR N k v t (.nd a t.p t.v (t.ks.take (posn t.ks t.p.size k[t.p.size]) ++ [c'] ++ t.ks.drop (behindOf t k hp)) g) := by
  have hbh : behindOf t k hp = posn t.ks t.p.size k[t.p.size] + 1 := by unfold behindOf; rw [nx_there h hp hn]; rfl
  rw [hbh]
  exact .down hn hp hi ha hg
theorem keepsFrom_below {B : Nat} {W W' : World} (h : Below W.heap.size W W') : KeepsFrom B W W' := ⟨h.size, fun k o _ hk _ => (h.block k (lt_of_heap hk)).trans hk⟩

/-- The end of Insert: the rounds' deferred calls are taken up (there are none). -/
theorem ins_end {w W w9 : World} {D nb : Nat} {T : Tr} {m : Int} (h0 : Below w.heap.size w W) (h9 : Below W.heap.size W w9) (hT : TAt R W T) (hK : W.heap[D]? = some (.deferred (some []))) (hD : w.heap.size ≤ D) :
    (w9.alloc (.cells #[.pointer (some ⟨T.a, 0, none⟩), .int .i64 m] 68)).heap[D]? = some (.deferred (some [])) ∧
    Below w.heap.size w ((w9.alloc (.cells #[.pointer (some ⟨T.a, 0, none⟩), .int .i64 m] 68)).putObj D (.deferred none)) ∧
    TreeAtO R.old ((w9.alloc (.cells #[.pointer (some ⟨T.a, 0, none⟩), .int .i64 m] 68)).putObj D (.deferred none)) w9.heap.size T m ∧ w.heap.size ≤ w9.heap.size := by
  obtain ⟨X, HX⟩ : ∃ X, X = w9.alloc (.cells #[.pointer (some ⟨T.a, 0, none⟩), .int .i64 m] 68) := ⟨_, rfl⟩
  have h9X : Below w9.heap.size w9 X := by rw [HX]; exact (Below.refl _ _).alloc (Nat.le_refl _) _
  have hWX : Below W.heap.size W X := h9.trans (h9X.mono h9.size)
  have hnew : X.heap[w9.heap.size]? = some (.cells #[.pointer (some ⟨T.a, 0, none⟩), .int .i64 m] 68) := by rw [HX]; exact heap_alloc_new _ _
  rw [← HX]
  have hKX : X.heap[D]? = some (.deferred (some [])) := (hWX.block _ (lt_of_heap hK)).trans hK
  have hr : ∀ r, some D = some r → ∃ o : Obj, X.heap[r]? = some o ∧ isMark o = true := fun r e => by cases e; exact ⟨_, hKX, rfl⟩
  have hg := grownBy_putObj' X D (.deferred none)
  have h0X : Below w.heap.size w X := h0.trans (hWX.mono h0.size)
  refine ⟨hKX, h0X.grown hg h0X.size (fun k e => by cases e; exact hD), ⟨heap_kept hnew hg hr, ((hT.less (R' := fun _ => False) (fun b hb => hb.elim)).keep hWX).grown hg hr⟩, Nat.le_trans h0.size h9.size⟩

/-- Between two rounds of the loop. -/
structure InsI (O : Nat → Prop) (w : World) (k : ByteArray) (v : Vl) (all : List Tr) (L kb nb S : Nat) (ix : List Nat) (W : World) (T : Tr) : Prop where
  size : S ≤ W.heap.size
  below : Below w.heap.size w W
  kbox : W.heap[kb]? = some (.cells #[.string k] 9)
  nbox : W.heap[nb]? = some (.cells #[.pointer (some ⟨T.a, 0, none⟩)] 35)
  tat : TAt ⟨(· = nb), O⟩ W T
  rel : ∀ m, m ≤ L → ix = downTo L m → ∀ u, all[L - m]? = some u → InsR w.heap.size k v u T

set_option maxRecDepth 100000 in
set_option maxHeartbeats 4000000 in
theorem insertO_calls (tb : Nat) (t : Tr) (ne : Int) (k : ByteArray) (n : Int) (w : World) (init : List Tr) (c : Tr) (hT : TreeAtO O w tb t ne) (hw : WF t) (hp : t.path <+: k.data.toList) (hks : k.size ≤ 140737488351296) (hA : Along k.data.toList t (init ++ [c])) (hd : init.length + 1 ≤ 17592186044416)
    (hne0 : -4611686018427387904 ≤ ne) (hne1 : ne ≤ 4611686018427387904) :
    Calls Try.prog 23 #[.pointer (some ⟨tb, 0, none⟩), .string k, .int .i64 n] w fun e w' => ∃ tb' T' va vg, e = .returned (.tuple #[.pointer (some ⟨tb', 0, none⟩), held (valAt c k), .bool (valAt c k).isSome]) ∧ Below w.heap.size w w' ∧
      TreeAtO O w' tb' T' (ne + plusNew (valAt c k)) ∧ InsR w.heap.size k ⟨va, .int .i64 n, vg⟩ t T' ∧ w.heap.size ≤ va ∧ w.heap.size ≤ vg ∧ w.heap.size ≤ tb' := by
  have hmf : ∀ (fn : Fn) (first cap : Array Value) (w : World), (Instr.makeFunc fn first cap).run Try.prog w = .ok (.func fn first cap) w := fun _ _ _ _ => rfl
  have hnot : ∀ (x : Bool) (w : World), (Op.unary .not (.bool x)).run Try.prog w = .ok (.bool (!x)) w := fun _ _ => rfl
  have hb0 := lt_of_heap hT.blk
  obtain ⟨w1, HW1⟩ : ∃ w1, Hid (w1 = w.alloc (.cells #[.string k] 9)) := ⟨_, rfl⟩
  have hb1 : Below w.heap.size w w1 := by rw [HW1.out]; exact (Below.refl _ _).alloc (Nat.le_refl _) _
  have hs1 : w1.heap.size = w.heap.size + 1 := by rw [HW1.out]; simp [World.size_alloc]
  have hkb : w1.heap[w.heap.size]? = some (.cells #[.string k] 9) := by rw [HW1.out]; exact heap_alloc_new w _
  have t0 : w1.cell? ⟨tb, 0, none⟩ = some (.pointer (some ⟨t.a, 0, none⟩)) := by rw [hb1.cell (by exact hb0), cell_of_blk hT.blk]; rfl
  have k0 : w1.cell? ⟨w.heap.size, 0, none⟩ = some (.string k) := by rw [cell_of_blk hkb]; rfl
  have HWY := way_calls t k w1.drew init c hA (hT.tat.keep ⟨hb1.os, hb1.tape, hb1.output, hb1.size, hb1.block⟩) hw hp hks hd (fun b hb => hb.elim)
  have HT : Hid (TreeAtO O w tb t ne) := hT
  have HWF : Hid (WF t) := hw
  have HA : Hid (Along k.data.toList t (init ++ [c])) := hA
  have HP : Hid (t.path <+: k.data.toList) := hp
  have HB1 : Hid (Below w.heap.size w w1 ∧ w1.heap[w.heap.size]? = some (.cells #[.string k] 9)) := ⟨hb1, hkb⟩
  clear hT hw hA hp hb1 hkb
  refine (callsIn_wide (n := 8)).1 ?_
  refine callsIn_of_wp_marks Try.func23 rfl trivial ?_ rfl
  refine wpIn_wide.2 ?_
  simp only [Try.ntmps23, List.size_toArray, List.length_cons, List.length_nil, Nat.reduceAdd, Nat.reduceSub, Array.replicate_succ, Array.replicate_zero, List.push_toArray, List.append_toArray, List.nil_append, List.cons_append]
  go_wp2_with fail
  rw [← HW1.out]
  clear HW1
  go_region_held3 (fun W => W.cell? ⟨tb, 0, none⟩ = some (.pointer (some ⟨t.a, 0, none⟩)) ∧ W.cell? ⟨w.heap.size, 0, none⟩ = some (.string k)) (first | (exact q3) | go_keep)
    (first
      | (go_at_call 27
         refine HWY.mono ?_
         rintro e w2 ⟨g, cap, rfl, hb2, hk2, hgl2⟩
         have q3 : w2.cell? ⟨tb, 0, none⟩ = some (.pointer (some ⟨t.a, 0, none⟩)) ∧ w2.cell? ⟨w.heap.size, 0, none⟩ = some (.string k) := ⟨by rw [hb2.cell (by show tb < w1.heap.size; omega)]; exact t0, by rw [hb2.cell (by show w.heap.size < w1.heap.size; omega)]; exact k0⟩
         have HW2 : Hid (Below w1.heap.size w1 w2 ∧ KidsAt (nRo O) w2 (some ⟨g, 0, none⟩) init ∧ g < w2.heap.size) := ⟨⟨hb2.os, hb2.tape, hb2.output, hb2.size, hb2.block⟩, hk2, hgl2⟩
         clear hb2 hk2 hgl2 HWY))
  go_wp2_with fail
  have hz2 : w.heap.size + 1 ≤ w2.heap.size := by have := HW2.out.1.size; omega
  have h02 : Below w.heap.size w w2 := HB1.out.1.trans (HW2.out.1.mono HB1.out.1.size)
  have HC2 : Hid (TAt (nRo O) w2 c) := along_tat HA.out (HT.out.tat.keep h02) c (by simp)
  have HWC : Hid (WF c ∧ c.path <+: k.data.toList ∧ nx c k.data.toList = none) := ⟨HA.out.wf HWF.out c (by simp), HA.out.pre HP.out c (by simp), by
    have := HA.out.step init.length (by simp)
    simpa using this⟩
  have H02 : Hid (Below w.heap.size w w2) := h02
  have k2 := q3.2
  clear h02 q3
  go_cut [11] from 26 to 30 (fun s11 wx => ∃ (nb : Nat) (T : Tr) (va vg : Nat), s11 = .pointer (some ⟨nb, 0, none⟩) ∧ Hid (InsMid O w k ⟨va, .int .i64 n, vg⟩ c init w.heap.size g nb T wx))
  case first =>
    go_region_held3 (fun W => W.cell? ⟨w.heap.size, 0, none⟩ = some (.string k)) (first | (exact q5) | (exact q4) | (rw [World.cell?_setCell_other _ _ _ _ (by intro e; have := congrArg Addr.block e; simp at this; omega)]; exact q5) | go_keep)
      (first
        | (go_at_call 46
           refine (newValue_some (O := O) n _).mono ?_
           rintro e w3 ⟨va, vg, rfl, hb3, hv3, hva, hvg⟩
           have q4 : w3.cell? ⟨w.heap.size, 0, none⟩ = some (.string k) := by
             rw [hb3.cell (by simp; omega)]; first | assumption | (simp; assumption) | go_keep
           have hc3 : TAt (nRo O) w3 c := HC2.out.keep (by first | exact below_drew hb3 | exact below_drew (below_alloc hb3).1 | exact (below_alloc (below_drew hb3)).1)
           have HC3 : Hid (TAt (nRo O) w3 c) := hc3
           have HVA : Hid (VAt O w3 ⟨va, .int .i64 n, vg⟩ ∧ w2.heap.size ≤ va ∧ w2.heap.size ≤ vg) := ⟨hv3, by simp at hva; omega, by simp at hvg; omega⟩
           have HB3 : Hid (Below w2.heap.size w2 w3) := (by first | exact below_drew hb3 | exact below_drew (below_alloc hb3).1 | exact (below_alloc (below_drew hb3)).1)
           try (have N3 : Hid (w3.heap[w2.heap.size]? = some (.cells #[.pointer none] 35)) := (by first | exact (below_alloc hb3).2 | exact (below_alloc (below_drew hb3)).2))
           have hz3 : w2.heap.size ≤ w3.heap.size := by have := hb3.size; simp at this; omega
           clear hb3 hv3 hc3 hva hvg)
        | (go_at_call 45
           refine (entry_boxes c k ⟨va, .int .i64 n, vg⟩ _ (by first | exact HC3.out | exact HC3.out.keep ((Below.refl _ _).alloc (Nat.le_refl _) _)) HWC.out.1 (by first | exact HVA.out.1 | exact HVA.out.1.below ((Below.refl _ _).alloc (Nat.le_refl _) _)) HWC.out.2.1 hks HWC.out.2.2).mono ?_
           rintro e w4 ⟨T, rfl, hb4, hT4, hE4⟩
           have q5 : w4.cell? ⟨w.heap.size, 0, none⟩ = some (.string k) := by
             rw [hb4.cell (by simp; omega)]; assumption
           have H4 : Hid _ := And.intro hb4 (And.intro hT4 hE4)
           try (have N4 : Hid (w4.heap[w2.heap.size]? = some (.cells #[.pointer none] 35)) := (hb4.block _ (lt_of_heap N3.out)).trans N3.out; have nc4 : w4.cell? ⟨w2.heap.size, 0, none⟩ = some (.pointer none) := (by rw [cell_of_blk N4.out]; rfl); have nz4 : w4.frozen? ⟨w2.heap.size, 0, none⟩ = false := frozen_of_blk N4.out)
           try (have N4 : Hid (w4.heap[w3.heap.size]? = some (.cells #[.pointer none] 35)) := (below_alloc hb4).2; have nc4 : w4.cell? ⟨w3.heap.size, 0, none⟩ = some (.pointer none) := (by rw [cell_of_blk N4.out]; rfl); have nz4 : w4.frozen? ⟨w3.heap.size, 0, none⟩ = false := frozen_of_blk N4.out)
           clear hb4 hT4 hE4))
    · go_wp2
      go_meet
      have h4 := H4.out
      exact ⟨_, T, va, vg, rfl, mid_alloc HB1.out HW2.out (by omega) (HB3.out.trans (h4.1.mono hz3)) h4.2.1 h4.2.2 (by omega) (HVA.out.1.below h4.1) HVA.out.2⟩
    · go_wp2
      go_meet
      have h4 := H4.out
      have hb := below_alloc h4.1
      have hz : (w3.alloc (.cells #[.pointer none] 35)).heap.size = w3.heap.size + 1 := by simp [World.size_alloc]
      exact ⟨_, T, va, vg, rfl, mid_store HB1.out HW2.out (by omega) (HB3.out.trans (hb.1.mono hz3)) N4.out hz3 h4.2.1 (by exact heap_alloc_new _ _) h4.2.2 (by omega) (HVA.out.1.below hb.1) HVA.out.2⟩
    · go_wp2
      go_meet
      have h4 := H4.out
      exact ⟨_, T, va, vg, rfl, mid_store HB1.out HW2.out (by omega) (HB3.out.trans (h4.1.mono hz3)) N4.out (Nat.le_refl _) h4.2.1 N3.out h4.2.2 (by omega) (HVA.out.1.below h4.1) HVA.out.2⟩
  case rest =>
    obtain ⟨nb, T, va, vg, rfl, HM⟩ := hcut
    clear HB1 HW2 HC2 HWC H02 k2 t0 k0 hs1 hz2
    go_wp2_with fail
    refine (backward_calls _ _ _ wc).mono ?_
    rintro e w6 ⟨rfl, hw6⟩
    have HW6 : Hid (w6 = wc.alloc (.cells #[.slice (some ⟨g, 0, none⟩) init.length cap] 65)) := hw6
    clear hw6
    go_wp2_with fail
    have hm := HM.out
    have h06 : Below w.heap.size w w6 := by rw [HW6.out]; exact hm.below.alloc hm.below.size _
    have h66 : Below wc.heap.size wc w6 := by rw [HW6.out]; exact (Below.refl _ _).alloc (Nat.le_refl _) _
    have hbox6 : w6.heap[wc.heap.size]? = some (.cells #[.slice (some ⟨g, 0, none⟩) init.length cap] 65) := by rw [HW6.out]; exact heap_alloc_new _ _
    have hs6 : w6.heap.size = wc.heap.size + 1 := by rw [HW6.out]; simp [World.size_alloc]
    have hnl := lt_of_heap hm.nbox
    have hkl := lt_of_heap hm.kbox
    have hnbl := hm.nbl
    refine (wpIn_wide (n := 8)).1 ?_
    refine range_law (n := 8) (by omega) (gf := 53) (lb := #[.pointer (some ⟨wc.heap.size, 0, none⟩)]) rfl (enters_of Try.func53 (by kernel_rfl) rfl)
      (back_seq wc.heap.size g cap init (by omega) w6 (by rw [cell_of_blk hbox6]; rfl) (hm.way.below h66)) (fun h1 h2 => h1.trans h2) ?hKb (Below.refl _ _) (fun _ => rfl)
      (fun pre W => ∃ T, InsI O w k ⟨va, .int .i64 n, vg⟩ (init ++ [c]) init.length w.heap.size nb w6.heap.size (pre.map (·.val)) W T)
      (fun _ _ _ => False) ?hI (fun _ _ _ _ _ h _ _ => h) ?h0 ?a1 ?assign ?body ?done ?stop
    case assign =>
      intro l m x W K hK
      dsimp only [encN]
      gi_wp2
      exact hK
    case hKb =>
      intro W l o o' hl h1 h2
      have hg1 := hm.gne.2
      exact ⟨World.putObj_heap_other (by omega), World.putObj_heap_other (by omega)⟩
    case hI =>
      intro pre A B row hs hg hr
      obtain ⟨T1, hI1⟩ := hs
      exact ⟨T1, Nat.le_trans hI1.size hg.size, hI1.below.grown hg hI1.below.size (fun r e => by have := (hr r e).1; have := h06.size; omega), heap_kept hI1.kbox hg (fun r e => (hr r e).2), heap_kept hI1.nbox hg (fun r e => (hr r e).2), hI1.tat.grown hg (fun r e => (hr r e).2), hI1.rel⟩
    case h0 =>
      refine ⟨T, Nat.le_refl _, h06, (h66.block _ hkl).trans hm.kbox, (h66.block _ hnl).trans hm.nbox, hm.tat.keep h66, ?_⟩
      intro m hml hmx u hu
      have hm0 : m = 0 := by have := congrArg List.length hmx; simpa [downTo_length] using this.symm
      subst hm0
      have hnx : nx c k.data.toList = none := by have := HA.out.step init.length (by simp); simpa using this
      simp at hu
      subst hu
      exact .entry hnx hm.ent
    case stop =>
      intro D c' pre W _ _ h _
      exact h.elim
    case body =>
      rintro l m pre x W _ ⟨T1, hI1⟩ hlen
      have hux : init[x.val] ∈ init ++ [c] := List.mem_append_left _ (List.getElem_mem x.isLt)
      have hwu := HA.out.wf HWF.out _ hux
      have hps : init[x.val].p.size < k.size := by
        have h1 := List.pairwise_iff_getElem.1 (HA.out.inc HWF.out).1 x.val init.length (by simp; omega) (by simp) x.isLt
        simp only [List.getElem_map, List.getElem_append_left x.isLt, List.getElem_append_right (Nat.le_refl _), Nat.sub_self, List.getElem_cons_zero] at h1
        have h2 := (HA.out.pre HP.out c (by simp)).length_le
        rw [path_length] at h2
        simp at h2
        omega
      have hTu : TAt ⟨(· = nb), O⟩ W init[x.val] := ((along_tat HA.out HT.out.tat _ hux).avoid (fun b hb => by have hb' : b = nb := hb; omega)).keep hI1.below
      have hnbW := lt_of_heap hI1.nbox
      have hkbW := lt_of_heap hI1.kbox
      obtain ⟨w7, HW7⟩ : ∃ w7, Hid (w7 = W.alloc (.cells #[.pointer (some ⟨T1.a, 0, none⟩)] 35)) := ⟨_, rfl⟩
      have hb7 : Below W.heap.size W w7 := by rw [HW7.out]; exact (Below.refl _ _).alloc (Nat.le_refl _) _
      have hblk7 : w7.heap[W.heap.size]? = some (.cells #[.pointer (some ⟨T1.a, 0, none⟩)] 35) := by rw [HW7.out]; exact heap_alloc_new _ _
      have HK := withKids_calls (R := ⟨(· = nb), O⟩) init[x.val] k ⟨some ⟨W.heap.size, 0, none⟩, 1, [T1]⟩ w7 (hTu.keep hb7) hwu hps hks (one_kid (by show ¬ W.heap.size = nb; omega) hblk7) (by simp) (fun t ht => by simp at ht; subst ht; exact hI1.tat.keep hb7) (fun b hb => by have hb' : b = nb := hb; have := hb7.size; omega)
      have kc : W.cell? ⟨w.heap.size, 0, none⟩ = some (.string k) := by rw [cell_of_blk hI1.kbox]; rfl
      have ncell : W.cell? ⟨nb, 0, none⟩ = some (.pointer (some ⟨T1.a, 0, none⟩)) := by rw [cell_of_blk hI1.nbox]; rfl
      have HI1 : Hid (InsI O w k ⟨va, .int .i64 n, vg⟩ (init ++ [c]) init.length w.heap.size nb w6.heap.size (pre.map (·.val)) W T1) := hI1
      have HB7 : Hid (Below W.heap.size W w7) := hb7
      have HWU : Hid (WF init[x.val]) := hwu
      have HM1 : Hid (InsMid O w k ⟨va, .int .i64 n, vg⟩ c init w.heap.size g nb T wc) := hm
      clear hI1 hb7 hblk7 hwu hTu hm hux
      gi_wp2_with fail
      refine ⟨trivial, (fun h => by cases h), ?_⟩
      rw [← HW7.out]
      refine (CallsIn.inRound l (callsIn_wide.2 HK)).mono ?_
      clear HK
      rintro e w8 ⟨a', g', rfl, hb8, ha8, hg8, hT8⟩
      have h78 : Below W.heap.size W w8 := HB7.out.trans (hb8.mono HB7.out.size)
      have nblk8 : w8.heap[nb]? = some (.cells #[.pointer (some ⟨T1.a, 0, none⟩)] 35) := (h78.block _ hnbW).trans HI1.out.nbox
      have ncell8 : w8.cell? ⟨nb, 0, none⟩ = some (.pointer (some ⟨T1.a, 0, none⟩)) := by rw [cell_of_blk nblk8]; rfl
      have nfz8 : w8.frozen? ⟨nb, 0, none⟩ = false := frozen_of_blk nblk8
      have H8 : Hid (Below W.heap.size W w8 ∧ w7.heap.size ≤ a' ∧ w7.heap.size ≤ g' ∧ w8.heap[nb]? = some (.cells #[.pointer (some ⟨T1.a, 0, none⟩)] 35)) := ⟨h78, ha8, hg8, nblk8⟩
      have HT8 : Hid (TAt ⟨(· = nb), O⟩ w8 (.nd a' init[x.val].p init[x.val].v (init[x.val].ks.take (posn init[x.val].ks init[x.val].p.size k[init[x.val].p.size]) ++ [T1] ++ init[x.val].ks.drop (behindOf init[x.val] k hps)) g')) := hT8
      clear hb8 ha8 hg8 hT8 h78 nblk8
      gi_wp2_with fail
      obtain ⟨h78, ha8, hg8, nblk8⟩ := H8.out
      have hI1 := HI1.out
      have hz7 := HB7.out.size
      have hz0 := hI1.below.size
      have hgw := HM1.out.gne
      refine ⟨(keepsFrom_below h78).trans ((KeepsOthers.setCell _ _ _).from _), ⟨?_, ?_⟩, .nd a' init[x.val].p init[x.val].v (init[x.val].ks.take (posn init[x.val].ks init[x.val].p.size k[init[x.val].p.size]) ++ [T1] ++ init[x.val].ks.drop (behindOf init[x.val] k hps)) g', ?_, ?_, ?_, ?_, ?_, ?_⟩
      · rw [heap_setCell_other _ _ _ _ (by show g ≠ nb; exact hgw.1)]
        exact h78.block _ (by have := hI1.size; omega)
      · rw [heap_setCell_other _ _ _ _ (by show wc.heap.size ≠ nb; omega)]
        exact h78.block _ (by have := hI1.size; omega)
      · have h1 := hI1.size
        have h2 := h78.size
        simp
        omega
      · exact (hI1.below.trans (h78.mono hz0)).setCell (by show w.heap.size ≤ nb; omega) _
      · rw [heap_setCell_other _ _ _ _ (by show w.heap.size ≠ nb; intro e; have h1 := hI1.kbox; rw [e, hI1.nbox] at h1; simp at h1)]
        exact (h78.block _ hkbW).trans hI1.kbox
      · rw [setCell_blk nblk8]; rfl
      · exact HT8.out.poke (i := 0) rfl nblk8 (by decide) (by decide) (by decide) _
      · intro m hml hmx u hu
        rw [List.map_append] at hmx
        cases m with
        | zero => simp [downTo] at hmx
        | succ m =>
          rw [downTo_succ] at hmx
          obtain ⟨h1, h2⟩ := List.append_inj' hmx rfl
          have hxv : x.val = init.length - 1 - m := by simpa using h2
          have hu' : u = init[x.val] := by
            rw [show init.length - (m + 1) = x.val by omega, List.getElem?_append_left x.isLt, List.getElem?_eq_getElem x.isLt] at hu
            exact (Option.some.inj hu).symm
          subst hu'
          have hst := HA.out.step x.val (by simp; omega)
          rw [List.getElem_append_left x.isLt] at hst
          have hlt : init.length - m < (init ++ [c]).length := by simp; omega
          rw [show x.val + 1 = init.length - m by omega, List.getElem?_eq_getElem hlt] at hst
          exact ins_down HWU.out hps hst (hI1.rel m (by omega) h1 _ (List.getElem?_eq_getElem hlt)) (by omega) (by omega)
    case done =>
      rintro D ys W hD hys ⟨T1, hI1⟩ hK
      have hnx : nx c k.data.toList = none := by have := HA.out.step init.length (by simp); simpa using this
      have hcm : c ∈ init ++ [c] := by simp
      have hcW : TAt (nRo O) W c := (along_tat HA.out HT.out.tat c hcm).keep hI1.below
      have HVO := valueOf_calls c k W [] c (.stop hnx) hcW (HA.out.wf HWF.out c hcm) (HA.out.pre HP.out c hcm) hks
      have HR : Hid (InsR w.heap.size k ⟨va, .int .i64 n, vg⟩ t T1) := by
        refine hI1.rel init.length (Nat.le_refl _) hys t ?_
        obtain ⟨r, hr⟩ := HA.out.head
        rw [hr]; simp
      have ncell : W.cell? ⟨nb, 0, none⟩ = some (.pointer (some ⟨T1.a, 0, none⟩)) := by rw [cell_of_blk hI1.nbox]; rfl
      have kcell : W.cell? ⟨w.heap.size, 0, none⟩ = some (.string k) := by rw [cell_of_blk hI1.kbox]; rfl
      have HI1 : Hid (Below w.heap.size w W ∧ TAt ⟨(· = nb), O⟩ W T1) := ⟨hI1.below, hI1.tat⟩
      have hnW := lt_of_heap hI1.nbox
      have HK : Hid (W.heap[D]? = some (.deferred (some []))) := hK
      have hDW := lt_of_heap hK
      have HHV : Hid (∀ x, valAt c k = some x → VAt O W x) := fun x hx => by
        unfold valAt at hx
        split at hx
        · cases hx
        · exact hcW.val' x hx
      have hDw : w.heap.size ≤ D := Nat.le_trans h06.size hD
      clear hI1 hK hcW hnx hcm hm h06 h66 hbox6 hs6
      go_wp2_with fail
      refine HVO.mono ?_
      clear HVO
      rintro e w9 ⟨rfl, hb9⟩
      have HG := get_calls (valAt c k) w9 (fun x hx => (HHV.out x hx).below hb9)
      have t1 : w9.cell? ⟨tb, 1, none⟩ = some (.int .i64 ne) := by
        have h0W := HI1.out.1
        rw [hb9.cell (by show tb < W.heap.size; have := h0W.size; omega), h0W.cell (by exact hb0), cell_of_blk HT.out.blk]; rfl
      have ncell9 : w9.cell? ⟨nb, 0, none⟩ = some (.pointer (some ⟨T1.a, 0, none⟩)) := by rw [hb9.cell (by exact hnW)]; exact ncell
      have HB9 : Hid (Below W.heap.size W w9) := hb9
      clear hb9 ncell kcell
      go_wp2_with fail
      refine HG.mono ?_
      clear HG
      rintro e w10 ⟨rfl, rfl⟩
      obtain ⟨hv, HHD⟩ : ∃ hv, Hid (hv = held (valAt c k)) := ⟨_, rfl⟩
      rw [← HHD.out]
      obtain ⟨had, HS⟩ : ∃ had, Hid (had = (valAt c k).isSome) := ⟨_, rfl⟩
      rw [← HS.out]
      cases had
      · have HPN : Hid (plusNew (valAt c k) = 1) := by show _ = _; unfold plusNew; rw [← HS.out]; rfl
        go_wp2_with fail
        obtain ⟨e1, e2, e3, e4⟩ := ins_end (m := ne + 1) (nb := nb) HI1.out.1 HB9.out HI1.out.2 HK.out hDw
        refine ⟨by simp, .inl ⟨_, _, rfl, run_takeDeferred e1, ?_⟩⟩
        exact ⟨.tuple #[.pointer (some ⟨w10.heap.size, 0, none⟩), hv, .bool false], by simp [results, Try.f23, go_sem], w10.heap.size, T1, va, vg, by rw [HHD.out, HS.out], e2, by rw [HPN.out]; exact e3, HR.out, HM.out.va.1, HM.out.va.2, e4⟩
      · have HPN : Hid (plusNew (valAt c k) = 0) := by show _ = _; unfold plusNew; rw [← HS.out]; rfl
        go_wp2_with fail
        obtain ⟨e1, e2, e3, e4⟩ := ins_end (m := ne) (nb := nb) HI1.out.1 HB9.out HI1.out.2 HK.out hDw
        refine ⟨by simp, .inl ⟨_, _, rfl, run_takeDeferred e1, ?_⟩⟩
        exact ⟨.tuple #[.pointer (some ⟨w10.heap.size, 0, none⟩), hv, .bool true], by simp [results, Try.f23, go_sem], w10.heap.size, T1, va, vg, by rw [HHD.out, HS.out], e2, by rw [HPN.out, Int.add_zero]; exact e3, HR.out, HM.out.va.1, HM.out.va.2, e4⟩
/-- A tree whose watches may all be fired. -/
abbrev TreeAt (w : World) (tb : Nat) (t : Tr) (n : Int) : Prop := TreeAtO anyO w tb t n
theorem insert_calls (tb : Nat) (t : Tr) (ne : Int) (k : ByteArray) (n : Int) (w : World) (init : List Tr) (c : Tr) (hT : TreeAt w tb t ne) (hw : WF t) (hp : t.path <+: k.data.toList) (hks : k.size ≤ 140737488351296) (hA : Along k.data.toList t (init ++ [c])) (hd : init.length + 1 ≤ 17592186044416)
    (hne0 : -4611686018427387904 ≤ ne) (hne1 : ne ≤ 4611686018427387904) :
    Calls Try.prog 23 #[.pointer (some ⟨tb, 0, none⟩), .string k, .int .i64 n] w fun e w' => ∃ tb' T' va vg, e = .returned (.tuple #[.pointer (some ⟨tb', 0, none⟩), held (valAt c k), .bool (valAt c k).isSome]) ∧ Below w.heap.size w w' ∧
      TreeAt w' tb' T' (ne + plusNew (valAt c k)) ∧ InsR w.heap.size k ⟨va, .int .i64 n, vg⟩ t T' ∧ w.heap.size ≤ va ∧ w.heap.size ≤ vg ∧ w.heap.size ≤ tb' :=
  insertO_calls tb t ne k n w init c hT hw hp hks hA hd hne0 hne1
end Go.Proofs.Ytcdfbbjakkmmoaa
