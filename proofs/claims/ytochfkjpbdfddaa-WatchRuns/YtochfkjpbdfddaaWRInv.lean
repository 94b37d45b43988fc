/- What WatchRuns keeps: many watches, many sets, and the document's sets beside them. -/
import Derived.Test.YtochfkjpbdfddaaWFInv
import Derived.Test.YtochfkjpbdfddaaWRefAdd
namespace Go.Proofs.Ytochfkjpbdfddaa
open Go.RowKit
set_option linter.unusedVariables false

/-- A set, beside the document's. -/
structure Sx where
  sb : Nat
  most : Int
  v : Value
  hd : List Nat
  hv : Value

/-- The blocks of the watches at these places. -/
def bl (wl : List (Nat × Nat)) (hd : List Nat) : List Nat := hd.map fun i => (wl.getD i (0, 0)).1
theorem bl_length (wl : List (Nat × Nat)) (hd : List Nat) : (bl wl hd).length = hd.length := by simp [bl]
theorem bl_append (wl : List (Nat × Nat)) (hd : List Nat) (a : Nat) : bl wl (hd ++ [a]) = bl wl hd ++ [(wl.getD a (0, 0)).1] := by simp [bl]
theorem bl_more (wl : List (Nat × Nat)) (p : Nat × Nat) (hd : List Nat) (h : ∀ i ∈ hd, i < wl.length) : bl (wl ++ [p]) hd = bl wl hd := by
  unfold bl
  refine List.map_congr_left fun i hi => ?_
  have := h i hi
  simp [List.getD, List.getElem?_append_left this]

structure SOk (W wr : World) (wl : List (Nat × Nat)) (k : Nat) (s : Sx) : Prop where
  set : SAt wr W.heap.size s.sb s.most s.v (bl wl s.hd)
  lsb : W.heap.size ≤ s.sb
  held : OwnV wr W.heap.size 3 s.hv (nums s.hd)
  inw : ∀ i ∈ s.hd, i < wl.length
  len : s.hd.length ≤ k
  fit : (s.hd.length : Int) ≤ s.most

structure Core (W wr : World) (wl : List (Nat × Nat)) (fs : List Bool) (sl : List Sx) (k : Nat) : Prop where
  below : Below W.heap.size W wr
  flen : fs.length = wl.length
  wlen : wl.length ≤ k
  slen : sl.length ≤ k
  wat : ∀ i, i < wl.length → WAt wr (wl.getD i (0, 0)).1 (wl.getD i (0, 0)).2 (fs.getD i false) ∧ W.heap.size ≤ (wl.getD i (0, 0)).1 ∧ W.heap.size ≤ (wl.getD i (0, 0)).2
  nod : (wl.map (·.1)).Nodup
  noc : (wl.map (·.2)).Nodup
  sat : ∀ s ∈ sl, SOk W wr wl k s
  sep : sl.Pairwise fun s t => s.sb ≠ t.sb ∧ ∀ k, s.v.ownBlock = some k → t.v.ownBlock ≠ some k

section
variable {W wr w' : World} {wl : List (Nat × Nat)} {fs : List Bool} {sl : List Sx} {k : Nat} {T : List Nat}

theorem SOk.touch {s : Sx} (h : SOk W wr wl k s) (ht : Touched T wr w') (h1 : s.sb ∉ T) (h2 : ∀ k, s.v.ownBlock = some k → k ∉ T) (h3 : ∀ k, s.hv.ownBlock = some k → k ∉ T) : SOk W w' wl k s :=
  ⟨h.set.touched ht h1 h2, h.lsb, h.held.touched ht h3, h.inw, h.len, h.fit⟩
theorem SOk.more {s : Sx} (h : SOk W wr wl k s) {k' : Nat} (hk : k ≤ k') : SOk W wr wl k' s := ⟨h.set, h.lsb, h.held, h.inw, Nat.le_trans h.len hk, h.fit⟩

theorem Core.touch (h : Core W wr wl fs sl k) (ht : Touched T wr w') (hB : ∀ b ∈ T, W.heap.size ≤ b) (hw : ∀ i, i < wl.length → (wl.getD i (0, 0)).1 ∉ T ∧ (wl.getD i (0, 0)).2 ∉ T)
    (hs : ∀ s ∈ sl, s.sb ∉ T ∧ (∀ k, s.v.ownBlock = some k → k ∉ T) ∧ ∀ k, s.hv.ownBlock = some k → k ∉ T) : Core W w' wl fs sl k :=
  ⟨h.below.trans (ht.toBelow h.below.size hB), h.flen, h.wlen, h.slen, fun i hi => ⟨(h.wat i hi).1.touched ht (hw i hi).1 (hw i hi).2, (h.wat i hi).2⟩, h.nod, h.noc,
    fun s hm => (h.sat s hm).touch ht (hs s hm).1 (hs s hm).2.1 (hs s hm).2.2, h.sep⟩
theorem Core.later (h : Core W wr wl fs sl k) (hb : Below wr.heap.size wr w') : Core W w' wl fs sl k :=
  h.touch (Touched.ofBelow hb []) (by simp) (by simp) (by simp)
theorem Core.more (h : Core W wr wl fs sl k) {k' : Nat} (hk : k ≤ k') : Core W wr wl fs sl k' :=
  ⟨h.below, h.flen, Nat.le_trans h.wlen hk, Nat.le_trans h.slen hk, h.wat, h.nod, h.noc, fun s hs => (h.sat s hs).more hk, h.sep⟩

/-- Blocks of another type are written. -/
theorem Core.typed {t : TypeId} (h : Core W wr wl fs sl k) (ht : Touched T wr w') (hT : ∀ b ∈ T, W.heap.size ≤ b ∧ ∃ cs, wr.heap[b]? = some (.cells cs t)) (h1 : t ≠ 58) (h2 : t ≠ 61) (h3 : t ≠ 3)
    (hv : ∀ s ∈ sl, ∀ b ∈ T, s.v.ownBlock ≠ some b) : Core W w' wl fs sl k :=
  h.touch ht (fun b hb => (hT b hb).1)
    (fun i hi => ⟨fun hm => own_ne (hT _ hm).2 (h.wat i hi).1.blk h1 rfl, fun hm => own_ne_chan (hT _ hm).2 (h.wat i hi).1.chn rfl⟩)
    (fun s hs => ⟨fun hm => own_ne (hT _ hm).2 (h.sat s hs).set.blk h2 rfl, fun b hb hm => hv s hs b hm hb, fun b hb hm => by
      obtain ⟨cs, hc⟩ := (h.sat s hs).held.typed b hb
      exact own_ne (hT b hm).2 hc h3 rfl⟩)
/-- A slice whose elements are no pointers to watches. -/
theorem Core.typed' {t : TypeId} (h : Core W wr wl fs sl k) (ht : Touched T wr w') (hT : ∀ b ∈ T, W.heap.size ≤ b ∧ ∃ cs, wr.heap[b]? = some (.cells cs t)) (h1 : t ≠ 58) (h2 : t ≠ 61) (h3 : t ≠ 3) (h4 : t ≠ 31) : Core W w' wl fs sl k :=
  h.typed ht hT h1 h2 h3 fun s hs b hb e => by
    obtain ⟨cs, hc⟩ := (h.sat s hs).set.own.typed b e
    exact own_ne (hT b hb).2 hc h4 rfl

theorem getD_mem {α : Type} {l : List α} {i : Nat} {d : α} (h : i < l.length) : l.getD i d ∈ l := by simp [List.getD, h]
theorem getD_map {α β : Type} (f : α → β) {l : List α} {i : Nat} {d : α} (h : i < l.length) : (l.map f)[i]'(by simpa using h) = f (l.getD i d) := by simp [List.getD, h]

theorem Core.inj1 (h : Core W wr wl fs sl k) {i j : Nat} (hi : i < wl.length) (hj : j < wl.length) (e : (wl.getD i (0, 0)).1 = (wl.getD j (0, 0)).1) : i = j :=
  inj_of_nodup h.nod (by simpa using hi) (by simpa using hj) (by rw [getD_map (·.1) (d := (0, 0)) hi, getD_map (·.1) (d := (0, 0)) hj]; exact e)
theorem Core.inj2 (h : Core W wr wl fs sl k) {i j : Nat} (hi : i < wl.length) (hj : j < wl.length) (e : (wl.getD i (0, 0)).2 = (wl.getD j (0, 0)).2) : i = j :=
  inj_of_nodup h.noc (by simpa using hi) (by simpa using hj) (by rw [getD_map (·.2) (d := (0, 0)) hi, getD_map (·.2) (d := (0, 0)) hj]; exact e)

/-- A watch is fired. -/
theorem Core.fire (h : Core W wr wl fs sl k) {a : Nat} (ha : a < wl.length) (ht : Touched [(wl.getD a (0, 0)).1, (wl.getD a (0, 0)).2] wr w') (hw : WAt w' (wl.getD a (0, 0)).1 (wl.getD a (0, 0)).2 true) : Core W w' wl (fs.set a true) sl k := by
  have hpw := (h.wat a ha).1
  refine ⟨h.below.trans (ht.toBelow h.below.size ?_), by rw [List.length_set]; exact h.flen, h.wlen, h.slen, ?_, h.nod, h.noc, ?_, h.sep⟩
  · intro b hb
    simp at hb
    rcases hb with rfl | rfl
    · simpa using (h.wat a ha).2.1
    · simpa using (h.wat a ha).2.2
  · intro i hi
    refine ⟨?_, (h.wat i hi).2⟩
    by_cases he : i = a
    · subst he
      have : (fs.set i true).getD i false = true := by simp [List.getD, h.flen, hi]
      rw [this]; exact hw
    · have hqw := (h.wat i hi).1
      have : (fs.set a true).getD i false = fs.getD i false := by simp [List.getD, List.getElem?_set_ne (Ne.symm he)]
      rw [this]
      refine hqw.touched ht ?_ ?_
      · simp only [List.mem_cons, List.not_mem_nil, or_false, not_or]
        exact ⟨fun e => he (h.inj1 hi ha e), hqw.ne hpw⟩
      · simp only [List.mem_cons, List.not_mem_nil, or_false, not_or]
        exact ⟨fun e => hpw.ne hqw e.symm, fun e => he (h.inj2 hi ha e)⟩
  · intro s hs
    have hn := hpw.ne_set (h.sat s hs).set
    refine (h.sat s hs).touch ht ?_ ?_ ?_
    · simp only [List.mem_cons, List.not_mem_nil, or_false, not_or]; exact ⟨fun e => hn.1 e.symm, fun e => hn.2.1 e.symm⟩
    · intro b hb
      simp only [List.mem_cons, List.not_mem_nil, or_false, not_or]; exact hn.2.2 b hb
    · intro b hb
      simp only [List.mem_cons, List.not_mem_nil, or_false, not_or]
      exact ⟨own_ne ((h.sat s hs).held.typed b hb) hpw.blk (by decide), own_ne_chan ((h.sat s hs).held.typed b hb) hpw.chn⟩

/-- A new watch. -/
theorem Core.add (h : Core W wr wl fs sl k) {b c : Nat} (hw : WAt wr b c false) (hb : W.heap.size ≤ b) (hc : W.heap.size ≤ c) (hnb : b ∉ wl.map (·.1)) (hnc : c ∉ wl.map (·.2)) : Core W wr (wl ++ [(b, c)]) (fs ++ [false]) sl (k + 1) := by
  refine ⟨h.below, by simp [h.flen], by have := h.wlen; simp; omega, by have := h.slen; omega, ?_, ?_, ?_, ?_, h.sep⟩
  · intro i hi
    by_cases he : i < wl.length
    · have e1 : (wl ++ [(b, c)]).getD i (0, 0) = wl.getD i (0, 0) := by simp [List.getD, List.getElem?_append_left he]
      have e2 : (fs ++ [false]).getD i false = fs.getD i false := by simp [List.getD, List.getElem?_append_left (h.flen ▸ he)]
      rw [e1, e2]; exact h.wat i he
    · have hi' : i = wl.length := by simp at hi; omega
      subst hi'
      have e1 : (wl ++ [(b, c)]).getD wl.length (0, 0) = (b, c) := by simp [List.getD]
      have e2 : (fs ++ [false]).getD wl.length false = false := by rw [← h.flen]; simp [List.getD]
      rw [e1, e2]; exact ⟨hw, hb, hc⟩
  · rw [List.map_append]
    exact List.nodup_append.2 ⟨h.nod, by simp, by intro a ha b' hb' e; simp at hb'; subst hb'; subst e; exact hnb ha⟩
  · rw [List.map_append]
    exact List.nodup_append.2 ⟨h.noc, by simp, by intro a ha b' hb' e; simp at hb'; subst hb'; subst e; exact hnc ha⟩
  · intro s hs
    have := h.sat s hs
    exact ⟨by rw [bl_more _ _ _ this.inw]; exact this.set, this.lsb, this.held, fun i hi => by have := this.inw i hi; simp; omega, Nat.le_succ_of_le this.len, this.fit⟩

/-- The place of the first fired one is the document's. -/
theorem pos_bl {fz : Nat → Bool} {g : Nat → Bool} {hd : List Nat} (hh : ∀ i ∈ hd, fz (wl.getD i (0, 0)).1 = g i) : posOf fz (bl wl hd) = posOf g hd := by
  unfold posOf bl
  have : (hd.map fun i => (wl.getD i (0, 0)).1).findIdx? fz = hd.findIdx? g := by
    rw [List.findIdx?_map]
    induction hd with
    | nil => rfl
    | cons x xs ih =>
      have h1 : (fz ∘ fun i => (wl.getD i (0, 0)).1) x = g x := hh x (by simp)
      have h2 := ih fun i hi => hh i (by simp [hi])
      rw [List.findIdx?_cons, List.findIdx?_cons, h2]
      simp only [h1]
  rw [this]

/-- Which watch is fired, by its block. -/
def fzOf (wl : List (Nat × Nat)) (fs : List Bool) (b : Nat) : Bool := match (wl.map (·.1)).findIdx? (· == b) with | some i => fs.getD i false | none => false
theorem Core.fzOf (h : Core W wr wl fs sl k) {i : Nat} (hi : i < wl.length) : fzOf wl fs (wl.getD i (0, 0)).1 = fs.getD i false := by
  have : (wl.map (·.1)).findIdx? (· == (wl.getD i (0, 0)).1) = some i := by
    rw [List.findIdx?_eq_some_iff_getElem]
    refine ⟨by simpa using hi, by simp [List.getD, hi], fun j hj => ?_⟩
    have hjl : j < wl.length := by omega
    rw [getD_map (·.1) (d := (0, 0)) hjl]
    simp only [beq_iff_eq]
    intro e
    have := h.inj1 hjl hi e
    omega
  unfold Go.Proofs.Ytochfkjpbdfddaa.fzOf
  rw [this]
theorem Core.heldW (h : Core W wr wl fs sl k) {s : Sx} (hs : s ∈ sl) : ∀ x ∈ bl wl s.hd, ∃ c, WAt wr x c (Go.Proofs.Ytochfkjpbdfddaa.fzOf wl fs x) := by
  intro x hx
  obtain ⟨i, hi, rfl⟩ := List.mem_map.1 hx
  have hl := (h.sat s hs).inw i hi
  exact ⟨_, by rw [h.fzOf hl]; exact (h.wat i hl).1⟩
theorem Core.pos (h : Core W wr wl fs sl k) {s : Sx} (hs : s ∈ sl) : posOf (Go.Proofs.Ytochfkjpbdfddaa.fzOf wl fs) (bl wl s.hd) = posOf (fun i => fs.getD i false) s.hd :=
  pos_bl fun i hi => h.fzOf ((h.sat s hs).inw i hi)
theorem Core.anyIn (h : Core W wr wl fs sl k) {s : Sx} (hs : s ∈ sl) {a : Nat} (ha : a < wl.length) : (bl wl s.hd).any ((wl.getD a (0, 0)).1 == ·) = decide (a ∈ s.hd) := by
  rw [Bool.eq_iff_iff]
  simp only [List.any_eq_true, bl, List.mem_map, beq_iff_eq, decide_eq_true_eq]
  constructor
  · rintro ⟨x, ⟨i, hi, rfl⟩, e⟩
    have := h.inj1 ha ((h.sat s hs).inw i hi) e
    subst this; exact hi
  · intro hm
    exact ⟨_, ⟨a, hm, rfl⟩, rfl⟩
end
end Go.Proofs.Ytochfkjpbdfddaa
