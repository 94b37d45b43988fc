import Derived.Test.YtcdfbbjakkmmoaaKOwn
import Derived.WalkKit
import Derived.WalkSpells
import Derived.WalkLawsBesides
import Derived.Deep.Light
/- Slices of one-cell elements that a call has made itself, beside watches. -/
namespace Go.Proofs.Ytcdfbbjakkmmoaa
open Go.RowKit
set_option linter.unusedVariables false

/-- The slice v of one-cell elements, made by the call itself, holds the values vs. -/
def OwnV (w : World) (B : Nat) (e : TypeId) (v : Value) (vs : List Value) : Prop := w.ownsRow B e 1 v vs.length vs

theorem OwnV.nil (w : World) (B : Nat) (e : TypeId) : OwnV w B e (.slice none 0 0) [] := World.ownsRow_nil _ _ _ _
theorem OwnV.alloc {w : World} {B : Nat} {e : TypeId} {v : Value} {l : List Value} (h : OwnV w B e v l) (o : Obj) : OwnV (w.alloc o) B e v l := World.ownsRow.alloc h o
theorem OwnV.lt {w : World} {B : Nat} {e : TypeId} {v : Value} {l : List Value} (h : OwnV w B e v l) : ∀ k, v.ownBlock = some k → B ≤ k ∧ k < w.heap.size := World.ownsRow.lt h
theorem OwnV.shape {w : World} {B : Nat} {e : TypeId} {v : Value} {l : List Value} (h : OwnV w B e v l) : ∃ ao cap, v = .slice ao l.length cap := by
  rcases h.2 with ⟨rfl, h0⟩ | ⟨g, cap, cur, rfl, _⟩
  · exact ⟨none, 0, by rw [h0]⟩
  · exact ⟨_, _, rfl⟩
theorem ownsRow_typed {w : World} {B : Nat} {e : TypeId} {size : Nat} {v : Value} {n : Nat} {l : List Value} (h : w.ownsRow B e size v n l) : ∀ k, v.ownBlock = some k → ∃ cs, w.heap[k]? = some (.cells cs e) := by
  intro k hk
  rcases h.2 with ⟨rfl, h0⟩ | ⟨g, cap, cur, rfl, hb, hg, _⟩
  · simp [Value.ownBlock] at hk
  · simp [Value.ownBlock] at hk
    subst hk
    exact ⟨cur, hg⟩
theorem OwnV.typed {w : World} {B : Nat} {e : TypeId} {v : Value} {l : List Value} (h : OwnV w B e v l) : ∀ k, v.ownBlock = some k → ∃ cs, w.heap[k]? = some (.cells cs e) := ownsRow_typed h
theorem ownsRow_touched {w w' : World} {B : Nat} {e : TypeId} {size : Nat} {v : Value} {n : Nat} {l : List Value} {T : List Nat} (h : w.ownsRow B e size v n l) (ht : Touched T w w') (hn : ∀ k, v.ownBlock = some k → k ∉ T) : w'.ownsRow B e size v n l := by
  refine ⟨h.1, ?_⟩
  rcases h.2 with h0 | ⟨g, cap, cur, rfl, hb, hg, r⟩
  · exact .inl h0
  · exact .inr ⟨g, cap, cur, rfl, hb, (ht.block g (lt_of_heap hg) (hn g (by simp [Value.ownBlock]))).trans hg, r⟩
theorem OwnV.touched {w w' : World} {B : Nat} {e : TypeId} {v : Value} {l : List Value} {T : List Nat} (h : OwnV w B e v l) (ht : Touched T w w') (hn : ∀ k, v.ownBlock = some k → k ∉ T) : OwnV w' B e v l := ownsRow_touched h ht hn
theorem OwnV.at {w : World} {B : Nat} {e : TypeId} {ao : Option Addr} {n cap : Nat} {l : List Value} (h : OwnV w B e (.slice ao n cap) l) (i : Nat) (hi : i < l.length) :
    ∃ g, ao = some ⟨g, 0, none⟩ ∧ w.cell? ⟨g, i, none⟩ = some l[i] := by
  rcases h.2 with ⟨he, h0⟩ | ⟨g, cap', cur, he, _⟩
  · omega
  · simp only [Value.slice.injEq] at he
    obtain ⟨rfl, rfl, rfl⟩ := he
    refine ⟨g, rfl, ?_⟩
    rw [World.ownsRow.cellAt h i (by omega)]
    simp [hi]

/-- No block of another type is the slice's. -/
theorem own_ne {w : World} {e t : TypeId} {k b : Nat} {cs : Array Value} (h : ∃ cs, w.heap[k]? = some (.cells cs e)) (hb : w.heap[b]? = some (.cells cs t)) (hne : e ≠ t) : k ≠ b := by
  intro he
  subst he
  obtain ⟨cs', hk⟩ := h
  have := hk.symm.trans hb
  simp at this
  exact hne this.2
theorem own_ne_chan {w : World} {e : TypeId} {k c cap s r : Nat} {buf : Array Value} {cl tm : Bool} (h : ∃ cs, w.heap[k]? = some (.cells cs e)) (hb : w.heap[c]? = some (.chan cap buf cl s r tm)) : k ≠ c := by
  intro he
  subst he
  obtain ⟨cs', hk⟩ := h
  have := hk.symm.trans hb
  cases this

theorem infoOf {P : Program} {e : TypeId} {z : Value} {a b : Nat} (h : (P.info? e).map (fun i => (i.zero, i.size, i.bytes)) = some (some z, a, b)) : ∃ i, P.info? e = some i ∧ i.zero = some z ∧ i.size = a ∧ i.bytes = b := by
  obtain ⟨i, hi, hb⟩ := Option.map_eq_some_iff.1 h
  simp only [Prod.mk.injEq] at hb
  exact ⟨i, hi, hb.1, hb.2.1, hb.2.2⟩

/-- append(s, u), u of one cell, laid right ahead. -/
theorem append_val (W : World) {ops : Array Oper} {rest : List Oper} {o : Oper} {a : Act} {Q : Exit → Act → World → Prop} (hgd : o.guard = none) (s x : Operand) (t e : TypeId) (z : Value) (bytes : Nat)
    (ht : Try.prog.underlying t = some (.slice e)) (hi : (Try.prog.info? e).map (fun i => (i.zero, i.size, i.bytes)) = some (some z, 1, bytes)) (hzs : z.cells.size = 1)
    (ho : o.op = .call { callee := .builtin .append, args := #[s, x], argTypes := #[t, t] })
    (B : Nat) (v : Value) (l : List Value) (hs : a.eval s = v) (u : Value) (hu : u.oneCell' = true) (g : Nat) (hx : a.eval x = .slice (some ⟨g, 0, none⟩) 1 1) 
    (hg : g = W.heap.size) (hown : OwnV W B e v l) (hm : l.length + 1 ≤ 9223372036854775807) (hlen : (l.length + 1) * bytes ≤ 140737488355328) (hB : B ≤ W.heap.size)
    (h : ∀ v' w', OwnV w' B e v' (l ++ [u]) → Grew W w' v v' → wpList Try.prog ops Q rest (a.put o.dst v') w') : wpList Try.prog ops Q (o :: rest) a (W.alloc (.cells #[u] e)) := by
  obtain ⟨i0, hi, hz0, hz1, hz2⟩ := infoOf hi
  subst hg
  refine wpList_append_grew _ hgd s x t ho B e i0 z 1 bytes ht hi hz0 hz1 hz2 hzs (by decide) v l.length l hs (hown.alloc _) ⟨W.heap.size, 0, none⟩ 1 1 [u] hx rfl (cells_new _ _ _) (by simp [hu]) (by unfold maxLen; omega) hlen (by simp; omega) ?_
  intro v' w' h1 h2 _
  refine h v' w' ?_ h2.ofAlloc
  unfold OwnV
  rw [List.length_append]
  exact h1

theorem Grew.touched {w w' : World} {v v' : Value} (h : Grew w w' v v') : Touched v.ownBlock.toList w w' :=
  ⟨h.grown.os, h.grown.tape, h.grown.output, h.grown.size, fun k hk hn => h.grown.block k hk (fun e => by rw [← e] at hn; simp at hn)⟩

theorem ret_int {a b : Int} (h : a = b) : Ending.returned (.int .i64 a) = .returned (.int .i64 b) := by rw [h]

/-- Pointers to watches, by their blocks. -/
def ptr (b : Nat) : Value := .pointer (some ⟨b, 0, none⟩)
def ptrs (l : List Nat) : List Value := l.map ptr
theorem ptrs_append (l m : List Nat) : ptrs (l ++ m) = ptrs l ++ ptrs m := by simp [ptrs]
theorem ptrs_length (l : List Nat) : (ptrs l).length = l.length := by simp [ptrs]

/-- The place of the first that p takes; -1: none. -/
def posOf (p : Nat → Bool) (l : List Nat) : Int := match l.findIdx? p with | some i => (i : Int) | none => -1
theorem posOf_hit {p : Nat → Bool} {l : List Nat} {k : Nat} (hk : k < l.length) (h : p l[k] = true) (hb : ∀ j (hj : j < l.length), j < k → p l[j] = false) : posOf p l = (k : Int) := by
  have : l.findIdx? p = some k := by
    rw [List.findIdx?_eq_some_iff_getElem]
    exact ⟨hk, h, fun j hj => by simp [hb j (by omega) hj]⟩
  simp [posOf, this]
theorem posOf_none {p : Nat → Bool} {l : List Nat} (hb : ∀ j (hj : j < l.length), p l[j] = false) : posOf p l = -1 := by
  have : l.findIdx? p = none := by
    rw [List.findIdx?_eq_none_iff]
    intro x hx
    obtain ⟨j, hj, rfl⟩ := List.getElem_of_mem hx
    exact hb j hj
  simp [posOf, this]
theorem posOf_nonneg {p : Nat → Bool} {l : List Nat} : decide (0 ≤ posOf p l) = l.any p := by
  unfold posOf
  cases h : l.findIdx? p with
  | some i =>
    rw [List.findIdx?_eq_some_iff_getElem] at h
    obtain ⟨hi, hp, _⟩ := h
    have : l.any p = true := List.any_eq_true.2 ⟨_, List.getElem_mem hi, hp⟩
    simp [this]
  | none =>
    rw [List.findIdx?_eq_none_iff] at h
    have : l.any p = false := by rw [List.any_eq_false]; intro x hx; simp [h x hx]
    simp [this]
end Go.Proofs.Ytcdfbbjakkmmoaa

/- Layer 3 (radix): trees as plain data: which are well made, the nodes along a key, what Insert makes. -/
namespace Go.Proofs.Ytcdfbbjakkmmoaa
open Go.RowKit
set_option linter.unusedVariables false

/-- A value: its block, what it holds, its watch's block. -/
structure Vl where
  a : Nat
  x : Value
  g : Nat

/-- A node: its block, its path, its value, its kids, its watch's block. -/
inductive Tr where
  | nd (a : Nat) (p : ByteArray) (v : Option Vl) (ks : List Tr) (g : Nat)

namespace Tr
def a : Tr → Nat | nd a _ _ _ _ => a
def p : Tr → ByteArray | nd _ p _ _ _ => p
def v : Tr → Option Vl | nd _ _ v _ _ => v
def ks : Tr → List Tr | nd _ _ _ ks _ => ks
def g : Tr → Nat | nd _ _ _ _ g => g
def path (t : Tr) : List UInt8 := t.p.data.toList
def byte (n : Nat) (t : Tr) : UInt8 := t.path.getD n 0
end Tr

theorem path_length (t : Tr) : t.path.length = t.p.size := by simp [Tr.path]

inductive WF : Tr → Prop
  | mk {a p v ks g} (kids : ∀ t ∈ ks, WF t) (ext : ∀ t ∈ ks, p.data.toList <+: t.path ∧ p.size < t.p.size) (ord : (ks.map (Tr.byte p.size)).Pairwise (· < ·)) : WF (.nd a p v ks g)

theorem WF.kids' {t : Tr} (h : WF t) : ∀ c ∈ t.ks, WF c := by cases h; assumption
theorem WF.ext' {t : Tr} (h : WF t) : ∀ c ∈ t.ks, t.path <+: c.path ∧ t.p.size < c.p.size := by cases h; assumption
theorem WF.ord' {t : Tr} (h : WF t) : (t.ks.map (Tr.byte t.p.size)).Pairwise (· < ·) := by cases h; assumption

def Dep : Nat → Tr → Prop
  | 0, _ => False
  | n + 1, t => ∀ c ∈ t.ks, Dep n c
theorem Dep.mono {n m : Nat} (hnm : n ≤ m) : ∀ {t : Tr}, Dep n t → Dep m t := by
  induction n generalizing m with
  | zero => intro t h; cases h
  | succ n ih =>
    intro t h
    cases m with
    | zero => omega
    | succ m => exact fun c hc => ih (by omega) (h c hc)

/-- The kid whose path is a beginning of k. -/
def nx (t : Tr) (k : List UInt8) : Option Tr := t.ks.find? fun c => c.path.isPrefixOf k

/-- The nodes along k. -/
inductive Along (k : List UInt8) : Tr → List Tr → Prop
  | stop {t} (h : nx t k = none) : Along k t [t]
  | go {t c l} (h : nx t k = some c) (r : Along k c l) : Along k t (t :: l)

theorem nx_mem {t c : Tr} {k : List UInt8} (h : nx t k = some c) : c ∈ t.ks ∧ c.path <+: k := by
  unfold nx at h
  exact ⟨List.mem_of_find?_eq_some h, by simpa using List.find?_some h⟩

theorem Along.ex {t : Tr} (h : WF t) (k : List UInt8) : ∃ l, Along k t l := by
  induction h with
  | @mk a p v ks g kids ext ord ih =>
    cases hn : nx (.nd a p v ks g) k with
    | none => exact ⟨_, .stop hn⟩
    | some c =>
      obtain ⟨l, hl⟩ := ih c (nx_mem hn).1
      exact ⟨_, .go hn hl⟩
theorem Along.uniq {t : Tr} {k : List UInt8} {l m : List Tr} (h : Along k t l) (h' : Along k t m) : l = m := by
  induction h generalizing m with
  | stop h => cases h' with
    | stop _ => rfl
    | go h2 _ => rw [h] at h2; cases h2
  | go h r ih => cases h' with
    | stop h2 => rw [h] at h2; cases h2
    | go h2 r2 => rw [h] at h2; cases h2; rw [ih r2]
theorem Along.ne {t : Tr} {k : List UInt8} {l : List Tr} (h : Along k t l) : l ≠ [] := by cases h <;> simp
theorem Along.head {t : Tr} {k : List UInt8} {l : List Tr} (h : Along k t l) : ∃ r, l = t :: r := by cases h <;> exact ⟨_, rfl⟩
theorem Along.len {t : Tr} {k : List UInt8} {l : List Tr} (h : Along k t l) {n : Nat} (hd : Dep n t) : l.length ≤ n := by
  induction h generalizing n with
  | stop h => cases n with
    | zero => cases hd
    | succ n => simp
  | go h r ih => cases n with
    | zero => cases hd
    | succ n => have := ih (hd _ (nx_mem h).1); simp; omega
theorem Along.pre {t : Tr} {k : List UInt8} {l : List Tr} (h : Along k t l) (ht : t.path <+: k) : ∀ c ∈ l, c.path <+: k := by
  induction h with
  | stop h => simpa using ht
  | go h r ih =>
    intro c hc
    rcases List.mem_cons.1 hc with rfl | hc
    · exact ht
    · exact ih (nx_mem h).2 c hc
theorem Along.wf {t : Tr} {k : List UInt8} {l : List Tr} (h : Along k t l) (ht : WF t) : ∀ c ∈ l, WF c := by
  induction h with
  | stop h => simpa using ht
  | go h r ih =>
    intro c hc
    rcases List.mem_cons.1 hc with rfl | hc
    · exact ht
    · exact ih (ht.kids' _ (nx_mem h).1) c hc
theorem Along.inc {t : Tr} {k : List UInt8} {l : List Tr} (h : Along k t l) (ht : WF t) : (l.map (·.p.size)).Pairwise (· < ·) ∧ ∀ c ∈ l, t.p.size ≤ c.p.size := by
  induction h with
  | stop h => simp
  | @go t c l h r ih =>
    obtain ⟨i1, i2⟩ := ih (ht.kids' _ (nx_mem h).1)
    have h3 := (ht.ext' _ (nx_mem h).1).2
    refine ⟨?_, ?_⟩
    · simp only [List.map_cons, List.pairwise_cons]
      refine ⟨?_, i1⟩
      intro x hx
      obtain ⟨y, hy, rfl⟩ := List.mem_map.1 hx
      have := i2 y hy
      omega
    · intro y hy
      rcases List.mem_cons.1 hy with rfl | hy
      · exact Nat.le_refl _
      · have := i2 y hy; omega
/-- Element i + 1 is what comes behind element i; behind the last comes none. -/
theorem Along.step {t : Tr} {k : List UInt8} {l : List Tr} (h : Along k t l) : ∀ i (hi : i < l.length), nx l[i] k = l[i + 1]? := by
  induction h with
  | stop h => intro i hi; simp at hi; subst hi; simpa using h
  | @go t c l h r ih =>
    intro i hi
    cases i with
    | zero =>
      obtain ⟨r', hr'⟩ := r.head
      subst hr'
      simpa using h
    | succ i => simpa using ih i (by simpa using hi)

/-! ### places among the kids -/

/-- The place of the byte among the kids' next bytes. -/
def posn (ks : List Tr) (n : Nat) (b : UInt8) : Nat := ks.findIdx fun t => decide (b ≤ t.byte n)
theorem posn_le (ks : List Tr) (n : Nat) (b : UInt8) : posn ks n b ≤ ks.length := List.findIdx_le_length
theorem posn_eq {ks : List Tr} {n : Nat} {b : UInt8} {i : Nat} (hi : i ≤ ks.length) (h1 : ∀ j (hj : j < ks.length), j < i → ks[j].byte n < b) (h2 : ∀ (h : i < ks.length), b ≤ ks[i].byte n) : posn ks n b = i := by
  unfold posn
  rcases Nat.lt_or_ge i ks.length with h | h
  · rw [List.findIdx_eq h]
    exact ⟨by simpa using h2 h, fun j hj => by simpa [UInt8.not_le] using h1 j (by omega) hj⟩
  · have : i = ks.length := by omega
    subst this
    rw [List.findIdx_eq_length]
    intro x hx
    obtain ⟨j, hj, rfl⟩ := List.getElem_of_mem hx
    simpa [UInt8.not_le] using h1 j hj hj
theorem posn_lt {ks : List Tr} {n : Nat} {b : UInt8} (j : Nat) (hj : j < ks.length) (h : j < posn ks n b) : ks[j].byte n < b := by
  have := List.not_of_lt_findIdx (p := fun t => decide (b ≤ Tr.byte n t)) (xs := ks) h
  simpa [UInt8.not_le] using this
theorem posn_ge {ks : List Tr} {n : Nat} {b : UInt8} (h : posn ks n b < ks.length) : b ≤ ks[posn ks n b].byte n := by
  exact of_decide_eq_true (List.findIdx_getElem (p := fun t => decide (b ≤ Tr.byte n t)) (xs := ks) (w := h))

theorem prefix_getD {p k : List UInt8} (h : p <+: k) (n : Nat) (hn : n < p.length) : k.getD n 0 = p.getD n 0 := by
  obtain ⟨r, rfl⟩ := h
  simp [hn, List.getD, List.getElem?_append]

/-- A kid that is a beginning of k lies at the place of k's next byte. -/
theorem kid_at {t : Tr} (h : WF t) {k : List UInt8} {i : Nat} (hi : i < t.ks.length) (hb : t.ks[i].byte t.p.size = k.getD t.p.size 0) : posn t.ks t.p.size (k.getD t.p.size 0) = i := by
  refine posn_eq (by omega) ?_ (fun h => by rw [hb]; exact UInt8.le_refl _)
  intro j hj hji
  have := List.pairwise_iff_getElem.1 h.ord' j i (by simpa using hj) (by simpa using hi) hji
  simpa [hb] using this
theorem nx_some {t : Tr} (h : WF t) {k : List UInt8} {i : Nat} (hi : i < t.ks.length) (hp : t.ks[i].path <+: k) : nx t k = some t.ks[i] := by
  unfold nx
  rw [List.find?_eq_some_iff_getElem]
  refine ⟨by simpa using hp, i, hi, rfl, ?_⟩
  intro j hj
  have hx := h.ext' _ (List.getElem_mem hi)
  have hy := h.ext' _ (List.getElem_mem (show j < t.ks.length by omega))
  have hlt := List.pairwise_iff_getElem.1 h.ord' j i (by simp; omega) (by simpa using hi) hj
  simp only [List.getElem_map] at hlt
  simp only [Bool.not_eq_true', Bool.eq_false_iff, ne_eq, List.isPrefixOf_iff_prefix]
  intro hq
  have e1 := prefix_getD hp t.p.size (by rw [path_length]; exact hx.2)
  have e2 := prefix_getD hq t.p.size (by rw [path_length]; exact hy.2)
  unfold Tr.byte at hlt
  rw [← e1, ← e2] at hlt
  exact absurd hlt (UInt8.lt_irrefl _)
theorem nx_none {t : Tr} (h : WF t) {k : List UInt8} (hn : ∀ (hi : posn t.ks t.p.size (k.getD t.p.size 0) < t.ks.length), ¬ t.ks[posn t.ks t.p.size (k.getD t.p.size 0)].path <+: k) : nx t k = none := by
  unfold nx
  rw [List.find?_eq_none]
  intro c hc hp
  obtain ⟨i, hi, rfl⟩ := List.getElem_of_mem hc
  have hp' : t.ks[i].path <+: k := by simpa using hp
  have hx := h.ext' _ (List.getElem_mem hi)
  have e1 := prefix_getD hp' t.p.size (by rw [path_length]; exact hx.2)
  have := kid_at h (k := k) hi (by unfold Tr.byte; rw [e1])
  have h2 := hn (by rw [this]; exact hi)
  simp only [this] at h2
  exact h2 hp'
end Go.Proofs.Ytcdfbbjakkmmoaa
