/- Slices of one-cell elements that a call has made itself, beside watches. -/
import Derived.Test.YtcdfbbjakkmmoaaKBase
import Derived.Test.YtcdfbbjakkmmoaaKOwn
namespace Go.Proofs.Ytcdfbbjakkmmoaa
open Go.RowKit
set_option linter.unusedVariables false

/-- The slice v of one-cell elements, made by the call itself, holds the values vs. -/
def OwnV (w : World) (B : Nat) (e : TypeId) (v : Value) (vs : List Value) : Prop := w.ownsRow B e 1 v vs.length vs

theorem OwnV.nil (w : World) (B : Nat) (e : TypeId) : OwnV w B e (.slice none 0 0) [] := World.ownsRow_nil _ _ _ _
theorem OwnV.alloc {w : World} {B : Nat} {e : TypeId} {v : Value} {l : List Value} (h : OwnV w B e v l) (o : Obj) : OwnV (w.alloc o) B e v l := World.ownsRow.alloc h o
theorem OwnV.lt {w : World} {B : Nat} {e : TypeId} {v : Value} {l : List Value} (h : OwnV w B e v l) : ∀ k, v.ownBlock = some k → B ≤ k ∧ k < w.heap.size := World.ownsRow.lt h
theorem OwnV.shape {w : World} {B : Nat} {e : TypeId} {v : Value} {l : List Value} (h : OwnV w B e v l) : ∃ ao cap, v = .slice ao l.length cap := by
  rcases h.2 with ⟨rfl, h0⟩ | ⟨g, cap, cur, rfl, _⟩
  · exact ⟨none, 0, by rw [h0]⟩
  · exact ⟨_, _, rfl⟩
theorem ownsRow_typed {w : World} {B : Nat} {e : TypeId} {size : Nat} {v : Value} {n : Nat} {l : List Value} (h : w.ownsRow B e size v n l) : ∀ k, v.ownBlock = some k → ∃ cs, w.heap[k]? = some (.cells cs e) := by
  intro k hk
  rcases h.2 with ⟨rfl, h0⟩ | ⟨g, cap, cur, rfl, hb, hg, _⟩
  · simp [Value.ownBlock] at hk
  · simp [Value.ownBlock] at hk
    subst hk
    exact ⟨cur, hg⟩
theorem OwnV.typed {w : World} {B : Nat} {e : TypeId} {v : Value} {l : List Value} (h : OwnV w B e v l) : ∀ k, v.ownBlock = some k → ∃ cs, w.heap[k]? = some (.cells cs e) := ownsRow_typed h
theorem ownsRow_touched {w w' : World} {B : Nat} {e : TypeId} {size : Nat} {v : Value} {n : Nat} {l : List Value} {T : List Nat} (h : w.ownsRow B e size v n l) (ht : Touched T w w') (hn : ∀ k, v.ownBlock = some k → k ∉ T) : w'.ownsRow B e size v n l := by
  refine ⟨h.1, ?_⟩
  rcases h.2 with h0 | ⟨g, cap, cur, rfl, hb, hg, r⟩
  · exact .inl h0
  · exact .inr ⟨g, cap, cur, rfl, hb, (ht.block g (lt_of_heap hg) (hn g (by simp [Value.ownBlock]))).trans hg, r⟩
theorem OwnV.touched {w w' : World} {B : Nat} {e : TypeId} {v : Value} {l : List Value} {T : List Nat} (h : OwnV w B e v l) (ht : Touched T w w') (hn : ∀ k, v.ownBlock = some k → k ∉ T) : OwnV w' B e v l := ownsRow_touched h ht hn
theorem OwnV.at {w : World} {B : Nat} {e : TypeId} {ao : Option Addr} {n cap : Nat} {l : List Value} (h : OwnV w B e (.slice ao n cap) l) (i : Nat) (hi : i < l.length) :
    ∃ g, ao = some ⟨g, 0, none⟩ ∧ w.cell? ⟨g, i, none⟩ = some l[i] := by
  rcases h.2 with ⟨he, h0⟩ | ⟨g, cap', cur, he, _⟩
  · omega
  · simp only [Value.slice.injEq] at he
    obtain ⟨rfl, rfl, rfl⟩ := he
    refine ⟨g, rfl, ?_⟩
    rw [World.ownsRow.cellAt h i (by omega)]
    simp [hi]

/-- No block of another type is the slice's. -/
theorem own_ne {w : World} {e t : TypeId} {k b : Nat} {cs : Array Value} (h : ∃ cs, w.heap[k]? = some (.cells cs e)) (hb : w.heap[b]? = some (.cells cs t)) (hne : e ≠ t) : k ≠ b := by
  intro he
  subst he
  obtain ⟨cs', hk⟩ := h
  have := hk.symm.trans hb
  simp at this
  exact hne this.2
theorem own_ne_chan {w : World} {e : TypeId} {k c cap s r : Nat} {buf : Array Value} {cl tm : Bool} (h : ∃ cs, w.heap[k]? = some (.cells cs e)) (hb : w.heap[c]? = some (.chan cap buf cl s r tm)) : k ≠ c := by
  intro he
  subst he
  obtain ⟨cs', hk⟩ := h
  have := hk.symm.trans hb
  cases this

theorem infoOf {P : Program} {e : TypeId} {z : Value} {a b : Nat} (h : (P.info? e).map (fun i => (i.zero, i.size, i.bytes)) = some (some z, a, b)) : ∃ i, P.info? e = some i ∧ i.zero = some z ∧ i.size = a ∧ i.bytes = b := by
  obtain ⟨i, hi, hb⟩ := Option.map_eq_some_iff.1 h
  simp only [Prod.mk.injEq] at hb
  exact ⟨i, hi, hb.1, hb.2.1, hb.2.2⟩

/-- append(s, u), u of one cell, laid right ahead. -/
theorem append_val (W : World) {ops : Array Oper} {rest : List Oper} {o : Oper} {a : Act} {Q : Exit → Act → World → Prop} (hgd : o.guard = none) (s x : Operand) (t e : TypeId) (z : Value) (bytes : Nat)
    (ht : Try.prog.underlying t = some (.slice e)) (hi : (Try.prog.info? e).map (fun i => (i.zero, i.size, i.bytes)) = some (some z, 1, bytes)) (hzs : z.cells.size = 1)
    (ho : o.op = .call { callee := .builtin .append, args := #[s, x], argTypes := #[t, t] })
    (B : Nat) (v : Value) (l : List Value) (hs : a.eval s = v) (u : Value) (hu : u.oneCell' = true) (g : Nat) (hx : a.eval x = .slice (some ⟨g, 0, none⟩) 1 1) 
    (hg : g = W.heap.size) (hown : OwnV W B e v l) (hm : l.length + 1 ≤ 9223372036854775807) (hlen : (l.length + 1) * bytes ≤ 140737488355328) (hB : B ≤ W.heap.size)
    (h : ∀ v' w', OwnV w' B e v' (l ++ [u]) → Grew W w' v v' → wpList Try.prog ops Q rest (a.put o.dst v') w') : wpList Try.prog ops Q (o :: rest) a (W.alloc (.cells #[u] e)) := by
  obtain ⟨i0, hi, hz0, hz1, hz2⟩ := infoOf hi
  subst hg
  refine wpList_append_grew _ hgd s x t ho B e i0 z 1 bytes ht hi hz0 hz1 hz2 hzs (by decide) v l.length l hs (hown.alloc _) ⟨W.heap.size, 0, none⟩ 1 1 [u] hx rfl (cells_new _ _ _) (by simp [hu]) (by unfold maxLen; omega) hlen (by simp; omega) ?_
  intro v' w' h1 h2 _
  refine h v' w' ?_ h2.ofAlloc
  unfold OwnV
  rw [List.length_append]
  exact h1

theorem Grew.touched {w w' : World} {v v' : Value} (h : Grew w w' v v') : Touched v.ownBlock.toList w w' :=
  ⟨h.grown.os, h.grown.tape, h.grown.output, h.grown.size, fun k hk hn => h.grown.block k hk (fun e => by rw [← e] at hn; simp at hn)⟩

theorem ret_int {a b : Int} (h : a = b) : Ending.returned (.int .i64 a) = .returned (.int .i64 b) := by rw [h]

/-- Pointers to watches, by their blocks. -/
def ptr (b : Nat) : Value := .pointer (some ⟨b, 0, none⟩)
def ptrs (l : List Nat) : List Value := l.map ptr
theorem ptrs_append (l m : List Nat) : ptrs (l ++ m) = ptrs l ++ ptrs m := by simp [ptrs]
theorem ptrs_length (l : List Nat) : (ptrs l).length = l.length := by simp [ptrs]

/-- The place of the first that p takes; -1: none. -/
def posOf (p : Nat → Bool) (l : List Nat) : Int := match l.findIdx? p with | some i => (i : Int) | none => -1
theorem posOf_hit {p : Nat → Bool} {l : List Nat} {k : Nat} (hk : k < l.length) (h : p l[k] = true) (hb : ∀ j (hj : j < l.length), j < k → p l[j] = false) : posOf p l = (k : Int) := by
  have : l.findIdx? p = some k := by
    rw [List.findIdx?_eq_some_iff_getElem]
    exact ⟨hk, h, fun j hj => by simp [hb j (by omega) hj]⟩
  simp [posOf, this]
theorem posOf_none {p : Nat → Bool} {l : List Nat} (hb : ∀ j (hj : j < l.length), p l[j] = false) : posOf p l = -1 := by
  have : l.findIdx? p = none := by
    rw [List.findIdx?_eq_none_iff]
    intro x hx
    obtain ⟨j, hj, rfl⟩ := List.getElem_of_mem hx
    exact hb j hj
  simp [posOf, this]
theorem posOf_nonneg {p : Nat → Bool} {l : List Nat} : decide (0 ≤ posOf p l) = l.any p := by
  unfold posOf
  cases h : l.findIdx? p with
  | some i =>
    rw [List.findIdx?_eq_some_iff_getElem] at h
    obtain ⟨hi, hp, _⟩ := h
    have : l.any p = true := List.any_eq_true.2 ⟨_, List.getElem_mem hi, hp⟩
    simp [this]
  | none =>
    rw [List.findIdx?_eq_none_iff] at h
    have : l.any p = false := by rw [List.any_eq_false]; intro x hx; simp [h x hx]
    simp [this]
end Go.Proofs.Ytcdfbbjakkmmoaa
