/- Slices of parts that a call has made itself. -/
import Derived.Test.YtindefkngcelnaaKLaw
namespace Go.Proofs.Ytindefkngcelnaa
open Go.RowKit
set_option linter.unusedVariables false

def pcs (ps : List Pt) : List Value := ps.flatMap Pt.cells
theorem pcs_append (ps qs : List Pt) : pcs (ps ++ qs) = pcs ps ++ pcs qs := by simp [pcs]
theorem pcs_length (ps : List Pt) : (pcs ps).length = ps.length * 3 := by
  induction ps with
  | nil => rfl
  | cons p ps ih => simp only [pcs, List.flatMap_cons, List.length_append] at ih ⊢; rw [ih]; simp [Pt.cells]; omega
theorem pcs_one (ps : List Pt) : ∀ u ∈ pcs ps, u.oneCell' = true := by
  intro u hu
  obtain ⟨p, _, hp⟩ := List.mem_flatMap.1 hu
  simp [Pt.cells] at hp
  rcases hp with rfl | rfl | rfl <;> rfl
theorem pcs_at (ps : List Pt) (i : Nat) (p : Pt) (h : ps[i]? = some p) (j : Nat) (hj : j < 3) : (pcs ps)[i * 3 + j]? = p.cells[j]? := by
  induction ps generalizing i with
  | nil => simp at h
  | cons q ps ih =>
    have e : pcs (q :: ps) = q.cells ++ pcs ps := by simp [pcs]
    have hl : q.cells.length = 3 := rfl
    rw [e]
    cases i with
    | zero =>
      simp at h; subst h
      rw [Nat.zero_mul, Nat.zero_add, List.getElem?_append_left (by omega)]
    | succ i =>
      rw [List.getElem?_append_right (by omega), hl, show (i + 1) * 3 + j - 3 = i * 3 + j by omega]
      exact ih i (by simpa using h)

/-- The slice v, made by the call itself, holds the parts ps. -/
def OwnP (w : World) (B : Nat) (v : Value) (ps : List Pt) : Prop := w.ownsRow B 65 3 v ps.length (pcs ps)

theorem OwnP.nil (w : World) (B : Nat) : OwnP w B (.slice none 0 0) [] := World.ownsRow_nil _ _ _ _
theorem OwnP.alloc {w : World} {B : Nat} {v : Value} {l : List Pt} (h : OwnP w B v l) (o : Obj) : OwnP (w.alloc o) B v l := World.ownsRow.alloc h o
theorem OwnP.lt {w : World} {B : Nat} {v : Value} {l : List Pt} (h : OwnP w B v l) : ∀ k, v.ownBlock = some k → B ≤ k ∧ k < w.heap.size := World.ownsRow.lt h
theorem OwnP.shape {w : World} {B : Nat} {v : Value} {l : List Pt} (h : OwnP w B v l) : ∃ ao cap, v = .slice ao l.length cap := by
  rcases h.2 with ⟨rfl, h0⟩ | ⟨g, cap, cur, rfl, _⟩
  · exact ⟨none, 0, by rw [h0]⟩
  · exact ⟨_, _, rfl⟩
theorem OwnP.below {w w' : World} {B : Nat} {v : Value} {l : List Pt} (h : OwnP w B v l) (hb : Below w.heap.size w w') : OwnP w' B v l :=
  World.ownsRow.kept (row := none) h ⟨hb.os, hb.tape, hb.output, hb.size, fun k hk _ => hb.block k hk⟩ (by cases v.ownBlock <;> simp)
theorem OwnP.toBelow {w w' : World} {B : Nat} {v v' : Value} {l : List Pt} (h : OwnP w B v l) (hB : B ≤ w.heap.size) (hg : Grew w w' v v') : Below B w w' := hg.toBelow hB fun k hk => (h.lt k hk).1
theorem OwnP.mono {w : World} {B B' : Nat} {v : Value} {l : List Pt} (h : OwnP w B v l) (hB : B' ≤ B) : OwnP w B' v l := by
  refine ⟨h.1, ?_⟩
  rcases h.2 with h | ⟨g, cap, cur, hv, hb, r⟩
  · exact .inl h
  · exact .inr ⟨g, cap, cur, hv, Nat.le_trans hB hb, r⟩

theorem OwnP.storedOther {w : World} {B : Nat} {v : Value} {l : List Pt} (h : OwnP w B v l) {a : Addr} (ha : v.ownBlock ≠ some a.block) (u : Value) : OwnP (w.setCell a u) B v l := ownsRow_setCell_other h ha u

theorem OwnP.parts {w : World} {B : Nat} {ao : Option Addr} {n cap : Nat} {l : List Pt} (h : OwnP w B (.slice ao n cap) l) (hw : ∀ p ∈ l, p.wf) : PartsAt w ao l := by
  intro i p hp
  have hil : i < l.length := (List.getElem?_eq_some_iff.1 hp).1
  have hmem : p ∈ l := List.mem_of_getElem? hp
  rcases h.2 with ⟨he, h0⟩ | ⟨g, cap', cur, he, _⟩
  · omega
  · simp only [Value.slice.injEq] at he
    obtain ⟨rfl, rfl, rfl⟩ := he
    refine ⟨g, 0, rfl, ?_, ?_, ?_, hw p hmem⟩
    · rw [Nat.zero_add, World.ownsRow.cellAt h (i * 3) (by omega), ← Nat.add_zero (i * 3), pcs_at l i p hp 0 (by omega)]; rfl
    · rw [Nat.zero_add, World.ownsRow.cellAt h (i * 3 + 1) (by omega), pcs_at l i p hp 1 (by omega)]; rfl
    · rw [Nat.zero_add, World.ownsRow.cellAt h (i * 3 + 2) (by omega), pcs_at l i p hp 2 (by omega)]; rfl

theorem PartsAt.wf {w : World} {ao : Option Addr} {ps : List Pt} (h : PartsAt w ao ps) : ∀ p ∈ ps, p.wf := by
  intro p hp
  obtain ⟨i, hi, rfl⟩ := List.getElem_of_mem hp
  obtain ⟨_, _, _, _, _, _, hw⟩ := h i ps[i] (by simp [hi])
  exact hw

theorem info_part : (Try.prog.info? 65).map (fun i => (i.zero, i.size, i.bytes)) = some (some (.agg #[.int .i64 0, .string ⟨#[]⟩, .int .u64 0]), 3, 32) := by kernel_rfl

/-- append(out, p), p laid right ahead. -/
theorem append_part (W : World) {ops : Array Oper} {rest : List Oper} {o : Oper} {a : Act} {Q : Exit → Act → World → Prop} (hgd : o.guard = none) (s x : Operand)
    (ho : o.op = .call { callee := .builtin .append, args := #[s, x], argTypes := #[47, 47] })
    (B : Nat) (v : Value) (l : List Pt) (hs : a.eval s = v) (news : List Pt) (g m c : Nat) (cs : Array Value) (hx : a.eval x = .slice (some ⟨g, 0, none⟩) m c) (hm : news.length = m) (hc : cs = (pcs news).toArray)
    (hg : g = W.heap.size) (hown : OwnP W B v l) (hlen : (l.length + m) * 32 ≤ 140737488355328) (hB : B ≤ W.heap.size)
    (h : ∀ v' w', OwnP w' B v' (l ++ news) → Grew W w' v v' → wpList Try.prog ops Q rest (a.put o.dst v') w') : wpList Try.prog ops Q (o :: rest) a (W.alloc (.cells cs 65)) := by
  obtain ⟨i0, hi, hz0, hz1, hz2⟩ := info_parts info_part
  subst hg hc hm
  refine wpList_append_grew _ hgd s x 47 ho B 65 i0 _ 3 32 Try.underlying47 hi hz0 hz1 hz2 rfl (by decide) v l.length (pcs l) hs (hown.alloc _) ⟨W.heap.size, 0, none⟩ news.length c (pcs news) hx (pcs_length _) (cells_new _ _ _) (pcs_one _) (by unfold maxLen; omega) (by omega) (by simp; omega) ?_
  intro v' w' h1 h2 _
  refine h v' w' ?_ h2.ofAlloc
  unfold OwnP
  rw [pcs_append, List.length_append]
  exact h1

theorem parts_take (ps : List Pt) (k : Nat) (h : k < ps.length) : ps.take (k + 1) = ps.take k ++ [ps[k]] := List.take_succ_eq_append_getElem h
end Go.Proofs.Ytindefkngcelnaa
