/- Layer 4 (walk): what Diff tells, in plain words; what stands in memory within it. -/
import Derived.Test.YtnmndjplbcpglaaXDiff0
namespace Go.Proofs.Ytnmndjplbcpglaa
open Go.RowKit Go.Shelf
open scoped Classical
set_option linter.unusedVariables false

/-! ### plain -/
/-- One entry of the first tree: what is told, what is left of the second's entries. -/
noncomputable def stepD : List En → List En → En → List En × List En
  | acc, [], e => (acc ++ [(e.1, 2)], [])
  | acc, x :: r, e => if Lt (kyb x.1) (kyb e.1) then stepD (acc ++ [(x.1, 1)]) r e else if x.1 = e.1 then (if e.2 = x.2 then acc else acc ++ [(e.1, 3)], r) else (acc ++ [(e.1, 2)], x :: r)
noncomputable def runD (eb : List En) (l : List En) : List En × List En := l.foldl (fun s e => stepD s.1 s.2 e) ([], eb)
def newD (l : List En) : List En := l.map fun x => (x.1, 1)
noncomputable def diffE (ea eb : List En) : List En := (runD eb ea).1 ++ newD (runD eb ea).2
theorem stepD_lt {acc : List En} {x : En} {r : List En} {e : En} (h : Lt (kyb x.1) (kyb e.1)) : stepD acc (x :: r) e = stepD (acc ++ [(x.1, 1)]) r e := by rw [stepD, if_pos h]
theorem stepD_eq {acc : List En} {x : En} {r : List En} {e : En} (h : ¬ Lt (kyb x.1) (kyb e.1)) (h2 : x.1 = e.1) : stepD acc (x :: r) e = (if e.2 = x.2 then acc else acc ++ [(e.1, 3)], r) := by rw [stepD, if_neg h, if_pos h2]
theorem stepD_ne {acc : List En} {x : En} {r : List En} {e : En} (h : ¬ Lt (kyb x.1) (kyb e.1)) (h2 : ¬ x.1 = e.1) : stepD acc (x :: r) e = (acc ++ [(e.1, 2)], x :: r) := by rw [stepD, if_neg h, if_neg h2]
theorem stepD_acc : ∀ (l acc : List En) (e : En), acc <+: (stepD acc l e).1
  | [], acc, e => by simp [stepD]
  | x :: r, acc, e => by
    unfold stepD
    split
    · exact (List.prefix_append _ _).trans (stepD_acc r _ e)
    · split
      · show acc <+: (if _ then _ else _)
        split
        · exact List.prefix_refl _
        · exact List.prefix_append _ _
      · exact List.prefix_append _ _
theorem runD_snoc (eb l : List En) (e : En) : runD eb (l ++ [e]) = stepD (runD eb l).1 (runD eb l).2 e := by unfold runD; rw [List.foldl_append]; rfl
theorem fold_acc : ∀ (l : List En) (s : List En × List En), s.1 <+: (l.foldl (fun s e => stepD s.1 s.2 e) s).1
  | [], s => List.prefix_refl _
  | e :: l, s => (stepD_acc _ _ e).trans (fold_acc l _)
theorem runD_acc {eb l m : List En} (h : l <+: m) : (runD eb l).1 <+: (runD eb m).1 := by
  obtain ⟨t, rfl⟩ := h
  unfold runD
  rw [List.foldl_append]
  exact fold_acc t _
theorem runD_le {ea eb l : List En} (h : l <+: ea) : (runD eb l).1.length ≤ (diffE ea eb).length := by
  have := (runD_acc (eb := eb) h).length_le
  unfold diffE
  rw [List.length_append]
  omega
theorem stepD_suf : ∀ (l acc : List En) (e : En), (stepD acc l e).2 <:+ l
  | [], acc, e => by simp [stepD]
  | x :: r, acc, e => by
    unfold stepD
    split
    · exact (stepD_suf r _ e).trans (List.suffix_cons _ _)
    · split
      · exact List.suffix_cons _ _
      · exact List.suffix_refl _
/-- Of like entries nothing is told. -/
theorem runD_same {es : List En} (hs : SortedE es) : ∀ n, n ≤ es.length → runD es (es.take n) = ([], es.drop n) := fun n => by
  induction n with
  | zero => intro _; simp [runD]
  | succ n ih =>
    intro hn
    rw [List.take_succ_eq_append_getElem (by omega), runD_snoc, ih (by omega), List.drop_eq_getElem_cons (by omega)]
    unfold stepD
    rw [if_neg (lt_irr _), if_pos rfl, if_pos rfl]
theorem diffE_same {es : List En} (hs : SortedE es) : diffE es es = [] := by
  have := runD_same hs es.length (Nat.le_refl _)
  rw [List.take_length, List.drop_length] at this
  unfold diffE
  rw [this]
  rfl

/-! ### in memory -/
/-- The entries that are left, as a slice. -/
def LeftAt (W : World) (aL : Option Addr) (cL : Nat) (l : List En) : Prop :=
  l.length ≤ cL ∧ ∀ i (h : i < l.length), ∃ b off, aL = some ⟨b, off, none⟩ ∧ (∃ cs, W.heap[b]? = some (.cells cs 89)) ∧ W.cell? ⟨b, off + i * 2, none⟩ = some (.string l[i].1) ∧ W.cell? ⟨b, off + i * 2 + 1, none⟩ = some (.int .i64 l[i].2)
theorem LeftAt.kept {W W' : World} {aL : Option Addr} {cL : Nat} {l : List En} (h : LeftAt W aL cL l) (hk : ∀ (b : Nat) (cs : Array Value), W.heap[b]? = some (Obj.cells cs 89) → W'.heap[b]? = some (Obj.cells cs 89)) : LeftAt W' aL cL l :=
  ⟨h.1, fun i hi => by
    obtain ⟨b, off, ha, ⟨cs, hc⟩, c0, c1⟩ := h.2 i hi
    have hb : W'.heap[b]? = W.heap[b]? := by rw [hk b cs hc, hc]
    exact ⟨b, off, ha, ⟨cs, hk b cs hc⟩, (World.cell?_of_block (w := W) (a := ⟨b, off + i * 2, none⟩) hb).trans c0, (World.cell?_of_block (w := W) (a := ⟨b, off + i * 2 + 1, none⟩) hb).trans c1⟩⟩
/-- left[1:]. -/
def tailA (aL : Option Addr) (cL : Nat) : Option Addr := if cL = 1 then aL else aL.map (·.add 2)
theorem LeftAt.tail {W : World} {aL : Option Addr} {cL : Nat} {x : En} {l : List En} (h : LeftAt W aL cL (x :: l)) : LeftAt W (tailA aL cL) (cL - 1) l := by
  have h1 := h.1
  simp only [List.length_cons] at h1
  refine ⟨by omega, fun i hi => ?_⟩
  obtain ⟨b, off, ha, ht, c0, c1⟩ := h.2 (i + 1) (by simp; omega)
  have hadd : (⟨b, off, none⟩ : Addr).add 2 = ⟨b, off + 2, none⟩ := by unfold Addr.add; split <;> simp_all
  refine ⟨b, off + 2, by unfold tailA; rw [if_neg (by omega), ha]; simp [hadd], ht, ?_, ?_⟩
  · rw [show off + 2 + i * 2 = off + (i + 1) * 2 by omega]; simpa using c0
  · rw [show off + 2 + i * 2 + 1 = off + (i + 1) * 2 + 1 by omega]; simpa using c1
set_option maxRecDepth 100000 in
theorem run_tail2 (aL : Option Addr) (n cL : Nat) (hn : 1 ≤ n) (W : World) : (Instr.slice 86 (.slice aL n cL) (some (.int .i64 1)) none none).run Try.prog W = .ok (.slice (tailA aL cL) (n - 1) (cL - 1)) W := by
  have he : Try.prog.elem 86 = 89 := by kernel_rfl
  have hz : ∀ W : World, (Go.sizeOf 89).run Try.prog W = .ok 2 W := fun W => by
    obtain ⟨i0, hi, hz0, hz1, hz2⟩ := infoOf infoEn
    simp [Go.sizeOf, typeInfo, hi, hz1]
  have hu : Try.prog.underlying 86 = some (.slice (Try.prog.elem 86)) := by rw [he]; exact Try.underlying86
  rw [run_slice_l W 86 aL n cL hu .i64 1 (by omega) (by omega)]
  rw [he, hz]
  simp [sliced, Result.andThen, tailA]
theorem OwnG.left {W : World} {B : Nat} {v : Value} {l : List En} (h : OwnG cgCells 89 2 W B v l) : ∃ ao cap, v = .slice ao l.length cap ∧ LeftAt W ao cap l := by
  have hget : ∀ (l : List En) (i : Nat) (h : i < l.length), (l.flatMap cgCells)[i * 2]? = some (.string l[i].1) ∧ (l.flatMap cgCells)[i * 2 + 1]? = some (.int .i64 l[i].2) := fun l => by
    induction l with
    | nil => intro i h; simp at h
    | cons e l ih =>
      intro i h
      have hc : (e :: l).flatMap cgCells = .string e.1 :: .int .i64 e.2 :: l.flatMap cgCells := rfl
      rw [hc]
      cases i with
      | zero => exact ⟨rfl, rfl⟩
      | succ i =>
        have := ih i (by simpa using h)
        rw [show (i + 1) * 2 = i * 2 + 1 + 1 by omega]
        simpa using this
  rcases h.2 with ⟨rfl, h0⟩ | ⟨g, cap, cur, rfl, hb, hg, hnc, hcm, hcs, htake⟩
  · exact ⟨none, 0, by rw [h0], by omega, fun i hi => by omega⟩
  · refine ⟨_, cap, rfl, hnc, fun i hi => ⟨g, 0, rfl, ⟨cur, hg⟩, ?_, ?_⟩⟩
    · have h1 := World.ownsRow.cellAt h (i * 2) (by omega)
      rw [(hget l i hi).1] at h1
      rw [Nat.zero_add]; exact h1
    · have h1 := World.ownsRow.cellAt h (i * 2 + 1) (by omega)
      rw [(hget l i hi).2] at h1
      rw [Nat.zero_add]; exact h1

/-- Within Diff. -/
structure DfI (w : World) (b5 b6 b7 : Nat) (s : List En × List En) (W : World) : Prop where
  acc : GaI cgCells 50 47 2 w b5 s.1 W
  fn : W.heap[b6]? = some (.cells #[.func (.func 39) #[] #[.pointer (some ⟨b5, 0, none⟩)]] 85)
  left : ∃ aL cL, W.heap[b7]? = some (.cells #[.slice aL s.2.length cL] 86) ∧ LeftAt W aL cL s.2
/-- What a part of Diff's round leaves. -/
structure KpD (b5 b7 n₀ : Nat) (W W' : World) : Prop where
  below : Below n₀ W W'
  kept : ∀ b o, W.heap[b]? = some o → (∀ cs, o ≠ .cells cs 50) → b ≠ b5 → b ≠ b7 → W'.heap[b]? = some o
theorem KpD.refl (b5 b7 n₀ : Nat) (W : World) : KpD b5 b7 n₀ W W := ⟨Below.refl _ _, fun _ _ h _ _ _ => h⟩
theorem KpD.trans {b5 b7 n₀ : Nat} {A B C : World} (h : KpD b5 b7 n₀ A B) (k : KpD b5 b7 n₀ B C) : KpD b5 b7 n₀ A C :=
  ⟨h.below.trans k.below, fun b o hb h1 h2 h3 => k.kept b o (h.kept b o hb h1 h2 h3) h1 h2 h3⟩
theorem KpB.toD {b5 b7 n₀ : Nat} {W W' : World} (h : KpB 50 b5 n₀ W W') : KpD b5 b7 n₀ W W' := ⟨h.below, fun b o hb h1 h2 _ => h.kept b o hb h1 h2⟩
theorem KpD.ofBelow {b5 b7 n₀ : Nat} {W W' : World} (h : Below W.heap.size W W') (hn : n₀ ≤ W.heap.size) : KpD b5 b7 n₀ W W' := ⟨h.mono hn, fun b o hb _ _ _ => (h.block b (lt_of_heap hb)).trans hb⟩
theorem DfI.keep {w : World} {b5 b6 b7 : Nat} {s : List En × List En} {W W' : World} (h : DfI w b5 b6 b7 s W) (hb : Below W.heap.size W W') : DfI w b5 b6 b7 s W' := by
  obtain ⟨ao, n, cap, h1, h2⟩ := h.acc.got
  obtain ⟨aL, cL, h3, h4⟩ := h.left
  exact ⟨⟨h.acc.below.trans (hb.mono h.acc.below.size), ao, n, cap, (hb.block _ (lt_of_heap h1)).trans h1, World.ownsRow.kept (row := none) h2 ⟨hb.os, hb.tape, hb.output, hb.size, fun k hk _ => hb.block k hk⟩ (Classical.em _)⟩, (hb.block _ (lt_of_heap h.fn)).trans h.fn, aL, cL, (hb.block _ (lt_of_heap h3)).trans h3, h4.kept fun b cs hc => (hb.block b (lt_of_heap hc)).trans hc⟩
/-- Behind tell. -/
theorem DfI.told {w : World} {b5 b6 b7 : Nat} {s : List En × List En} {x : En} {W W' : World} (h : DfI w b5 b6 b7 s W) (ha : GaI cgCells 50 47 2 w b5 (s.1 ++ [x]) W') (hk : KpB 50 b5 w.heap.size W W') : DfI w b5 b6 b7 (s.1 ++ [x], s.2) W' := by
  obtain ⟨ao, n, cap, h1, h2⟩ := h.acc.got
  obtain ⟨aL, cL, h3, h4⟩ := h.left
  have ne : ∀ {b : Nat} {cs : Array Value} {ty : TypeId}, W.heap[b]? = some (.cells cs ty) → ty ≠ 47 → b ≠ b5 := fun hb ht e => by
    subst e; rw [h1] at hb; simp at hb; exact ht hb.2.symm
  exact ⟨ha, hk.cells h.fn (by decide) (ne h.fn (by decide)), aL, cL, hk.cells h3 (by decide) (ne h3 (by decide)), h4.kept fun b cs hc => hk.cells hc (by decide) (ne hc (by decide))⟩
/-- Behind left = left[1:]. -/
theorem DfI.next {w : World} {b5 b6 b7 : Nat} {acc : List En} {x : En} {r : List En} {W : World} {aL : Option Addr} {cL : Nat} (h : DfI w b5 b6 b7 (acc, x :: r) W) (h3 : W.heap[b7]? = some (.cells #[.slice aL (r.length + 1) cL] 86)) (h4 : LeftAt W aL cL (x :: r)) (hb7 : w.heap.size ≤ b7) :
    DfI w b5 b6 b7 (acc, r) (W.setCell ⟨b7, 0, none⟩ (.slice (tailA aL cL) r.length (cL - 1))) ∧ KpD b5 b7 w.heap.size W (W.setCell ⟨b7, 0, none⟩ (.slice (tailA aL cL) r.length (cL - 1))) := by
  obtain ⟨ao, n, cap, h1, h2⟩ := h.acc.got
  have oth : ∀ {b : Nat} {cs : Array Value} {ty : TypeId}, W.heap[b]? = some (.cells cs ty) → ty ≠ 86 → (W.setCell ⟨b7, 0, none⟩ (.slice (tailA aL cL) r.length (cL - 1))).heap[b]? = some (.cells cs ty) := fun {b cs ty} hb ht => (heap_setCell_other _ _ _ _ (fun e => by
    have e' : b = b7 := e
    subst e'; rw [h3] at hb; simp at hb; exact ht hb.2.symm)).trans hb
  refine ⟨⟨⟨h.acc.below.setCell (p := ⟨b7, 0, none⟩) hb7 _, ao, n, cap, oth h1 (by decide), ownsRow_setCell_other h2 (fun e => own_ne (ownsRow_typed h2 _ e) h3 (by decide) rfl) _⟩, oth h.fn (by decide), tailA aL cL, cL - 1, by rw [setCell_blk h3]; rfl, h4.tail.kept fun b cs hc => oth hc (by decide)⟩, (Below.refl _ _).setCell (p := ⟨b7, 0, none⟩) hb7 _, fun b o hb _ _ hne => (heap_setCell_other _ _ _ _ (fun e => hne e)).trans hb⟩
theorem DfI.ownM {w : World} {b5 b6 b7 B : Nat} {α : Type} {f : List α → List En × List En} (hB : w.heap.size ≤ B) : OwnM B (fun (l : List α) W => DfI w b5 b6 b7 (f l) W) := fun l A C row hs hg hr => by
  obtain ⟨aL, cL, h3, h4⟩ := hs.left
  have hr' : ∀ r, row = some r → ∃ o : Obj, A.heap[r]? = some o ∧ isMark o = true := fun r e => (hr r e).2
  exact ⟨GaI.ownFrom hB _ A C row hs.acc hg hr, heap_kept hs.fn hg hr', aL, cL, heap_kept h3 hg hr', h4.kept fun b cs hc => heap_kept hc hg hr'⟩
/-- What the iterator must find as it was. -/
theorem DfI.toKp {w : World} {b5 b6 b7 : Nat} {s : List En × List En} {W W' : World} (h : DfI w b5 b6 b7 s W) (hk : KpD b5 b7 w.heap.size W W') : KeepsOthers W W' ∧ Kp w.heap.size (fun _ => False) W W' := by
  obtain ⟨ao, n, cap, h1, h2⟩ := h.acc.got
  obtain ⟨aL, cL, h3, h4⟩ := h.left
  refine ⟨⟨hk.below.size, fun b o ho hc => hk.kept b o ho (fun cs e => by subst e; cases hc) (fun e => by subst e; rw [h1] at ho; cases ho; cases hc) (fun e => by subst e; rw [h3] at ho; cases ho; cases hc)⟩, hk.below, fun b cs ty hb hty _ => ?_⟩
  have hne : ty ≠ 50 ∧ ty ≠ 47 ∧ ty ≠ 86 := by rcases hty with rfl | rfl | rfl | rfl <;> exact ⟨by decide, by decide, by decide⟩
  rw [hk.kept b _ hb (fun cs' e => by simp at e; exact hne.1 e.2) (fun e => by subst e; rw [h1] at hb; simp at hb; exact hne.2.1 hb.2.symm) (fun e => by subst e; rw [h3] at hb; simp at hb; exact hne.2.2 hb.2.symm), hb]
end Go.Proofs.Ytnmndjplbcpglaa
