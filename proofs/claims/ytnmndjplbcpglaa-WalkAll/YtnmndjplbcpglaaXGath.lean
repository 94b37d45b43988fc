import Derived.Test.YtnmndjplbcpglaaXGot2
import Derived.Test.YtnmndjplbcpglaaXFall
import Derived.Test.YtnmndjplbcpglaaXMarks
import Derived.Test.YtnmndjplbcpglaaXRg
import Derived.Test.YtnmndjplbcpglaaRgInv
import Derived.Test.YtnmndjplbcpglaaXFrom
import Derived.Test.YtnmndjplbcpglaaXAlive4
import Derived.Test.YtnmndjplbcpglaaXWith
import Derived.Test.YtnmndjplbcpglaaWOwn
/- Layer 4 (walk): the slice into which a law puts entries ahead of one another. -/
namespace Go.Proofs.Ytnmndjplbcpglaa
open Go.RowKit Go.Shelf
set_option linter.unusedVariables false
attribute [local go_sem] Oper.semAt_some

structure DnI (w₀ A : World) (bg : Nat) (l : List En) (W : World) : Prop where
  below : Below w₀.heap.size w₀ W
  size : A.heap.size ≤ W.heap.size
  kept : ∀ b, b < A.heap.size → b ≠ bg → W.heap[b]? = A.heap[b]?
  got : ∃ ao n cap, W.heap[bg]? = some (.cells #[.slice ao n cap] 22) ∧ OwnE W A.heap.size (.slice ao n cap) l ∧ (l = [] → ao = none ∧ n = 0 ∧ cap = 0)
theorem DnI.ownM {w₀ A : World} {bg B : Nat} {β : Type} {f : β → List En} (hA : w₀.heap.size ≤ A.heap.size) (hB : A.heap.size ≤ B) : OwnM B (fun (s : β) W => DnI w₀ A bg (f s) W) := fun s X C row hs hg hr => by
  obtain ⟨ao, n, cap, h1, h2, h5⟩ := hs.got
  refine ⟨hs.below.grown hg hs.below.size (fun r e => by have := (hr r e).1; omega), Nat.le_trans hs.size hg.size, fun b hb hne => (hg.block b (Nat.lt_of_lt_of_le hb hs.size) (fun e => by have := (hr b e.symm).1; omega)).trans (hs.kept b hb hne), ao, n, cap, heap_kept h1 hg (fun r e => (hr r e).2), World.ownsRow.kept h2 hg ?_, h5⟩
  rcases h2.2 with ⟨h3, _⟩ | ⟨g, cap', cur, h3, _, hgb, _⟩
  · exact .inl (by rw [h3]; rfl)
  · refine .inr fun e' => ?_
    rw [h3] at e'
    obtain ⟨-, o, ho, hc⟩ := hr g (by simpa [Value.ownBlock] using e'.symm)
    rw [hgb] at ho; cases ho; cases hc
theorem DnI.absK {w₀ A : World} {bg B : Nat} {β : Type} {f : β → List En} (hA : w₀.heap.size ≤ A.heap.size) (hB : A.heap.size ≤ B) : AbsK B (fun (s : β) W => DnI w₀ A bg (f s) W) := fun s X b i cs ty u hs hb hX ht => by
  obtain ⟨ao, n, cap, h1, h2, h5⟩ := hs.got
  have hne : ty ≠ 35 ∧ ty ≠ 22 := by rcases ht with rfl | rfl | rfl | rfl | rfl | rfl <;> exact ⟨by decide, by decide⟩
  refine ⟨hs.below.setCell (p := ⟨b, i, none⟩) (by show w₀.heap.size ≤ b; omega) _, by rw [size_setCell'']; exact hs.size, fun c hc hn => (heap_setCell_other _ _ _ _ (fun e => by have e' : c = b := e; omega)).trans (hs.kept c hc hn), ao, n, cap, (heap_setCell_other _ _ _ _ (fun e => ?_)).trans h1, ownsRow_setCell_other h2 (fun e => own_ne (ownsRow_typed h2 _ e) hX (Ne.symm hne.1) rfl) _, h5⟩
  have e' : bg = b := e
  subst e'
  rw [h1] at hX
  simp at hX
  exact hne.2 hX.2.symm
/-- An entry is put ahead. -/
theorem DnI.step {w₀ A W w1 : World} {bg : Nat} {l : List En} {k : ByteArray} {v : Int} {ao : Option Addr} {n cap : Nat} {ao' : Option Addr} {n' cap' m : Nat} {tmp : Obj} (hm : m = l.length + 1) (hbg : w₀.heap.size ≤ bg) (hA : w₀.heap.size ≤ A.heap.size) (h : DnI w₀ A bg l W) (hbox : W.heap[bg]? = some (.cells #[.slice ao n cap] 22))
    (ho : w1.ownsRow A.heap.size 35 2 (.slice ao' n' cap') m (enCells ((k, v) :: l))) (hg : (W.alloc tmp).grownBy w1 (some W.heap.size)) :
    w1.heap[bg]? = some (.cells #[.slice ao n cap] 22) ∧ KeepsOthers W (w1.setCell ⟨bg, 0, none⟩ (.slice ao' n' cap')) ∧ Kp w₀.heap.size (fun _ => False) W (w1.setCell ⟨bg, 0, none⟩ (.slice ao' n' cap')) ∧ DnI w₀ A bg ((k, v) :: l) (w1.setCell ⟨bg, 0, none⟩ (.slice ao' n' cap')) := by
  subst hm
  have hbW : Below W.heap.size W w1 := ((Below.refl _ W).alloc (Nat.le_refl _) tmp).grown hg (by simp) (fun r e => by cases e; exact Nat.le_refl _)
  have box1 := (hbW.block _ (lt_of_heap hbox)).trans hbox
  have hws := h.below.size
  refine ⟨box1, ⟨by rw [size_setCell'']; exact hbW.size, fun b o ho' hc => ?_⟩, (Kp.ofBelow hbW hws).trans (kp_store hbg box1 (by unfold KTy; decide) _), (h.below.trans (hbW.mono hws)).setCell (p := ⟨bg, 0, none⟩) hbg _, by rw [size_setCell'']; exact Nat.le_trans h.size hbW.size, fun b hb hne => (heap_setCell_other _ _ _ _ (fun e => hne e)).trans ((hbW.block b (Nat.lt_of_lt_of_le hb h.size)).trans (h.kept b hb hne)), ao', n', cap', by rw [setCell_blk box1]; rfl, ?_, fun e => by cases e⟩
  · rw [heap_setCell_other _ _ _ _ (fun e => by
      have e' : b = bg := e
      subst e'
      rw [hbox] at ho'; cases ho'; cases hc)]
    exact (hbW.block b (lt_of_heap ho')).trans ho'
  · unfold OwnE
    rw [List.length_cons]
    exact ownsRow_setCell_other ho (fun e => own_ne (ownsRow_typed ho _ e) box1 (by decide) rfl) _

/-- append(s, nil...) in a round. -/
theorem wpListIn_append_none {F : Fence} {n : Nat} (w : World) {ops : Array Oper} {rest : List Oper} {o : Oper} {a : Act} {Q : Exit → Act → World → Prop}
    (hg : o.guard = none) (s x : Operand) (t e : TypeId) (i : TypeInfo) (hop : o.op = Op.call { callee := Callee.builtin Builtin.append, args := #[s, x], argTypes := #[t, t] }) (ht : Try.prog.underlying t = some (.slice e)) (hi : Try.prog.info? e = some i)
    (ao : Option Addr) (k cap : Nat) (hk : k ≤ cap) (hs : a.eval s = .slice ao k cap) (hx : a.eval x = .slice none 0 0) (hK : wpListIn F n Try.prog ops Q rest (a.put o.dst (.slice ao k cap)) w) :
    wpListIn F n Try.prog ops Q (o :: rest) a w := by
  refine wpListIn_plain hg fun K hK' => ?_
  have hrun : (Builtin.append_ #[t, t] o.type #[.slice ao k cap, .slice none 0 0]).run Try.prog w = .ok (.slice ao k cap) w := by
    cases ao <;> simp [Builtin.append_, run_underlying ht, sizeOf, typeInfo, hi, Builtin.lenOf, hk, Builtin.firstCells, storeCells]
  unfold Oper.wpIn
  refine ⟨?_, ?_⟩
  · simp [Oper.about, hop, resolve, Target.leads, Sem.run_pure]
  · rw [Oper.semAt_plain F _ _ (by rw [hop]; intro c hc'; cases hc')]
    simp [execOp, hop, resolve, invoke, builtin, hs, hx, hrun, Result.andThen]
    exact hK' _ _ hK
section
variable {o : Oper} {a : Act} {W : World} {K : Act → World → Prop} {Q : Exit → Act → World → Prop}
theorem f_not {x : Operand} {T : TypeId} {b : Bool} (ho : o.op = .unOp .not T x) (hx : a.eval x = .bool b) (h : K (a.put o.dst (.bool (!b))) W) : o.wp Try.prog a W K Q :=
  wp_valF (v := .bool (!b)) (by unfold execOp; simp only [ho, hx]; rfl) h
theorem f_loadLE {x : Operand} {p k : Nat} {s : Option Addr} {n c : Nat} (ho : o.op = .load 22 x) (hx : a.eval x = .pointer (some ⟨p, k, none⟩)) (hc : W.cell? ⟨p, k, none⟩ = some (.slice s n c)) (h : K (a.put o.dst (.slice s n c)) W) : o.wp Try.prog a W K Q :=
  wp_valF (v := .slice s n c) (by unfold execOp; simp only [ho, hx]; simp [hc, go_sem]) h
end
end Go.Proofs.Ytnmndjplbcpglaa

/- A slice of whatever elements that a loop over an iterator gathers in its box. -/
namespace Go.Proofs.Ytnmndjplbcpglaa
open Go.RowKit Go.Shelf
set_option linter.unusedVariables false

/-- The slice, made since B, holds the elements l, each of which is sz cells. -/
def OwnG {α : Type} (f : α → List Value) (e : TypeId) (sz : Nat) (W : World) (B : Nat) (v : Value) (l : List α) : Prop := W.ownsRow B e sz v l.length (l.flatMap f)
/-- The slice lies in its box. -/
structure GaI {α : Type} (f : α → List Value) (e t : TypeId) (sz : Nat) (w₀ : World) (bg : Nat) (l : List α) (W : World) : Prop where
  below : Below w₀.heap.size w₀ W
  got : ∃ ao n cap, W.heap[bg]? = some (.cells #[.slice ao n cap] t) ∧ OwnG f e sz W w₀.heap.size (.slice ao n cap) l
theorem GaI.ownFrom {α : Type} {f : α → List Value} {e t : TypeId} {sz : Nat} {w₀ : World} {bg B : Nat} (hB : w₀.heap.size ≤ B) : OwnM B (fun (l : List α) W => GaI f e t sz w₀ bg l W) := fun l A C row hs hg hr => by
  obtain ⟨ao, n, cap, h1, h2⟩ := hs.got
  refine ⟨hs.below.grown hg hs.below.size (fun r e => by have := (hr r e).1; omega), ao, n, cap, heap_kept h1 hg (fun r e => (hr r e).2), World.ownsRow.kept h2 hg ?_⟩
  rcases h2.2 with ⟨h3, _⟩ | ⟨g, cap', cur, h3, _, hgb, _⟩
  · exact .inl (by rw [h3]; rfl)
  · refine .inr fun e' => ?_
    rw [h3] at e'
    obtain ⟨-, o, ho, hc⟩ := hr g (by simpa [Value.ownBlock] using e'.symm)
    rw [hgb] at ho; cases ho; cases hc
/-- What an append and the store back leave. -/
theorem GaI.appended {α : Type} {f : α → List Value} {e t : TypeId} {sz : Nat} (het : e ≠ t) (hk : ∀ ty, KTy ty → ty ≠ e ∧ ty ≠ t) {w₀ W w1 : World} {bg : Nat} {l : List α} {ao : Option Addr} {n cap : Nat} {ao' : Option Addr} {n' cap' : Nat} {x : α} {tmp : Obj} {m : Nat} (hm : m = l.length + 1) (hbg : w₀.heap.size ≤ bg) (hb : Below w₀.heap.size w₀ W) (hbox : W.heap[bg]? = some (.cells #[.slice ao n cap] t)) (hown : OwnG f e sz W w₀.heap.size (.slice ao n cap) l)
    (ho : w1.ownsRow w₀.heap.size e sz (.slice ao' n' cap') m (l.flatMap f ++ f x)) (hg : (W.alloc tmp).grownBy w1 (Value.slice ao n cap).ownBlock) :
    w1.heap[bg]? = some (.cells #[.slice ao n cap] t) ∧ KeepsOthers W (w1.setCell ⟨bg, 0, none⟩ (.slice ao' n' cap')) ∧ Kp w₀.heap.size (fun _ => False) W (w1.setCell ⟨bg, 0, none⟩ (.slice ao' n' cap')) ∧ GaI f e t sz w₀ bg (l ++ [x]) (w1.setCell ⟨bg, 0, none⟩ (.slice ao' n' cap')) := by
  subst hm
  have typed : ∀ r, (Value.slice ao n cap).ownBlock = some r → w₀.heap.size ≤ r ∧ ∃ cs, W.heap[r]? = some (.cells cs e) := fun r hr => ⟨(World.ownsRow.lt hown r hr).1, ownsRow_typed hown r hr⟩
  have kept : ∀ b, b < W.heap.size → some b ≠ (Value.slice ao n cap).ownBlock → w1.heap[b]? = W.heap[b]? := fun b hlt hne => (hg.block b (by simp; omega) hne).trans (Below.heap_alloc _ _ _ hlt)
  have keptT : ∀ (b : Nat) (cs : Array Value) (ty : TypeId), W.heap[b]? = some (.cells cs ty) → ty ≠ e → w1.heap[b]? = some (.cells cs ty) := fun b cs ty hbk hty => (kept b (lt_of_heap hbk) (fun e => by
    obtain ⟨ds, hd⟩ := (typed b e.symm).2
    rw [hbk] at hd
    simp at hd
    exact hty hd.2)).trans hbk
  have box1 := keptT bg _ _ hbox (Ne.symm het)
  have hsz : W.heap.size ≤ w1.heap.size := by have := hg.size; simp at this; omega
  have below1 : Below w₀.heap.size W w1 := ((Below.refl _ W).alloc hb.size tmp).grown hg (by have := hb.size; simp; omega) (fun r e => (typed r e).1)
  refine ⟨box1, ⟨by rw [size_setCell']; exact hsz, fun b o ho' hc => ?_⟩, ⟨below1.setCell (p := ⟨bg, 0, none⟩) hbg _, fun b cs ty hbk hty _ => ?_⟩, (hb.trans below1).setCell (p := ⟨bg, 0, none⟩) hbg _, ao', n', cap', ?_, ?_⟩
  · rw [heap_setCell_other _ _ _ _ (fun e => by
      have e' : b = bg := e
      subst e'
      rw [hbox] at ho'; cases ho'; cases hc)]
    exact (kept b (lt_of_heap ho') (fun e => by
      obtain ⟨ds, hd⟩ := (typed b e.symm).2
      rw [ho'] at hd; cases hd; cases hc)).trans ho'
  · have hne := hk ty hty
    rw [heap_setCell_other _ _ _ _ (fun e => by
      have e' : b = bg := e
      subst e'
      rw [hbox] at hbk
      simp at hbk
      exact hne.2 hbk.2.symm), keptT b cs ty hbk hne.1, hbk]
  · rw [setCell_blk box1]; rfl
  · unfold OwnG
    rw [List.flatMap_append, List.flatMap_singleton, List.length_append]
    refine ownsRow_setCell_other ho (fun e => ?_) _
    exact own_ne (ownsRow_typed ho _ e) box1 het rfl
theorem filAll' {w W : World} {tb : Nat} {T : Tr} {ne : Int} {d : Nat} {es : List En} (h : Held w W tb T ne d es) : fil (d + 1) T ⟨#[]⟩ = es := by
  rw [fil_root h.good.root, h.ents]
  refine filter_all fun e _ => ?_
  unfold notLt
  simp only [Bool.not_eq_true', decide_eq_false_iff_not]
  exact not_lt_nil _
end Go.Proofs.Ytnmndjplbcpglaa
