/- Layer 4 (walk): slices.Backward over Nodes; a range over a function that is never left. -/
import Derived.Test.YtnmndjplbcpglaaXFrom
import Derived.Test.YtnmndjplbcpglaaXAlive4
import Derived.Test.YtnmndjplbcpglaaXLawK
namespace Go.Proofs.Ytnmndjplbcpglaa
open Go.RowKit Go.Shelf
set_option linter.unusedVariables false
attribute [local go_sem] Oper.semAt_some

/-- The iterator, where no round leaves: all that S says come. -/
def SeqN {α : Type} (Kp : World → World → Prop) (gf : Nat) (lb : Array Value) (encs : α → Array Value) (S : List α → Prop) (Ok : List α → α → Prop) (w : World) : Prop :=
  ∀ (l : Nat) (J Jx : List α → World → Prop) (W : World), Below w.heap.size w W → l < W.heap.size → OwnM W.heap.size J → OwnM W.heap.size Jx → AbsK W.heap.size J → (∀ xs W', ¬ Jx xs W') →
    (∀ m pre x W1, J pre W1 → Ok pre x → YieldAt Fence.wide m Try.prog l (encs x) W1 (Rnd Kp l J Jx pre x W1)) → J [] W →
    Calls Try.prog gf (#[.func (.yield l) #[] #[]] ++ lb) W fun e W' => (∃ v, e = .returned v) ∧ ∃ xs, S xs ∧ J xs W'

theorem range_lawF {α : Type} {g : Operand} {ps : Array Tmp} {assign body : Code} {Q : Exit → Act → World → Prop} {a : Act} {w : World} {n : Nat} (hn : 1 ≤ n)
    {gf : Nat} {lb : Array Value} (hg : a.eval g = .func (.func gf) #[] lb) (eg : ∀ args w, (callFunc gf args).run Try.prog w = .ok (.enter gf args) w)
    {encs : α → Array Value} {Kp : World → World → Prop} {S : List α → Prop} {Ok : List α → α → Prop} {w0 : World} (hseq : SeqN Kp gf lb encs S Ok w0)
    (hKt : ∀ {A B C : World}, Kp A B → Kp B C → Kp A C) (hKb : ∀ (W : World) (l : Nat) (o o' : Obj), w.heap.size ≤ l → W.heap[l]? = some o → o.isCells = false → Kp W (W.putObj l o')) (hb0 : Below w0.heap.size w0 w) (hps : ∀ x, (encs x).size = ps.size)
    (I : List α → World → Prop) (hI : OwnM w.heap.size I) (hIk : AbsK w.heap.size I) (h0 : I [] w) (a₁ : α → Act)
    (hassign : ∀ (l m : Nat) (x : α) (W : World) (K : Act → World → Prop), K (a₁ x) W →
      assign.wpIn (Fence.wide.inRound l) m Try.prog (Exit.then K (fun _ _ _ => False)) { tmps := (ps.zip (encs x)).foldl (fun t (p, v) => t.setIfInBounds p v) a.tmps, defers := [] } W)
    (hbody : ∀ (l m : Nat) (pre : List α) (x : α) (W : World), w.heap.size + 2 ≤ W.heap.size → I pre W → Ok pre x → body.wpIn (Fence.wide.inRound l) m Try.prog (ownPostG w.heap.size Kp I (fun _ _ _ => False) (pre ++ [x]) W) (a₁ x) W)
    (hdone : ∀ (D : Nat) (xs : List α) (W : World), w.heap.size ≤ D → S xs → I xs W → W.heap[D]? = some (.deferred (some [])) → Q .normal { a with defers := { target := .collected D, args := #[] } :: a.defers } W) :
    (Code.rangeFunc g ps assign body).wpIn Fence.wide n Try.prog Q a w := by
  let Ix : Code → List α → World → Prop := fun _ _ _ => False
  have hIx : ∀ c, OwnM w.heap.size (Ix c) := fun c s X Y row h _ _ => h
  refine wpIn_rangeFunc fun fn hfn => ?_
  -- the loop's record, in the state st, with the jump pe pending; the block for deferred calls lies right ahead of it
  let rc : LoopState → Option Code → Loop := fun st pe => { state := st, pending := pe, fn, tmps := a.tmps, params := ps, assign, body, defers := w.heap.size }
  obtain ⟨W1, hW1⟩ : ∃ W1, W1 = (w.alloc (.deferred (some []))).alloc (.loop (rc .ready none)) := ⟨_, rfl⟩
  have sz1 : W1.heap.size = w.heap.size + 2 := by rw [hW1]; simp [World.size_alloc]
  have rec1 : W1.heap[w.heap.size + 1]? = some (.loop (rc .ready none)) := by
    have := World.alloc_heap_new (w.alloc (.deferred (some []))) (.loop (rc .ready none))
    rw [World.size_alloc] at this
    rw [hW1]; exact this
  have def1 : W1.heap[w.heap.size]? = some (.deferred (some [])) := by
    rw [hW1, Below.heap_alloc _ _ _ (by simp)]; exact World.alloc_heap_new w _
  have below1 : Below w.heap.size w W1 := by rw [hW1]; exact ((Below.refl _ w).alloc (Nat.le_refl _) _).alloc (by simp) _
  -- what holds between two rounds, and behind a round that has left
  let J : List α → World → Prop := fun xs W => I xs W ∧ W.heap[w.heap.size + 1]? = some (.loop (rc .ready none)) ∧ W.heap[w.heap.size]? = some (.deferred (some []))
  let Jx : List α → World → Prop := fun xs W => ∃ c, Ix c xs W ∧ W.heap[w.heap.size + 1]? = some (.loop (rc .done (some c))) ∧ W.heap[w.heap.size]? = some (.deferred (some []))
  have far : ∀ {X Y : World} {row : Option Nat} {b : Nat} {o : Obj}, X.grownBy Y row → (∀ r, row = some r → W1.heap.size ≤ r ∧ ∃ o : Obj, X.heap[r]? = some o ∧ isMark o = true) → b < w.heap.size + 2 → X.heap[b]? = some o → Y.heap[b]? = some o := fun hgr hr hb ho =>
    (hgr.block _ (lt_of_heap ho) (fun e => by have := (hr _ e.symm).1; omega)).trans ho
  have near : ∀ {X : World} {row : Option Nat}, (∀ r, row = some r → W1.heap.size ≤ r ∧ ∃ o : Obj, X.heap[r]? = some o ∧ isMark o = true) → (∀ r, row = some r → w.heap.size ≤ r ∧ ∃ o : Obj, X.heap[r]? = some o ∧ isMark o = true) := fun hr r e => ⟨by have := (hr r e).1; omega, (hr r e).2⟩
  have hJ : OwnM W1.heap.size J := fun s X Y row hs hgr hr => ⟨hI s X Y row hs.1 hgr (near hr), far hgr hr (by omega) hs.2.1, far hgr hr (by omega) hs.2.2⟩
  have hJx : OwnM W1.heap.size Jx := fun s X Y row hs hgr hr => by
    obtain ⟨c, h1, h2, h3⟩ := hs
    exact ⟨c, hIx c s X Y row h1 hgr (near hr), far hgr hr (by omega) h2, far hgr hr (by omega) h3⟩
  have hJ1 : J [] W1 := ⟨by rw [hW1]; exact hI.alloc _ (hI.alloc _ h0), rec1, def1⟩
  -- one round
  have round : ∀ m pre x W, J pre W → Ok pre x → YieldAt Fence.wide m Try.prog (w.heap.size + 1) (encs x) W (Rnd Kp (w.heap.size + 1) J Jx pre x W) := by
    rintro m pre x W ⟨hi, hrec, hdef⟩ hlen
    have hlt := lt_of_heap hrec
    refine ⟨fn, _, assign, body, run_yield (P := Try.prog) (args := encs x) hrec (hps x), roundIn_of_wpIn hfn (hassign _ m x W _ ⟨_, run_beginRound hrec rfl, ?_⟩)⟩
    have hrec2 : (W.putObj (w.heap.size + 1) (.loop (rc .busy none))).heap[w.heap.size + 1]? = some (.loop (rc .busy none)) := World.putObj_heap_same hlt
    have hdef2 : (W.putObj (w.heap.size + 1) (.loop (rc .busy none))).heap[w.heap.size]? = some (.deferred (some [])) := (World.putObj_heap_other (by omega)).trans hdef
    have kf2 : KeepsFrom (w.heap.size + 1 + 1) W (W.putObj (w.heap.size + 1) (.loop (rc .busy none))) := ⟨(grownBy_putObj' W _ _).size, fun k o hk ho _ => (World.putObj_heap_other (by omega)).trans ho⟩
    refine wpIn_mono (hbody _ m pre x (W.putObj (w.heap.size + 1) (.loop (rc .busy none))) (by have := kf2.size; omega) (hI.putObj _ hi (by omega) hrec rfl) hlen) ?_
    have fin : ∀ (jump : Option Code) (W3 : World), KeepsFrom w.heap.size (W.putObj (w.heap.size + 1) (.loop (rc .busy none))) W3 →
        (Instr.endRound (w.heap.size + 1) jump).run Try.prog W3 = .ok (.bool jump.isNone) (W3.putObj (w.heap.size + 1) (.loop (rc (if jump.isNone then .ready else .done) jump))) ∧
        W3.heap[w.heap.size + 1]? = some (.loop (rc .busy none)) ∧
        (W3.putObj (w.heap.size + 1) (.loop (rc (if jump.isNone then .ready else .done) jump))).heap[w.heap.size + 1]? = some (.loop (rc (if jump.isNone then .ready else .done) jump)) ∧
        (W3.putObj (w.heap.size + 1) (.loop (rc (if jump.isNone then .ready else .done) jump))).heap[w.heap.size]? = some (.deferred (some [])) ∧
        KeepsFrom (w.heap.size + 1 + 1) W (W3.putObj (w.heap.size + 1) (.loop (rc (if jump.isNone then .ready else .done) jump))) := fun jump W3 hk3 => by
      have hr3 := hk3.same _ _ (by omega) hrec2 rfl
      refine ⟨run_endRound (P := Try.prog) jump hr3, hr3, World.putObj_heap_same (lt_of_heap hr3), (World.putObj_heap_other (by omega)).trans (hk3.same _ _ (Nat.le_refl _) hdef2 rfl), ?_⟩
      refine (kf2.trans ⟨hk3.size, fun k o hk ho hc => hk3.same k o (by omega) ho hc⟩).trans ⟨(grownBy_putObj' W3 _ _).size, fun k o hk ho _ => (World.putObj_heap_other (by omega)).trans ho⟩
    have left : ∀ (c : Code) (W3 : World), KeepsFrom w.heap.size (W.putObj (w.heap.size + 1) (.loop (rc .busy none))) W3 → Ix c (pre ++ [x]) W3 → ∃ v w', (Instr.endRound (w.heap.size + 1) (some c)).run Try.prog W3 = .ok v w' ∧ Rnd Kp (w.heap.size + 1) J Jx pre x W (.returned v) w' := fun c W3 hk3 hx3 => hx3.elim
    rintro e a3 W3 hp
    cases e with
    | normal =>
      obtain ⟨f1, f2, f3, f4, f5⟩ := fin none W3 hp.1
      exact ⟨_, _, f1, .inl ⟨rfl, ⟨hI.putObj _ hp.2.2 (by omega) f2 rfl, f3, f4⟩, hKt (hKt (hKb _ _ _ _ (by omega) hrec rfl) hp.2.1) (hKb _ _ _ _ (by omega) f2 rfl), f5⟩⟩
    | ret => exact left .ret W3 hp.1 hp.2
    | exit id => exact left (.exit id) W3 hp.1 hp.2
    | goto t => exact left (.goto t) W3 hp.1 hp.2
    | panic ch => exact hp.elim
    | outgrown => exact hp.elim
  have hJk : AbsK W1.heap.size J := fun s X b i cs ty u h hb hX ht => ⟨hIk s X b i cs ty u h.1 (by omega) hX ht, (heap_setCell_other _ _ _ _ (by show w.heap.size + 1 ≠ b; omega)).trans h.2.1, (heap_setCell_other _ _ _ _ (by show w.heap.size ≠ b; omega)).trans h.2.2⟩
  have hcall := hseq (w.heap.size + 1) J Jx W1 (hb0.trans (below1.mono hb0.size)) (by omega) hJ hJx hJk (fun xs W' h => by obtain ⟨c, h1, -⟩ := h; exact h1) round hJ1
  refine ⟨w.heap.size + 1, [{ target := .collected w.heap.size, args := #[] }], W1, { target := .fn (.func gf) lb, args := #[.func (.yield (w.heap.size + 1)) #[] #[]] }, W1, gf, #[.func (.yield (w.heap.size + 1)) #[] #[]] ++ lb, W1, ?_, ?_, fun _ _ => trivial, ?_, fun _ => hn, ?_⟩
  · rw [hW1]; exact run_enterLoop_outer _ _ _ _ _
  · simp only [resolve, hg]; simp [go_sem]
  · simp [invoke, go_sem, eg]
  · refine (callsIn_wide.2 hcall).mono ?_
    rintro e W2 ⟨⟨v, rfl⟩, xs, hS, hi, hrec, hdef⟩
    exact ⟨none, _, run_endLoop (P := Try.prog) hrec (by simp [rc]), hdone _ xs _ (Nat.le_refl _) hS (hI.putObj _ hi (by omega) hrec rfl) ((World.putObj_heap_other (by omega)).trans hdef)⟩

/-- .. whose round has a variable of its own for what comes. -/
theorem range_lawFA {α : Type} {g : Operand} {ps : Array Tmp} {assign body : Code} {Q : Exit → Act → World → Prop} {a : Act} {w : World} {n : Nat} (hn : 1 ≤ n)
    {gf : Nat} {lb : Array Value} (hg : a.eval g = .func (.func gf) #[] lb) (eg : ∀ args w, (callFunc gf args).run Try.prog w = .ok (.enter gf args) w)
    {encs : α → Array Value} {Kp : World → World → Prop} {S : List α → Prop} {Ok : List α → α → Prop} {w0 : World} (hseq : SeqN Kp gf lb encs S Ok w0)
    (hKt : ∀ {A B C : World}, Kp A B → Kp B C → Kp A C) (hKb : ∀ (W : World) (l : Nat) (o o' : Obj), w.heap.size ≤ l → W.heap[l]? = some o → o.isCells = false → Kp W (W.putObj l o')) (hb0 : Below w0.heap.size w0 w) (hps : ∀ x, (encs x).size = ps.size)
    (I : List α → World → Prop) (hI : OwnM w.heap.size I) (hIk : AbsK w.heap.size I) (h0 : I [] w) (ob : α → Obj) (hob : ∀ x, (ob x).isCells = true) (hKa : ∀ (W : World) (x : α), w.heap.size ≤ W.heap.size → Kp W (W.alloc (ob x))) (a₁ : α → Nat → Act)
    (hassign : ∀ (l m : Nat) (x : α) (W : World) (K : Act → World → Prop), K (a₁ x W.heap.size) (W.alloc (ob x)) →
      assign.wpIn (Fence.wide.inRound l) m Try.prog (Exit.then K (fun _ _ _ => False)) { tmps := (ps.zip (encs x)).foldl (fun t (p, v) => t.setIfInBounds p v) a.tmps, defers := [] } W)
    (hbody : ∀ (l m : Nat) (pre : List α) (x : α) (W : World), w.heap.size + 2 ≤ W.heap.size → I pre W → Ok pre x → ∀ bx, w.heap.size ≤ bx → W.heap[bx]? = some (ob x) → body.wpIn (Fence.wide.inRound l) m Try.prog (ownPostG w.heap.size Kp I (fun _ _ _ => False) (pre ++ [x]) W) (a₁ x bx) W)
    (hdone : ∀ (D : Nat) (xs : List α) (W : World), w.heap.size ≤ D → S xs → I xs W → W.heap[D]? = some (.deferred (some [])) → Q .normal { a with defers := { target := .collected D, args := #[] } :: a.defers } W) :
    (Code.rangeFunc g ps assign body).wpIn Fence.wide n Try.prog Q a w := by
  let Ix : Code → List α → World → Prop := fun _ _ _ => False
  have hIx : ∀ c, OwnM w.heap.size (Ix c) := fun c s X Y row h _ _ => h
  refine wpIn_rangeFunc fun fn hfn => ?_
  -- the loop's record, in the state st, with the jump pe pending; the block for deferred calls lies right ahead of it
  let rc : LoopState → Option Code → Loop := fun st pe => { state := st, pending := pe, fn, tmps := a.tmps, params := ps, assign, body, defers := w.heap.size }
  obtain ⟨W1, hW1⟩ : ∃ W1, W1 = (w.alloc (.deferred (some []))).alloc (.loop (rc .ready none)) := ⟨_, rfl⟩
  have sz1 : W1.heap.size = w.heap.size + 2 := by rw [hW1]; simp [World.size_alloc]
  have rec1 : W1.heap[w.heap.size + 1]? = some (.loop (rc .ready none)) := by
    have := World.alloc_heap_new (w.alloc (.deferred (some []))) (.loop (rc .ready none))
    rw [World.size_alloc] at this
    rw [hW1]; exact this
  have def1 : W1.heap[w.heap.size]? = some (.deferred (some [])) := by
    rw [hW1, Below.heap_alloc _ _ _ (by simp)]; exact World.alloc_heap_new w _
  have below1 : Below w.heap.size w W1 := by rw [hW1]; exact ((Below.refl _ w).alloc (Nat.le_refl _) _).alloc (by simp) _
  -- what holds between two rounds, and behind a round that has left
  let J : List α → World → Prop := fun xs W => I xs W ∧ W.heap[w.heap.size + 1]? = some (.loop (rc .ready none)) ∧ W.heap[w.heap.size]? = some (.deferred (some []))
  let Jx : List α → World → Prop := fun xs W => ∃ c, Ix c xs W ∧ W.heap[w.heap.size + 1]? = some (.loop (rc .done (some c))) ∧ W.heap[w.heap.size]? = some (.deferred (some []))
  have far : ∀ {X Y : World} {row : Option Nat} {b : Nat} {o : Obj}, X.grownBy Y row → (∀ r, row = some r → W1.heap.size ≤ r ∧ ∃ o : Obj, X.heap[r]? = some o ∧ isMark o = true) → b < w.heap.size + 2 → X.heap[b]? = some o → Y.heap[b]? = some o := fun hgr hr hb ho =>
    (hgr.block _ (lt_of_heap ho) (fun e => by have := (hr _ e.symm).1; omega)).trans ho
  have near : ∀ {X : World} {row : Option Nat}, (∀ r, row = some r → W1.heap.size ≤ r ∧ ∃ o : Obj, X.heap[r]? = some o ∧ isMark o = true) → (∀ r, row = some r → w.heap.size ≤ r ∧ ∃ o : Obj, X.heap[r]? = some o ∧ isMark o = true) := fun hr r e => ⟨by have := (hr r e).1; omega, (hr r e).2⟩
  have hJ : OwnM W1.heap.size J := fun s X Y row hs hgr hr => ⟨hI s X Y row hs.1 hgr (near hr), far hgr hr (by omega) hs.2.1, far hgr hr (by omega) hs.2.2⟩
  have hJx : OwnM W1.heap.size Jx := fun s X Y row hs hgr hr => by
    obtain ⟨c, h1, h2, h3⟩ := hs
    exact ⟨c, hIx c s X Y row h1 hgr (near hr), far hgr hr (by omega) h2, far hgr hr (by omega) h3⟩
  have hJ1 : J [] W1 := ⟨by rw [hW1]; exact hI.alloc _ (hI.alloc _ h0), rec1, def1⟩
  -- one round
  have round : ∀ m pre x W, J pre W → Ok pre x → YieldAt Fence.wide m Try.prog (w.heap.size + 1) (encs x) W (Rnd Kp (w.heap.size + 1) J Jx pre x W) := by
    rintro m pre x W' ⟨hi', hrec', hdef'⟩ hlen
    obtain ⟨W, hW⟩ : ∃ W, W = W'.alloc (ob x) := ⟨_, rfl⟩
    have hi : I pre W := by rw [hW]; exact hI.alloc _ hi'
    have hrec : W.heap[w.heap.size + 1]? = some (.loop (rc .ready none)) := by rw [hW, Below.heap_alloc _ _ _ (lt_of_heap hrec')]; exact hrec'
    have hdef : W.heap[w.heap.size]? = some (.deferred (some [])) := by rw [hW, Below.heap_alloc _ _ _ (lt_of_heap hdef')]; exact hdef'
    have hbx : W.heap[W'.heap.size]? = some (ob x) := by rw [hW]; exact heap_alloc_new _ _
    have hbl : w.heap.size + 2 ≤ W'.heap.size := by have := lt_of_heap hrec'; omega
    have kfa : KeepsFrom (w.heap.size + 1 + 1) W' W := ⟨by rw [hW]; simp, fun k o hk ho _ => by rw [hW, Below.heap_alloc _ _ _ (lt_of_heap ho)]; exact ho⟩
    have kpa : Kp W' W := by rw [hW]; exact hKa _ _ (by omega)
    have hlt := lt_of_heap hrec
    refine ⟨fn, _, assign, body, run_yield (P := Try.prog) (args := encs x) hrec' (hps x), roundIn_of_wpIn hfn (hassign _ m x W' _ ?_)⟩
    rw [← hW]
    refine ⟨_, run_beginRound hrec rfl, ?_⟩
    have hrec2 : (W.putObj (w.heap.size + 1) (.loop (rc .busy none))).heap[w.heap.size + 1]? = some (.loop (rc .busy none)) := World.putObj_heap_same hlt
    have hdef2 : (W.putObj (w.heap.size + 1) (.loop (rc .busy none))).heap[w.heap.size]? = some (.deferred (some [])) := (World.putObj_heap_other (by omega)).trans hdef
    have kf2 : KeepsFrom (w.heap.size + 1 + 1) W (W.putObj (w.heap.size + 1) (.loop (rc .busy none))) := ⟨(grownBy_putObj' W _ _).size, fun k o hk ho _ => (World.putObj_heap_other (by omega)).trans ho⟩
    refine wpIn_mono (hbody _ m pre x (W.putObj (w.heap.size + 1) (.loop (rc .busy none))) (by have := kf2.size; omega) (hI.putObj _ hi (by omega) hrec rfl) hlen W'.heap.size (by omega) ((World.putObj_heap_other (by omega)).trans hbx)) ?_
    have fin : ∀ (jump : Option Code) (W3 : World), KeepsFrom w.heap.size (W.putObj (w.heap.size + 1) (.loop (rc .busy none))) W3 →
        (Instr.endRound (w.heap.size + 1) jump).run Try.prog W3 = .ok (.bool jump.isNone) (W3.putObj (w.heap.size + 1) (.loop (rc (if jump.isNone then .ready else .done) jump))) ∧
        W3.heap[w.heap.size + 1]? = some (.loop (rc .busy none)) ∧
        (W3.putObj (w.heap.size + 1) (.loop (rc (if jump.isNone then .ready else .done) jump))).heap[w.heap.size + 1]? = some (.loop (rc (if jump.isNone then .ready else .done) jump)) ∧
        (W3.putObj (w.heap.size + 1) (.loop (rc (if jump.isNone then .ready else .done) jump))).heap[w.heap.size]? = some (.deferred (some [])) ∧
        KeepsFrom (w.heap.size + 1 + 1) W (W3.putObj (w.heap.size + 1) (.loop (rc (if jump.isNone then .ready else .done) jump))) := fun jump W3 hk3 => by
      have hr3 := hk3.same _ _ (by omega) hrec2 rfl
      refine ⟨run_endRound (P := Try.prog) jump hr3, hr3, World.putObj_heap_same (lt_of_heap hr3), (World.putObj_heap_other (by omega)).trans (hk3.same _ _ (Nat.le_refl _) hdef2 rfl), ?_⟩
      refine (kf2.trans ⟨hk3.size, fun k o hk ho hc => hk3.same k o (by omega) ho hc⟩).trans ⟨(grownBy_putObj' W3 _ _).size, fun k o hk ho _ => (World.putObj_heap_other (by omega)).trans ho⟩
    have left : ∀ (c : Code) (W3 : World), KeepsFrom w.heap.size (W.putObj (w.heap.size + 1) (.loop (rc .busy none))) W3 → Ix c (pre ++ [x]) W3 → ∃ v w', (Instr.endRound (w.heap.size + 1) (some c)).run Try.prog W3 = .ok v w' ∧ Rnd Kp (w.heap.size + 1) J Jx pre x W' (.returned v) w' := fun c W3 hk3 hx3 => hx3.elim
    rintro e a3 W3 hp
    cases e with
    | normal =>
      obtain ⟨f1, f2, f3, f4, f5⟩ := fin none W3 hp.1
      exact ⟨_, _, f1, .inl ⟨rfl, ⟨hI.putObj _ hp.2.2 (by omega) f2 rfl, f3, f4⟩, hKt kpa (hKt (hKt (hKb _ _ _ _ (by omega) hrec rfl) hp.2.1) (hKb _ _ _ _ (by omega) f2 rfl)), kfa.trans f5⟩⟩
    | ret => exact left .ret W3 hp.1 hp.2
    | exit id => exact left (.exit id) W3 hp.1 hp.2
    | goto t => exact left (.goto t) W3 hp.1 hp.2
    | panic ch => exact hp.elim
    | outgrown => exact hp.elim
  have hJk : AbsK W1.heap.size J := fun s X b i cs ty u h hb hX ht => ⟨hIk s X b i cs ty u h.1 (by omega) hX ht, (heap_setCell_other _ _ _ _ (by show w.heap.size + 1 ≠ b; omega)).trans h.2.1, (heap_setCell_other _ _ _ _ (by show w.heap.size ≠ b; omega)).trans h.2.2⟩
  have hcall := hseq (w.heap.size + 1) J Jx W1 (hb0.trans (below1.mono hb0.size)) (by omega) hJ hJx hJk (fun xs W' h => by obtain ⟨c, h1, -⟩ := h; exact h1) round hJ1
  refine ⟨w.heap.size + 1, [{ target := .collected w.heap.size, args := #[] }], W1, { target := .fn (.func gf) lb, args := #[.func (.yield (w.heap.size + 1)) #[] #[]] }, W1, gf, #[.func (.yield (w.heap.size + 1)) #[] #[]] ++ lb, W1, ?_, ?_, fun _ _ => trivial, ?_, fun _ => hn, ?_⟩
  · rw [hW1]; exact run_enterLoop_outer _ _ _ _ _
  · simp only [resolve, hg]; simp [go_sem]
  · simp [invoke, go_sem, eg]
  · refine (callsIn_wide.2 hcall).mono ?_
    rintro e W2 ⟨⟨v, rfl⟩, xs, hS, hi, hrec, hdef⟩
    exact ⟨none, _, run_endLoop (P := Try.prog) hrec (by simp [rc]), hdone _ xs _ (Nat.le_refl _) hS (hI.putObj _ hi (by omega) hrec rfl) ((World.putObj_heap_other (by omega)).trans hdef)⟩

theorem backwardN_calls (ao : Option Addr) (n cap : Nat) (w : World) :
    Calls Try.prog 45 #[.slice ao n cap] w fun e w' => e = .returned (.func (.func 66) #[] #[.pointer (some ⟨w.heap.size, 0, none⟩)]) ∧ w' = w.alloc (.cells #[.slice ao n cap] 96) := by
  have hmf : ∀ (fn : Fn) (first cap : Array Value) (w : World), (Instr.makeFunc fn first cap).run Try.prog w = .ok (.func fn first cap) w := fun _ _ _ _ => rfl
  go_enter Try.func45, Try.ntmps45
  go_wp2
  go_ret
  exact ⟨rfl, rfl⟩
def encK (init : List Tr) (i : Fin init.length) : Array Value := #[.int .i64 ((i.val : Nat) : Int), nodeV init[i.val]]

set_option maxRecDepth 100000 in
set_option maxHeartbeats 2000000 in
theorem backN_in (F : Fence) (n : Nat) (hF : F.fn 66) (hro : F.round = none) (hn : 1 ≤ n) (l Bs b cap : Nat) (init : List Tr) (hlen : init.length ≤ 17592186044416) (J Jx : List (Fin init.length) → World → Prop)
    (hY : ∀ pre x W, J pre W → x.val = init.length - 1 - pre.length → pre.length < init.length → YieldAt F (n - 1) Try.prog l (encK init x) W fun e W' => (e = .returned (.bool true) ∧ J (pre ++ [x]) W' ∧ Kept2 b Bs W W') ∨ (e = .returned (.bool false) ∧ Jx (pre ++ [x]) W'))
    (W : World) (hBs : W.cell? ⟨Bs, 0, none⟩ = some (.slice (some ⟨b, 0, none⟩) init.length cap)) (hc : ∀ i (h : i < init.length), W.cell? ⟨b, i, none⟩ = some (.pointer (some ⟨init[i].a, 0, none⟩))) (h0 : J [] W) :
    CallsIn F n Try.prog 66 #[.func (.yield l) #[] #[], .pointer (some ⟨Bs, 0, none⟩)] W fun e W' => (∃ v, e = .returned v) ∧
      ((∃ ys : List (Fin init.length), ys.map (·.val) = downTo init.length init.length ∧ J ys W') ∨ (∃ pre, True ∧ Jx pre W')) := by
  have HC : Hid (∀ i (h : i < init.length), W.cell? ⟨b, i, none⟩ = some (.pointer (some ⟨init[i].a, 0, none⟩))) := hc
  clear hc
  refine callsIn_of_wp Try.func66 rfl hF ?_ hro
  simp only [Try.ntmps66, List.size_toArray, List.length_cons, List.length_nil, Nat.reduceAdd, Nat.reduceSub, Array.replicate_succ, Array.replicate_zero, List.push_toArray, List.append_toArray, List.nil_append, List.cons_append]
  gi_wp2
  gi_loopw [3] (fun i wr => ∃ (k : Nat) (pre : List (Fin init.length)), k ≤ init.length ∧ i = .int .i64 ((init.length : Int) - 1 - k) ∧ Hid (pre.map (·.val) = downTo init.length k) ∧ Hid (J pre wr) ∧ Hid (Kept2 b Bs W wr))
    (fun i _ => ((intOf i) + 1).toNat)
  case atStart => exact ⟨0, [], Nat.zero_le _, by simp, rfl, h0, Kept2.refl _ _ _⟩
  case round =>
    obtain ⟨k, pre, hk, rfl, HP, HJ, HB⟩ := hrel
    have hcs : wr.cell? ⟨Bs, 0, none⟩ = some (.slice (some ⟨b, 0, none⟩) init.length cap) := (cell_same HB.out.two).trans hBs
    by_cases hlt : k < init.length
    · have hi : init.length - 1 - k < init.length := by omega
      have hcell := HC.out (init.length - 1 - k) hi
      have hpl : pre.length = k := by have := congrArg List.length HP.out; simpa [downTo_length] using this
      obtain ⟨fn, tmps, assign, body, hy, hR⟩ := hY pre ⟨init.length - 1 - k, hi⟩ wr HJ.out (by show init.length - 1 - k = _; rw [hpl]) (by omega)
      have hii : ((init.length - 1 - k : Nat) : Int) = (init.length : Int) - 1 - k := by omega
      dsimp only [encK, nodeV] at hy
      have hcw : wr.cell? ⟨b, (init.length - 1 - k), none⟩ = some (.pointer (some ⟨init[init.length - 1 - k].a, 0, none⟩)) := by
        rw [cell_same HB.out.one]; simpa using hcell
      have htn : ((init.length : Int) - 1 - k).toNat = init.length - 1 - k := by omega
      have hge : (0 : Int) ≤ (init.length : Int) - 1 - k := by omega
      rw [hii] at hy
      gi_wp2
      refine hR.mono ?_
      rintro e W3 (⟨rfl, hJ3, hk3⟩ | ⟨rfl, hJx3⟩)
      · have HJ3 : Hid (J (pre ++ [⟨init.length - 1 - k, hi⟩]) W3) := hJ3
        have HB3 : Hid (Kept2 b Bs W W3) := HB.out.trans hk3
        clear hJ3 hk3
        gi_wp2
        go_roundw
        case rel => exact ⟨k + 1, _, by omega, by congr 1; omega, by show _ = _; rw [List.map_append, HP.out, downTo_succ]; rfl, HJ3, HB3⟩
        case measure => simp only [intOf]; omega
      · gi_wp2
        refine bodyPost_ret (results_none rfl _ _ _) rfl ?_
        exact ⟨⟨_, rfl⟩, .inr ⟨_, trivial, hJx3⟩⟩
    · have hkl : k = init.length := by omega
      subst hkl
      have hneg : ¬ (0 : Int) ≤ (init.length : Int) - 1 - (init.length : Int) := by omega
      have hsub : (init.length : Int) - 1 - (init.length : Int) = -1 := by omega
      rw [hsub]
      gi_wp2
      go_end0
      exact ⟨⟨_, rfl⟩, .inl ⟨_, HP.out, HJ.out⟩⟩


theorem backN_seq (Bs b cap : Nat) (init : List Tr) (hlen : init.length ≤ 17592186044416) (w : World) (hc : w.cell? ⟨Bs, 0, none⟩ = some (.slice (some ⟨b, 0, none⟩) init.length cap)) (hk : ∀ i (h : i < init.length), w.cell? ⟨b, i, none⟩ = some (.pointer (some ⟨init[i].a, 0, none⟩))) :
    SeqN (Kept2 b Bs) 66 #[.pointer (some ⟨Bs, 0, none⟩)] (encK init) (fun ys => ys.map (·.val) = downTo init.length init.length) (fun pre x => x.val = init.length - 1 - pre.length ∧ pre.length < init.length) w := fun l J Jx W hW _ _ _ _ hN hY h0 => by
  have hBs : Bs < w.heap.size := World.block_lt_of_cell? w _ hc
  refine (callsIn_wide.1 (backN_in Fence.wide 8 trivial rfl (by omega) l Bs b cap init hlen J Jx (fun pre x W1 hj hx hlt => ?_) W ((hW.cell (p := ⟨Bs, 0, none⟩) hBs).trans hc) (fun i hi => (hW.cell (World.block_lt_of_cell? w _ (hk i hi))).trans (hk i hi)) h0)).mono ?_
  · obtain ⟨fn, tmps, assign, body, hy, hR⟩ := hY 7 pre x W1 hj ⟨hx, hlt⟩
    refine ⟨fn, tmps, assign, body, hy, hR.mono ?_⟩
    rintro e W' (⟨h1, h2, h3, -⟩ | ⟨h1, h2, -⟩)
    · exact .inl ⟨h1, h2, h3⟩
    · exact .inr ⟨h1, h2⟩
  · rintro e W' ⟨h1, h2 | ⟨pre, -, h2⟩⟩
    · exact ⟨h1, h2⟩
    · exact (hN _ _ h2).elim
end Go.Proofs.Ytnmndjplbcpglaa
