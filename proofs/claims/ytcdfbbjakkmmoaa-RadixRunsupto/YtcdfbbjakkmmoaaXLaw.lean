/- A range over a function, where the iterator may itself hold a loop that hands its entries on: the round tells that it leaves alone whatever is no cells and lies behind its loop's record. -/
import Derived.Test.YtcdfbbjakkmmoaaRMark
namespace Go.Proofs.Ytcdfbbjakkmmoaa
open Go.RowKit Go.Shelf
set_option linter.unusedVariables false

section
variable {α : Type} (Kp : World → World → Prop)
/-- What a round answers, seen from the iterator. -/
def Rnd (l : Nat) (J Jx : List α → World → Prop) (pre : List α) (x : α) (W : World) (e : Ending) (W' : World) : Prop :=
  (e = .returned (.bool true) ∧ J (pre ++ [x]) W' ∧ Kp W W' ∧ KeepsFrom (l + 1) W W') ∨ (e = .returned (.bool false) ∧ Jx (pre ++ [x]) W' ∧ KeepsFrom (l + 1) W W')
/-- The iterator gf, with what it has captured, made in w: all that S says come, or a part of it; Ok: which element may come behind which. -/
def SeqO (gf : Nat) (lb : Array Value) (encs : α → Array Value) (S Sp : List α → Prop) (Ok : List α → α → Prop) (w : World) : Prop :=
  ∀ (l : Nat) (J Jx : List α → World → Prop) (W : World), Below w.heap.size w W → l < W.heap.size → OwnM W.heap.size J → OwnM W.heap.size Jx →
    (∀ m pre x W1, J pre W1 → Ok pre x → YieldAt Fence.wide m Try.prog l (encs x) W1 (Rnd Kp l J Jx pre x W1)) → J [] W →
    Calls Try.prog gf (#[.func (.yield l) #[] #[]] ++ lb) W fun e W' => (∃ v, e = .returned v) ∧ ((∃ xs, S xs ∧ J xs W') ∨ (∃ xs, Sp xs ∧ Jx xs W'))
/-- .. of which a round knows no more than how many came. -/
def SeqY (gf : Nat) (lb : Array Value) (encs : α → Array Value) (S Sp : List α → Prop) (N : Nat) (w : World) : Prop := SeqO Kp gf lb encs S Sp (fun pre _ => pre.length < N) w
end

/-- slices.Backward over a list of nodes. -/
theorem back_seq {R : Rg} (Bs b cap : Nat) (init : List Tr) (hlen : init.length ≤ 17592186044416) (w : World) (hc : w.cell? ⟨Bs, 0, none⟩ = some (.slice (some ⟨b, 0, none⟩) init.length cap)) (hk : KidsAt R w (some ⟨b, 0, none⟩) init) :
    SeqY (Kept2 b Bs) 53 #[.pointer (some ⟨Bs, 0, none⟩)] (encN init) (fun ys => ys.map (·.val) = downTo init.length init.length) (fun _ => True) init.length w := fun l J Jx W hW _ _ _ hY h0 => by
  have hBs : Bs < w.heap.size := World.block_lt_of_cell? w _ hc
  refine callsIn_wide.1 (back1_in Fence.wide 8 trivial rfl (by omega) l Bs b cap init hlen J Jx (fun pre x W1 hj hlt => ?_) W ((hW.cell (p := ⟨Bs, 0, none⟩) hBs).trans hc) (hk.below hW) h0)
  obtain ⟨fn, tmps, assign, body, hy, hR⟩ := hY 7 pre x W1 hj hlt
  refine ⟨fn, tmps, assign, body, hy, hR.mono ?_⟩
  rintro e W' (⟨h1, h2, h3, -⟩ | ⟨h1, h2, -⟩)
  · exact .inl ⟨h1, h2, h3⟩
  · exact .inr ⟨h1, h2⟩

theorem range_lawO {α : Type} {g : Operand} {ps : Array Tmp} {assign body : Code} {Q : Exit → Act → World → Prop} {a : Act} {w : World} {n : Nat} (hn : 1 ≤ n)
    {gf : Nat} {lb : Array Value} (hg : a.eval g = .func (.func gf) #[] lb) (eg : ∀ args w, (callFunc gf args).run Try.prog w = .ok (.enter gf args) w)
    {encs : α → Array Value} {Kp : World → World → Prop} {S Sp : List α → Prop} {Ok : List α → α → Prop} {w0 : World} (hseq : SeqO Kp gf lb encs S Sp Ok w0)
    (hKt : ∀ {A B C : World}, Kp A B → Kp B C → Kp A C) (hKb : ∀ (W : World) (l : Nat) (o o' : Obj), w.heap.size ≤ l → W.heap[l]? = some o → o.isCells = false → Kp W (W.putObj l o')) (hb0 : Below w0.heap.size w0 w) (hps : ∀ x, (encs x).size = ps.size)
    (I : List α → World → Prop) (Ix : Code → List α → World → Prop) (hI : OwnM w.heap.size I) (hIx : ∀ c, OwnM w.heap.size (Ix c)) (h0 : I [] w) (a₁ : α → Act)
    (hassign : ∀ (l m : Nat) (x : α) (W : World) (K : Act → World → Prop), K (a₁ x) W →
      assign.wpIn (Fence.wide.inRound l) m Try.prog (Exit.then K (fun _ _ _ => False)) { tmps := (ps.zip (encs x)).foldl (fun t (p, v) => t.setIfInBounds p v) a.tmps, defers := [] } W)
    (hbody : ∀ (l m : Nat) (pre : List α) (x : α) (W : World), w.heap.size + 2 ≤ W.heap.size → I pre W → Ok pre x → body.wpIn (Fence.wide.inRound l) m Try.prog (ownPostG w.heap.size Kp I Ix (pre ++ [x]) W) (a₁ x) W)
    (hdone : ∀ (D : Nat) (xs : List α) (W : World), w.heap.size ≤ D → S xs → I xs W → W.heap[D]? = some (.deferred (some [])) → Q .normal { a with defers := { target := .collected D, args := #[] } :: a.defers } W)
    (hstop : ∀ (D : Nat) (c : Code) (xs : List α) (W : World), w.heap.size ≤ D → Sp xs → Ix c xs W → W.heap[D]? = some (.deferred (some [])) → c.wpIn Fence.wide n Try.prog Q { a with defers := { target := .collected D, args := #[] } :: a.defers } W) :
    (Code.rangeFunc g ps assign body).wpIn Fence.wide n Try.prog Q a w := by
  refine wpIn_rangeFunc fun fn hfn => ?_
  -- the loop's record, in the state st, with the jump pe pending; the block for deferred calls lies right ahead of it
  let rc : LoopState → Option Code → Loop := fun st pe => { state := st, pending := pe, fn, tmps := a.tmps, params := ps, assign, body, defers := w.heap.size }
  obtain ⟨W1, hW1⟩ : ∃ W1, W1 = (w.alloc (.deferred (some []))).alloc (.loop (rc .ready none)) := ⟨_, rfl⟩
  have sz1 : W1.heap.size = w.heap.size + 2 := by rw [hW1]; simp [World.size_alloc]
  have rec1 : W1.heap[w.heap.size + 1]? = some (.loop (rc .ready none)) := by
    have := World.alloc_heap_new (w.alloc (.deferred (some []))) (.loop (rc .ready none))
    rw [World.size_alloc] at this
    rw [hW1]; exact this
  have def1 : W1.heap[w.heap.size]? = some (.deferred (some [])) := by
    rw [hW1, Below.heap_alloc _ _ _ (by simp)]; exact World.alloc_heap_new w _
  have below1 : Below w.heap.size w W1 := by rw [hW1]; exact ((Below.refl _ w).alloc (Nat.le_refl _) _).alloc (by simp) _
  -- what holds between two rounds, and behind a round that has left
  let J : List α → World → Prop := fun xs W => I xs W ∧ W.heap[w.heap.size + 1]? = some (.loop (rc .ready none)) ∧ W.heap[w.heap.size]? = some (.deferred (some []))
  let Jx : List α → World → Prop := fun xs W => ∃ c, Ix c xs W ∧ W.heap[w.heap.size + 1]? = some (.loop (rc .done (some c))) ∧ W.heap[w.heap.size]? = some (.deferred (some []))
  have far : ∀ {X Y : World} {row : Option Nat} {b : Nat} {o : Obj}, X.grownBy Y row → (∀ r, row = some r → W1.heap.size ≤ r ∧ ∃ o : Obj, X.heap[r]? = some o ∧ isMark o = true) → b < w.heap.size + 2 → X.heap[b]? = some o → Y.heap[b]? = some o := fun hgr hr hb ho =>
    (hgr.block _ (lt_of_heap ho) (fun e => by have := (hr _ e.symm).1; omega)).trans ho
  have near : ∀ {X : World} {row : Option Nat}, (∀ r, row = some r → W1.heap.size ≤ r ∧ ∃ o : Obj, X.heap[r]? = some o ∧ isMark o = true) → (∀ r, row = some r → w.heap.size ≤ r ∧ ∃ o : Obj, X.heap[r]? = some o ∧ isMark o = true) := fun hr r e => ⟨by have := (hr r e).1; omega, (hr r e).2⟩
  have hJ : OwnM W1.heap.size J := fun s X Y row hs hgr hr => ⟨hI s X Y row hs.1 hgr (near hr), far hgr hr (by omega) hs.2.1, far hgr hr (by omega) hs.2.2⟩
  have hJx : OwnM W1.heap.size Jx := fun s X Y row hs hgr hr => by
    obtain ⟨c, h1, h2, h3⟩ := hs
    exact ⟨c, hIx c s X Y row h1 hgr (near hr), far hgr hr (by omega) h2, far hgr hr (by omega) h3⟩
  have hJ1 : J [] W1 := ⟨by rw [hW1]; exact hI.alloc _ (hI.alloc _ h0), rec1, def1⟩
  -- one round
  have round : ∀ m pre x W, J pre W → Ok pre x → YieldAt Fence.wide m Try.prog (w.heap.size + 1) (encs x) W (Rnd Kp (w.heap.size + 1) J Jx pre x W) := by
    rintro m pre x W ⟨hi, hrec, hdef⟩ hlen
    have hlt := lt_of_heap hrec
    refine ⟨fn, _, assign, body, run_yield (P := Try.prog) (args := encs x) hrec (hps x), roundIn_of_wpIn hfn (hassign _ m x W _ ⟨_, run_beginRound hrec rfl, ?_⟩)⟩
    have hrec2 : (W.putObj (w.heap.size + 1) (.loop (rc .busy none))).heap[w.heap.size + 1]? = some (.loop (rc .busy none)) := World.putObj_heap_same hlt
    have hdef2 : (W.putObj (w.heap.size + 1) (.loop (rc .busy none))).heap[w.heap.size]? = some (.deferred (some [])) := (World.putObj_heap_other (by omega)).trans hdef
    have kf2 : KeepsFrom (w.heap.size + 1 + 1) W (W.putObj (w.heap.size + 1) (.loop (rc .busy none))) := ⟨(grownBy_putObj' W _ _).size, fun k o hk ho _ => (World.putObj_heap_other (by omega)).trans ho⟩
    refine wpIn_mono (hbody _ m pre x (W.putObj (w.heap.size + 1) (.loop (rc .busy none))) (by have := kf2.size; omega) (hI.putObj _ hi (by omega) hrec rfl) hlen) ?_
    have fin : ∀ (jump : Option Code) (W3 : World), KeepsFrom w.heap.size (W.putObj (w.heap.size + 1) (.loop (rc .busy none))) W3 →
        (Instr.endRound (w.heap.size + 1) jump).run Try.prog W3 = .ok (.bool jump.isNone) (W3.putObj (w.heap.size + 1) (.loop (rc (if jump.isNone then .ready else .done) jump))) ∧
        W3.heap[w.heap.size + 1]? = some (.loop (rc .busy none)) ∧
        (W3.putObj (w.heap.size + 1) (.loop (rc (if jump.isNone then .ready else .done) jump))).heap[w.heap.size + 1]? = some (.loop (rc (if jump.isNone then .ready else .done) jump)) ∧
        (W3.putObj (w.heap.size + 1) (.loop (rc (if jump.isNone then .ready else .done) jump))).heap[w.heap.size]? = some (.deferred (some [])) ∧
        KeepsFrom (w.heap.size + 1 + 1) W (W3.putObj (w.heap.size + 1) (.loop (rc (if jump.isNone then .ready else .done) jump))) := fun jump W3 hk3 => by
      have hr3 := hk3.same _ _ (by omega) hrec2 rfl
      refine ⟨run_endRound (P := Try.prog) jump hr3, hr3, World.putObj_heap_same (lt_of_heap hr3), (World.putObj_heap_other (by omega)).trans (hk3.same _ _ (Nat.le_refl _) hdef2 rfl), ?_⟩
      refine (kf2.trans ⟨hk3.size, fun k o hk ho hc => hk3.same k o (by omega) ho hc⟩).trans ⟨(grownBy_putObj' W3 _ _).size, fun k o hk ho _ => (World.putObj_heap_other (by omega)).trans ho⟩
    have left : ∀ (c : Code) (W3 : World), KeepsFrom w.heap.size (W.putObj (w.heap.size + 1) (.loop (rc .busy none))) W3 → Ix c (pre ++ [x]) W3 → ∃ v w', (Instr.endRound (w.heap.size + 1) (some c)).run Try.prog W3 = .ok v w' ∧ Rnd Kp (w.heap.size + 1) J Jx pre x W (.returned v) w' := fun c W3 hk3 hx3 => by
      obtain ⟨f1, f2, f3, f4, f5⟩ := fin (some c) W3 hk3
      exact ⟨_, _, f1, .inr ⟨rfl, ⟨c, (hIx c).putObj _ hx3 (by omega) f2 rfl, f3, f4⟩, f5⟩⟩
    rintro e a3 W3 hp
    cases e with
    | normal =>
      obtain ⟨f1, f2, f3, f4, f5⟩ := fin none W3 hp.1
      exact ⟨_, _, f1, .inl ⟨rfl, ⟨hI.putObj _ hp.2.2 (by omega) f2 rfl, f3, f4⟩, hKt (hKt (hKb _ _ _ _ (by omega) hrec rfl) hp.2.1) (hKb _ _ _ _ (by omega) f2 rfl), f5⟩⟩
    | ret => exact left .ret W3 hp.1 hp.2
    | exit id => exact left (.exit id) W3 hp.1 hp.2
    | goto t => exact left (.goto t) W3 hp.1 hp.2
    | panic ch => exact hp.elim
    | outgrown => exact hp.elim
  have hcall := hseq (w.heap.size + 1) J Jx W1 (hb0.trans (below1.mono hb0.size)) (by omega) hJ hJx round hJ1
  refine ⟨w.heap.size + 1, [{ target := .collected w.heap.size, args := #[] }], W1, { target := .fn (.func gf) lb, args := #[.func (.yield (w.heap.size + 1)) #[] #[]] }, W1, gf, #[.func (.yield (w.heap.size + 1)) #[] #[]] ++ lb, W1, ?_, ?_, fun _ _ => trivial, ?_, fun _ => hn, ?_⟩
  · rw [hW1]; exact run_enterLoop_outer _ _ _ _ _
  · simp only [resolve, hg]; simp [go_sem]
  · simp [invoke, go_sem, eg]
  · refine (callsIn_wide.2 hcall).mono ?_
    rintro e W2 ⟨⟨v, rfl⟩, (⟨xs, hS, hi, hrec, hdef⟩ | ⟨xs, hSp, c, hx, hrec, hdef⟩)⟩
    · exact ⟨none, _, run_endLoop (P := Try.prog) hrec (by simp [rc]), hdone _ xs _ (Nat.le_refl _) hS (hI.putObj _ hi (by omega) hrec rfl) ((World.putObj_heap_other (by omega)).trans hdef)⟩
    · exact ⟨some c, _, run_endLoop (P := Try.prog) hrec (by simp [rc]), hstop _ c xs _ (Nat.le_refl _) hSp ((hIx c).putObj _ hx (by omega) hrec rfl) ((World.putObj_heap_other (by omega)).trans hdef)⟩
theorem range_law {α : Type} {g : Operand} {ps : Array Tmp} {assign body : Code} {Q : Exit → Act → World → Prop} {a : Act} {w : World} {n : Nat} (hn : 1 ≤ n)
    {gf : Nat} {lb : Array Value} (hg : a.eval g = .func (.func gf) #[] lb) (eg : ∀ args w, (callFunc gf args).run Try.prog w = .ok (.enter gf args) w)
    {encs : α → Array Value} {Kp : World → World → Prop} {S Sp : List α → Prop} {N : Nat} {w0 : World} (hseq : SeqY Kp gf lb encs S Sp N w0)
    (hKt : ∀ {A B C : World}, Kp A B → Kp B C → Kp A C) (hKb : ∀ (W : World) (l : Nat) (o o' : Obj), w.heap.size ≤ l → W.heap[l]? = some o → o.isCells = false → Kp W (W.putObj l o')) (hb0 : Below w0.heap.size w0 w) (hps : ∀ x, (encs x).size = ps.size)
    (I : List α → World → Prop) (Ix : Code → List α → World → Prop) (hI : OwnM w.heap.size I) (hIx : ∀ c, OwnM w.heap.size (Ix c)) (h0 : I [] w) (a₁ : α → Act)
    (hassign : ∀ (l m : Nat) (x : α) (W : World) (K : Act → World → Prop), K (a₁ x) W →
      assign.wpIn (Fence.wide.inRound l) m Try.prog (Exit.then K (fun _ _ _ => False)) { tmps := (ps.zip (encs x)).foldl (fun t (p, v) => t.setIfInBounds p v) a.tmps, defers := [] } W)
    (hbody : ∀ (l m : Nat) (pre : List α) (x : α) (W : World), w.heap.size + 2 ≤ W.heap.size → I pre W → pre.length < N → body.wpIn (Fence.wide.inRound l) m Try.prog (ownPostG w.heap.size Kp I Ix (pre ++ [x]) W) (a₁ x) W)
    (hdone : ∀ (D : Nat) (xs : List α) (W : World), w.heap.size ≤ D → S xs → I xs W → W.heap[D]? = some (.deferred (some [])) → Q .normal { a with defers := { target := .collected D, args := #[] } :: a.defers } W)
    (hstop : ∀ (D : Nat) (c : Code) (xs : List α) (W : World), w.heap.size ≤ D → Sp xs → Ix c xs W → W.heap[D]? = some (.deferred (some [])) → c.wpIn Fence.wide n Try.prog Q { a with defers := { target := .collected D, args := #[] } :: a.defers } W) :
    (Code.rangeFunc g ps assign body).wpIn Fence.wide n Try.prog Q a w :=
  range_lawO hn hg eg hseq hKt hKb hb0 hps I Ix hI hIx h0 a₁ hassign hbody hdone hstop
end Go.Proofs.Ytcdfbbjakkmmoaa
