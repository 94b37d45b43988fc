/- Layer 17 (sched): Add, Done, Play. -/
import Derived.Test.YtagdgecmoeacgaaScRun
import Derived.Test.YtagdgecmoeacgaaScTurns
namespace Go.Proofs.Ytagdgecmoeacgaa
open Go.RowKit
set_option linter.unusedVariables false
variable {S S' : Nat → Prop}

/-- What Add leaves. -/
def AddW (w : World) (S : Nat → Prop) (lb : Nat) (ws : List Wk) (D : List Nat) (a b : Int) (e : Ending) (w' : World) : Prop :=
  ∃ xb, e = .returned (.iface 59 (.pointer (some ⟨xb, 0, none⟩))) ∧ LgAt w' (fun k => S k ∨ (w.heap.size ≤ k ∧ k < w'.heap.size)) lb (ws ++ [⟨xb, a, b, 0⟩]) D ∧ Frm S w w' ∧ w.heap.size ≤ xb
theorem add_ok {w W : World} {lb : Nat} {ws : List Wk} {D : List Nat} {sv : Value} {a b : Int} (h : LgF w S lb ws D sv)
    (hW : W = (((w.setCell ⟨lb, 0, none⟩ (.int .i64 ((ws.length : Int) + 1))).alloc (.cells #[.int .i64 a, .int .i64 b] 32)).alloc (.cells (wkCell lb ws.length ⟨w.heap.size + 1, a, b, 0⟩) 61)).drew) :
    AddW w S lb ws D a b (.returned (.iface 59 (.pointer (some ⟨w.heap.size + 1, 0, none⟩)))) W := by
  obtain ⟨w0, hw0⟩ : ∃ w0, w0 = w.setCell ⟨lb, 0, none⟩ (.int .i64 ((ws.length : Int) + 1)) := ⟨_, rfl⟩
  rw [← hw0] at hW
  have hF : Frm (fun k => k = lb) w w0 := by rw [hw0]; exact (Frm.refl (fun k => k = lb) w).setCell ⟨lb, 0, none⟩ _ (.inl rfl)
  have hs0 : w0.heap.size = w.heap.size := by rw [hw0]; simp
  have hb : Below w0.heap.size w0 W := by
    rw [hW]
    exact (((Below.refl _ w0).alloc (Nat.le_refl _) _).alloc (by simp [World.size_alloc]) _).drew
  have hWs : W.heap.size = w.heap.size + 2 := by rw [hW]; simp [World.size_alloc, hs0]
  have hn : W.heap[w.heap.size + 1]? = some (.cells (wkCell lb ws.length ⟨w.heap.size + 1, a, b, 0⟩) 61) := by
    have := heap_alloc_new (w0.alloc (.cells #[.int .i64 a, .int .i64 b] 32)) (.cells (wkCell lb ws.length ⟨w.heap.size + 1, a, b, 0⟩) 61)
    simp only [World.size_alloc, hs0] at this
    rw [hW]; exact this
  have hlb := h.sb _ h.sl
  have hb0 : w0.heap[lb]? = some (.cells #[.int .i64 ((ws.length : Int) + 1), sv] 55) := by rw [hw0, heap_setCell_same w lb 0 _ _ _ h.blk]; simp
  refine ⟨w.heap.size + 1, rfl, ⟨sv, ?_, (h.st.frm hF (fun k e x => h.sne (by rw [e, x]))).below hb, ?_, .inl h.sl, fun k e => .inl (h.ss k e), ?_, fun k hk => ?_⟩, ?_, by omega⟩
  · rw [hb.block lb (by omega), hb0, List.length_append]; rfl
  · intro i x hx
    rcases Nat.lt_or_ge i ws.length with h1 | h1
    · rw [List.getElem?_append_left h1] at hx
      have hxl := h.sb _ (h.sw x (List.mem_of_getElem? hx))
      exact (hb.block _ (by omega)).trans ((hF.block _ hxl (fun e => h.lne hx e.symm)).trans (h.wk i x hx))
    · rw [List.getElem?_append_right h1] at hx
      obtain ⟨h2, rfl⟩ := List.getElem?_eq_some_iff.1 hx
      have h3 : i = ws.length := by simp at h2; omega
      subst h3
      simp only [Nat.sub_self, List.getElem_cons_zero]
      exact hn
  · intro x hx
    rcases List.mem_append.1 hx with h1 | h1
    · exact .inl (h.sw x h1)
    · rw [List.mem_singleton.1 h1]; exact .inr ⟨by show w.heap.size ≤ w.heap.size + 1; omega, by show w.heap.size + 1 < _; omega⟩
  · rcases hk with hk | hk
    · have := h.sb k hk; omega
    · exact hk.2
  · exact hF.comp (Frm.ofBelow hb (fun _ => False)) (fun _ _ h => h.elim) |>.weaken fun k _ e => by rw [e]; exact h.sl

set_option maxRecDepth 100000 in
set_option maxHeartbeats 2000000 in
theorem add_calls (w : World) (lb : Nat) (ws : List Wk) (D : List Nat) (a b : Int) (h : LgAt w S lb ws D) (hl : ws.length ≤ 1099511627776) :
    Calls Try.prog 13 #[.pointer (some ⟨lb, 0, none⟩), .agg #[.int .i64 a, .int .i64 b]] w (AddW w S lb ws D a b) := by
  obtain ⟨sv, h⟩ := h
  have HZ : Hid (∀ W, W = (((w.setCell ⟨lb, 0, none⟩ (.int .i64 ((ws.length : Int) + 1))).alloc (.cells #[.int .i64 a, .int .i64 b] 32)).alloc (.cells #[.pointer (some ⟨lb, 0, none⟩), .int .i64 (ws.length : Int), .int .i64 a, .int .i64 b, .int .i64 0] 61)).drew → AddW w S lb ws D a b (.returned (.iface 59 (.pointer (some ⟨w.heap.size + 1, 0, none⟩)))) W) := fun W hW => add_ok h hW
  have hlb := h.sb _ h.sl
  obtain ⟨wl, Hwl⟩ : ∃ wl, Hid (wl = ws.length) := ⟨_, rfl⟩
  have hblk := h.blk
  rw [← Hwl.out] at hblk HZ hl
  have c0 : (w.alloc (.cells #[.int .i64 a, .int .i64 b] 32)).cell? ⟨lb, 0, none⟩ = some (.int .i64 (wl : Int)) := by
    rw [(below_alloc1 w _).cell (p := ⟨lb, 0, none⟩) hlb, cell_blkT hblk]; rfl
  have e1 : Hid (Below (w.alloc (.cells #[.int .i64 a, .int .i64 b] 32)).heap.size (w.alloc (.cells #[.int .i64 a, .int .i64 b] 32)) ((w.alloc (.cells #[.int .i64 a, .int .i64 b] 32)).alloc (.cells #[.pointer (some ⟨lb, 0, none⟩), .int .i64 (wl : Int), .int .i64 a, .int .i64 b, .int .i64 0] 61))) := below_alloc1 _ _
  have c1 : ((w.alloc (.cells #[.int .i64 a, .int .i64 b] 32)).alloc (.cells #[.pointer (some ⟨lb, 0, none⟩), .int .i64 (wl : Int), .int .i64 a, .int .i64 b, .int .i64 0] 61)).cell? ⟨lb, 0, none⟩ = some (.int .i64 (wl : Int)) := by
    rw [e1.out.cell (p := ⟨lb, 0, none⟩) (by simp [World.size_alloc]; omega)]; exact c0
  have f1 : ((w.alloc (.cells #[.int .i64 a, .int .i64 b] 32)).alloc (.cells #[.pointer (some ⟨lb, 0, none⟩), .int .i64 (wl : Int), .int .i64 a, .int .i64 b, .int .i64 0] 61)).frozen? ⟨lb, 0, none⟩ = false := by
    refine frozen_blkT (cs := #[.int .i64 (wl : Int), sv]) (t := 55) ?_
    rw [e1.out.block lb (by simp [World.size_alloc]; omega), (below_alloc1 w _).block lb hlb]
    exact hblk
  clear h hblk e1 Hwl
  go_enter Try.func13, Try.ntmps13
  go_wp2_with fail
  go_region
  go_wp2
  go_ret
  exact HZ.out _ rfl

def nI (D : List Nat) : List Int := D.map fun (x : Nat) => (x : Int)
theorem nI_map (D : List Nat) : (nI D).map iV = D.map nV := by unfold nI; rw [List.map_map]; rfl
theorem nI_length (D : List Nat) : (nI D).length = D.length := by simp [nI]
theorem done_calls (w : World) (lb : Nat) (ws : List Wk) (D : List Nat) (h : LgAt w S lb ws D) (hl : D.length ≤ 1099511627776) :
    Calls Try.prog 12 #[.pointer (some ⟨lb, 0, none⟩)] w fun e w' => (∃ v, e = .returned v ∧ Ow w' w.heap.size 3 v (D.map nV)) ∧ Below w.heap.size w w' := by
  obtain ⟨sv, h⟩ := h
  obtain ⟨ao, cap, rfl, h1, h2, -⟩ := h.st.shape
  rw [List.length_map] at h1
  have hblk := h.blk
  rw [List.length_map] at hblk
  have HC := cloneI_calls ao D.length cap (nI D) w (nI_length D) (by omega) (fun e => ⟨h2 e, by have := h2 e; omega⟩) (by rw [nI_map]; exact h.st.v)
  rw [nI_map] at HC
  have c1 : w.cell? ⟨lb, 1, none⟩ = some (.slice ao D.length cap) := by rw [cell_blkT hblk]; rfl
  clear h hblk
  go_enter Try.func12, Try.ntmps12
  go_wp2_with fail
  refine HC.mono ?_
  clear HC
  rintro e w1 ⟨⟨v, rfl, ho⟩, hb⟩
  obtain ⟨ao1, c1', rfl, -⟩ := ho.shape
  rw [List.length_map] at ho ⊢
  go_wp2
  go_ret
  exact ⟨⟨_, rfl, ho⟩, hb⟩

/-! ### what a play does hangs on no block's number -/
def er (x : Wk) : Wk := ⟨0, x.start, x.work, x.done⟩
def erS (s : St) : St := ⟨s.c, s.ws.map er, s.D⟩
theorem rdyP_er (ws : List Wk) (D : List Nat) : rdyP (ws.map er) D = rdyP ws D := by unfold rdyP; rw [List.map_map]; rfl
theorem bump_er (ws : List Wk) (i : Nat) : bump (ws.map er) i = (bump ws i).map er := by
  unfold bump
  rw [List.getElem?_map]
  cases h : ws[i]? with
  | none => rfl
  | some x => simp only [Option.map_some, List.map_set]; rfl
theorem stepR_er (s : St) : stepR (erS s) = erS (stepR s) := by
  unfold stepR
  have : rdyP (erS s).ws (erS s).D = rdyP s.ws s.D := rdyP_er s.ws s.D
  rw [this]
  split
  · unfold erS
    dsimp only
    rw [bump_er]
  · rfl
theorem runR_er : ∀ (k : Nat) (s : St), runR k (erS s) = erS (runR k s)
  | 0, _ => rfl
  | k + 1, s => by
    show runR k (stepR (erS s)) = erS (runR k (stepR s))
    rw [stepR_er, runR_er k]
def st0 (ps : List Int) (b : Int) (js : List (Int × Int)) : St := ⟨⟨ps, b, -1, []⟩, js.map fun j => ⟨0, j.1, j.2, 0⟩, []⟩
def playP (ps : List Int) (b : Int) (js : List (Int × Int)) (mx : Nat) : List Nat := (runR mx (st0 ps b js)).D
theorem play_eq {s : St} {ps : List Int} {b : Int} {js : List (Int × Int)} (h : erS s = st0 ps b js) (mx : Nat) : (runR mx s).D = playP ps b js mx := by
  unfold playP
  rw [← h, runR_er]
  rfl

/-- Jobs lie at an address, two cells each. -/
def jobC (js : List (Int × Int)) : List Value := js.flatMap fun j => [.int .i64 j.1, .int .i64 j.2]
def JbAt (w : World) (ao : Option Addr) (js : List (Int × Int)) : Prop := ∀ k (h : k < js.length), ∃ b off, ao = some ⟨b, off, none⟩ ∧ w.cell? ⟨b, off + k * 2, none⟩ = some (.int .i64 js[k].1) ∧ w.cell? ⟨b, off + k * 2 + 1, none⟩ = some (.int .i64 js[k].2)
theorem JbAt.below {w w' : World} {ao : Option Addr} {js : List (Int × Int)} (h : JbAt w ao js) (hb : Below w.heap.size w w') : JbAt w' ao js := fun k hk => by
  obtain ⟨b, off, e, h1, h2⟩ := h k hk
  exact ⟨b, off, e, by rw [hb.cell (p := ⟨b, off + k * 2, none⟩) (World.block_lt_of_cell? w ⟨b, off + k * 2, none⟩ h1)]; exact h1, by rw [hb.cell (p := ⟨b, off + k * 2 + 1, none⟩) (World.block_lt_of_cell? w ⟨b, off + k * 2 + 1, none⟩ h2)]; exact h2⟩
theorem info_actor : (Try.prog.info? 40).map (fun i => (i.zero, i.size, i.bytes)) = some (some .nilIface, 1, 16) := by kernel_rfl
theorem make_actors (w : World) (n : Nat) (h : n ≤ 1099511627776) : ∃ w', (Instr.makeSlice 38 (.int .i64 (n : Int)) (.int .i64 (n : Int))).run Try.prog w = .ok (.slice (some ⟨w.heap.size, 0, none⟩) n n) w' ∧ Ow w' w.heap.size 40 (.slice (some ⟨w.heap.size, 0, none⟩) n n) (List.replicate n .nilIface) ∧ Below w.heap.size w w' := by
  obtain ⟨i0, hi, hz0, hz1, hz2⟩ := infoV info_actor
  obtain ⟨w', h1, h2, h3⟩ := run_make_full (P := Try.prog) w w.heap.size 38 40 i0 .nilIface 1 Try.underlying38 hi hz0 hz1 .i64 .i64 n (by rw [hz2]; omega) (by unfold maxLen; omega) (Nat.le_refl _)
  refine ⟨w', h1, ?_, (Below.refl _ _).grown h3 (Nat.le_refl _) (fun k hk => by cases hk)⟩
  have e : (madeCells (Value.nilIface).cells (n * 1)).toList = List.replicate n .nilIface := by rw [Nat.mul_one]; exact toList_madeCells_one _ _
  rw [e] at h2
  unfold Ow
  rw [List.length_replicate]
  exact h2
end Go.Proofs.Ytagdgecmoeacgaa
