/- Layer 17 (sched): a log and its workers in memory; NewLog, Add, Done, Ready, Step. -/
import Derived.Test.YtagdgecmoeacgaaScNxt
import Derived.Deep.RegionLaw
namespace Go.Proofs.Ytagdgecmoeacgaa
open Go.RowKit
set_option linter.unusedVariables false
variable {S S' : Nat → Prop}

/-- A worker: its block, its job, how many steps it has done. -/
structure Wk where
  b : Nat
  start : Int
  work : Int
  done : Nat
def wkCell (lb i : Nat) (x : Wk) : Array Value := #[.pointer (some ⟨lb, 0, none⟩), .int .i64 (i : Int), .int .i64 x.start, .int .i64 x.work, .int .i64 (x.done : Int)]
/-- The log at block lb with its workers; its blocks are in S. -/
structure LgF (w : World) (S : Nat → Prop) (lb : Nat) (ws : List Wk) (D : List Nat) (sv : Value) : Prop where
  blk : w.heap[lb]? = some (.cells #[.int .i64 (ws.length : Int), sv] 55)
  st : Ow w 0 3 sv (D.map nV)
  wk : ∀ (i : Nat) (x : Wk), ws[i]? = some x → w.heap[x.b]? = some (.cells (wkCell lb i x) 61)
  sl : S lb
  ss : ∀ k, sv.ownBlock = some k → S k
  sw : ∀ x ∈ ws, S x.b
  sb : ∀ k, S k → k < w.heap.size
def LgAt (w : World) (S : Nat → Prop) (lb : Nat) (ws : List Wk) (D : List Nat) : Prop := ∃ sv, LgF w S lb ws D sv
variable {w w' : World} {lb : Nat} {ws : List Wk} {D : List Nat} {sv : Value}
theorem LgF.frm {T : Nat → Prop} (h : LgF w S lb ws D sv) (hf : Frm T w w') (hd : ∀ k, S k → ¬ T k) : LgF w' S lb ws D sv :=
  ⟨(hf.block lb (h.sb _ h.sl) (hd _ h.sl)).trans h.blk, h.st.frm hf (fun k e => hd _ (h.ss k e)), fun i x hx => (hf.block _ (h.sb _ (h.sw x (List.mem_of_getElem? hx))) (hd _ (h.sw x (List.mem_of_getElem? hx)))).trans (h.wk i x hx), h.sl, h.ss, h.sw, fun k hk => Nat.lt_of_lt_of_le (h.sb k hk) hf.size⟩
theorem LgAt.frm {T : Nat → Prop} (h : LgAt w S lb ws D) (hf : Frm T w w') (hd : ∀ k, S k → ¬ T k) : LgAt w' S lb ws D := by
  obtain ⟨sv, h⟩ := h
  exact ⟨sv, h.frm hf hd⟩
theorem LgAt.below (h : LgAt w S lb ws D) (hb : Below w.heap.size w w') : LgAt w' S lb ws D := h.frm (Frm.ofBelow hb (fun _ => False)) (fun _ _ h => h)
theorem LgAt.sb (h : LgAt w S lb ws D) : ∀ k, S k → k < w.heap.size := by
  obtain ⟨sv, h⟩ := h
  exact h.sb
theorem LgF.sne (h : LgF w S lb ws D sv) : sv.ownBlock ≠ some lb := h.st.ne h.blk (by decide)
theorem LgF.lne (h : LgF w S lb ws D sv) {i : Nat} {x : Wk} (hx : ws[i]? = some x) : lb ≠ x.b := fun e => by
  have h1 := h.wk i x hx
  rw [← e, h.blk] at h1
  simp at h1
theorem LgF.wne (h : LgF w S lb ws D sv) {i : Nat} {x : Wk} (hx : ws[i]? = some x) : sv.ownBlock ≠ some x.b := h.st.ne (h.wk i x hx) (by decide)
theorem LgF.inj (h : LgF w S lb ws D sv) {i j : Nat} {x y : Wk} (hx : ws[i]? = some x) (hy : ws[j]? = some y) (he : x.b = y.b) : i = j := by
  have := (h.wk i x hx).symm.trans ((congrArg (fun b => w.heap[b]?) he).trans (h.wk j y hy))
  simp [wkCell] at this
  omega

/-- What NewLog leaves. -/
def NewL (w : World) (e : Ending) (w' : World) : Prop := ∃ lb, e = .returned (.pointer (some ⟨lb, 0, none⟩)) ∧ LgAt w' (fun k => w.heap.size ≤ k ∧ k < w'.heap.size) lb [] [] ∧ Below w.heap.size w w'
theorem newLog_calls (w : World) : Calls Try.prog 10 #[] w (NewL w) := by
  have HZ : Hid (NewL w (.returned (.pointer (some ⟨w.heap.size, 0, none⟩))) (w.alloc (.cells #[.int .i64 0, .slice none 0 0] 55))) :=
    ⟨w.heap.size, rfl, ⟨.slice none 0 0, heap_alloc_new w _, Ow.nil _ _ _, fun i x hx => (by simp at hx), ⟨Nat.le_refl _, by simp [World.size_alloc]⟩, fun k hk => (by cases hk), fun x hx => (by cases hx), fun k hk => hk.2⟩, (Below.refl _ _).alloc (Nat.le_refl _) _⟩
  go_enter Try.func10, Try.ntmps10
  go_wp2
  go_ret
  exact HZ.out

set_option maxRecDepth 100000 in
set_option maxHeartbeats 1000000 in
theorem ready_calls (w : World) (i : Nat) (x : Wk) (h : LgAt w S lb ws D) (hx : ws[i]? = some x) (hm : D.length ≤ 140737488355328) :
    Calls Try.prog 45 #[.pointer (some ⟨x.b, 0, none⟩)] w fun e w' => e = .returned (.bool (decide (x.start ≤ (D.length : Int)) && decide ((x.done : Int) < x.work))) ∧ ∃ n, w' = w.drewN n := by
  obtain ⟨sv, h⟩ := h
  have hb := h.wk i x hx
  obtain ⟨ao, cap, rfl, -⟩ := h.st.shape
  rw [List.length_map] at h
  have c0 : w.cell? ⟨x.b, 0, none⟩ = some (.pointer (some ⟨lb, 0, none⟩)) := by rw [cell_blkT hb]; rfl
  have c2 : w.cell? ⟨x.b, 2, none⟩ = some (.int .i64 x.start) := by rw [cell_blkT hb]; rfl
  have c3 : w.cell? ⟨x.b, 3, none⟩ = some (.int .i64 x.work) := by rw [cell_blkT hb]; rfl
  have c4 : w.cell? ⟨x.b, 4, none⟩ = some (.int .i64 (x.done : Int)) := by rw [cell_blkT hb]; rfl
  have c1 : w.cell? ⟨lb, 1, none⟩ = some (.slice ao D.length cap) := by rw [cell_blkT h.blk]; rfl
  obtain ⟨xb, xs, xw, xd⟩ := x
  dsimp only at c0 c2 c3 c4 ⊢
  obtain ⟨dl, Hdl⟩ : ∃ dl, Hid (dl = D.length) := ⟨_, rfl⟩
  rw [← Hdl.out] at c1 ⊢
  clear h hx hb Hdl
  obtain ⟨R, HR⟩ : ∃ R, Hid (R = (decide (xs ≤ (dl : Int)) && decide ((xd : Int) < xw))) := ⟨_, rfl⟩
  rw [← HR.out]
  by_cases h1 : xs ≤ (dl : Int)
  · have hd : decide ((dl : Int) ≥ xs) = true := decide_eq_true h1
    by_cases h2 : (xd : Int) < xw
    · have HZ : Hid (R = true) := by rw [Hid, HR.out]; simp [h1, h2]
      have hd2 : decide ((xd : Int) < xw) = true := decide_eq_true h2
      go_enter Try.func45, Try.ntmps45
      go_wp2_with fail
      go_quiet (fail)
      go_wp2
      go_ret
      exact ⟨by rw [HZ.out]; rfl, _, rfl⟩
    · have HZ : Hid (R = false) := by rw [Hid, HR.out]; simp [h2]
      have hd2 : decide ((xd : Int) < xw) = false := decide_eq_false h2
      go_enter Try.func45, Try.ntmps45
      go_wp2_with fail
      go_quiet (fail)
      go_wp2
      go_ret
      exact ⟨by rw [HZ.out]; rfl, _, rfl⟩
  · have HZ : Hid (R = false) := by rw [Hid, HR.out]; simp [h1]
    have hd : decide ((dl : Int) ≥ xs) = false := decide_eq_false h1
    go_enter Try.func45, Try.ntmps45
    go_wp2_with fail
    go_quiet (fail)
    go_wp2
    go_ret
    exact ⟨by rw [HZ.out]; rfl, _, rfl⟩

/-- append(s, u) as one step of a region. -/
theorem step_append_u {ops : Array Oper} {o : Oper} {a : Act} {K : Act → World → Prop} {Q : Exit → Act → World → Prop} {E : Prop} (W : World) (hgd : o.guard = none) (s x : Operand) (t e : TypeId) (z : Value) (bytes : Nat)
    (ht : Try.prog.underlying t = some (.slice e)) (hi : (Try.prog.info? e).map (fun i => (i.zero, i.size, i.bytes)) = some (some z, 1, bytes)) (hzs : z.cells.size = 1)
    (ho : o.op = .call { callee := .builtin .append, args := #[s, x], argTypes := #[t, t] })
    (B : Nat) (v : Value) (l : List Value) (hs : a.eval s = v) (hown : Ow W B e v l) (ad : Addr) (u : Value) (hx : a.eval x = .slice (some ad) 1 1) (hu : u.oneCell' = true) (hc : VAt W (some ad) [u])
    (hm : l.length + 1 ≤ 9223372036854775807) (hlen : (l.length + 1) * bytes ≤ 140737488355328) (hB : B ≤ W.heap.size)
    (h : ∀ v' w', Ow w' B e v' (l ++ [u]) → Grew W w' v v' → K (a.put o.dst v') w') :
    if Region.wanted o (yielded ops a.tmps) = true then Oper.wp Try.prog o a W K Q else E := by
  have hw : Region.wanted o (yielded ops a.tmps) = true := by simp [Region.wanted, hgd]
  rw [if_pos hw]
  obtain ⟨i0, hi, hz0, hz1, hz2⟩ := infoV hi
  obtain ⟨v', w', hr, h2, h3, _⟩ := run_append_grew (P := Try.prog) W B t o.type e i0 z 1 bytes ht hi hz0 hz1 hz2 hzs (by decide) v l.length l hown ad 1 1 [u] rfl hc.news (by simp [hu]) (by unfold maxLen; omega) hlen hB
  unfold Oper.wp execOp
  simp only [ho, resolve, invoke, builtin, Sem.run_bind, Sem.run_pure, Result.andThen_ok, List.map_toArray, List.map_cons, List.map_nil, hs, hx, hr]
  refine h v' w' ?_ h3
  unfold Ow
  rw [List.length_append]
  exact h2

theorem below_alloc1 (w : World) (o : Obj) : Below w.heap.size w (w.alloc o) := (Below.refl _ _).alloc (Nat.le_refl _) o
/-- What Step leaves. -/
def StepW (w : World) (S : Nat → Prop) (lb : Nat) (ws : List Wk) (D : List Nat) (i : Nat) (x : Wk) (e : Ending) (w' : World) : Prop :=
  e = .returned (.tuple #[]) ∧ LgAt w' (fun k => S k ∨ (w.heap.size ≤ k ∧ k < w'.heap.size)) lb (ws.set i ⟨x.b, x.start, x.work, x.done + 1⟩) (D ++ [i]) ∧ Frm S w w'
theorem step_ok {w5 : World} {v5 : Value} {i : Nat} {x : Wk} (h : LgF w S lb ws D sv) (hx : ws[i]? = some x) (hf : Frm (fun k => sv.ownBlock = some k) w w5) (ho : Ow w5 0 3 v5 (D.map nV ++ [nV i])) (hp : ∀ k, v5.ownBlock = some k → sv.ownBlock = some k ∨ w.heap.size ≤ k) :
    StepW w S lb ws D i x (.returned (.tuple #[])) ((w5.setCell ⟨lb, 1, none⟩ v5).setCell ⟨x.b, 4, none⟩ (.int .i64 ((x.done : Int) + 1))) := by
  have hlt : i < ws.length := (List.getElem?_eq_some_iff.1 hx).1
  have hwx := h.sb _ (h.sw x (List.mem_of_getElem? hx))
  have hb5 : w5.heap[lb]? = some (.cells #[.int .i64 (ws.length : Int), sv] 55) := (hf.block lb (h.sb _ h.sl) h.sne).trans h.blk
  have hx5 : w5.heap[x.b]? = some (.cells (wkCell lb i x) 61) := (hf.block x.b hwx (h.wne hx)).trans (h.wk i x hx)
  have hF : Frm (fun k => k = lb ∨ k = x.b) w5 ((w5.setCell ⟨lb, 1, none⟩ v5).setCell ⟨x.b, 4, none⟩ (.int .i64 ((x.done : Int) + 1))) := ((Frm.refl (fun k => k = lb ∨ k = x.b) w5).setCell ⟨lb, 1, none⟩ _ (.inl (.inl rfl))).setCell ⟨x.b, 4, none⟩ _ (.inl (.inr rfl))
  have hS : Frm S w w5 := hf.weaken fun k _ hk => h.ss k hk
  refine ⟨rfl, ⟨v5, ?_, ?_, ?_, .inl h.sl, fun k hk => ?_, ?_, fun k hk => ?_⟩, ?_⟩
  · rw [heap_setCell_other _ _ _ _ (fun e => h.lne hx e), heap_setCell_same w5 lb 1 _ _ _ hb5]
    simp
  · rw [show (D ++ [i]).map nV = D.map nV ++ [nV i] by simp]
    refine ho.frm hF fun k hk hc => ?_
    rcases hc with rfl | rfl
    · exact ho.ne hb5 (by decide) hk
    · exact ho.ne hx5 (by decide) hk
  · intro j y hy
    rw [List.getElem?_set] at hy
    by_cases hij : i = j
    · rw [if_pos hij, if_pos hlt] at hy
      obtain rfl := Option.some.inj hy
      subst hij
      have : (w5.setCell ⟨lb, 1, none⟩ v5).heap[x.b]? = some (.cells (wkCell lb i x) 61) := (heap_setCell_other _ _ _ _ (fun e => h.lne hx e.symm)).trans hx5
      show ((w5.setCell ⟨lb, 1, none⟩ v5).setCell ⟨x.b, 4, none⟩ _).heap[x.b]? = _
      rw [heap_setCell_same _ x.b 4 _ _ _ this]
      simp [wkCell]
    · rw [if_neg hij] at hy
      have hyb := h.wne hy
      have hys := h.sb _ (h.sw y (List.mem_of_getElem? hy))
      refine (hF.block y.b (Nat.lt_of_lt_of_le hys hf.size) ?_).trans ((hf.block y.b hys hyb).trans (h.wk j y hy))
      rintro (e | e)
      · exact h.lne hy e.symm
      · exact hij (h.inj hx hy e.symm)
  · rcases hp k hk with h1 | h1
    · exact .inl (h.ss k h1)
    · exact .inr ⟨h1, by simpa using (ho.lt k hk).2⟩
  · intro y hy
    rcases List.mem_or_eq_of_mem_set hy with h1 | h1
    · exact .inl (h.sw y h1)
    · rw [h1]; exact .inl (h.sw x (List.mem_of_getElem? hx))
  · rcases hk with hk | hk
    · have := h.sb k hk; have := hf.size; simp; omega
    · exact hk.2
  · exact (hS.setCell ⟨lb, 1, none⟩ _ (.inl h.sl)).setCell ⟨x.b, 4, none⟩ _ (.inl (h.sw x (List.mem_of_getElem? hx)))

set_option maxRecDepth 100000 in
set_option maxHeartbeats 2000000 in
theorem step_calls (w : World) (i : Nat) (x : Wk) (h : LgAt w S lb ws D) (hx : ws[i]? = some x) (hm : D.length ≤ 1099511627776) (hd : x.done ≤ 4611686018427387904) :
    Calls Try.prog 46 #[.pointer (some ⟨x.b, 0, none⟩)] w (StepW w S lb ws D i x) := by
  obtain ⟨sv, h⟩ := h
  have HH : Hid (LgF w S lb ws D sv) := h
  have HX : Hid (ws[i]? = some x) := hx
  have hb := h.wk i x hx
  have hbl := h.blk
  obtain ⟨ao, cap, rfl, -⟩ := h.st.shape
  have c0 : w.cell? ⟨x.b, 0, none⟩ = some (.pointer (some ⟨lb, 0, none⟩)) := by rw [cell_blkT hb]; rfl
  have c1 : w.cell? ⟨x.b, 1, none⟩ = some (.int .i64 (i : Int)) := by rw [cell_blkT hb]; rfl
  rw [List.length_map] at HH hbl
  have d1 : w.cell? ⟨lb, 1, none⟩ = some (.slice ao D.length cap) := by rw [cell_blkT hbl]; rfl
  have HU : Hid (Ow (w.drew.alloc (.cells #[.int .i64 (i : Int)] 3)) 0 3 (.slice ao D.length cap) (D.map nV) ∧ VAt (w.drew.alloc (.cells #[.int .i64 (i : Int)] 3)) (some ⟨w.drew.heap.size, 0, none⟩) [nV i] ∧ Below w.heap.size w (w.drew.alloc (.cells #[.int .i64 (i : Int)] 3))) := by
    have hb0 : Below w.heap.size w (w.drew.alloc (.cells #[.int .i64 (i : Int)] 3)) := (below_drawsT w 1).alloc (Nat.le_refl _) _
    exact ⟨HH.out.st.below hb0, VAt.new w.drew [nV i] _, hb0⟩
  have e0 : (w.alloc (.cells #[.int .i64 (i : Int)] 3)).cell? ⟨x.b, 0, none⟩ = some (.pointer (some ⟨lb, 0, none⟩)) := by rw [(below_alloc1 w _).cell (p := ⟨x.b, 0, none⟩) (lt_of_heapT hb)]; exact c0
  have e1 : (w.alloc (.cells #[.int .i64 (i : Int)] 3)).cell? ⟨lb, 1, none⟩ = some (.slice ao D.length cap) := by rw [(below_alloc1 w _).cell (p := ⟨lb, 1, none⟩) (lt_of_heapT hbl)]; exact d1
  have HK : Hid (∀ v5 w5, Grew (w.drew.alloc (.cells #[.int .i64 (i : Int)] 3)) w5 (.slice ao D.length cap) v5 → w5.heap[x.b]? = w.heap[x.b]? ∧ w5.heap[lb]? = w.heap[lb]? ∧ Frm (fun k => (Value.slice ao D.length cap).ownBlock = some k) w w5) := by
    intro v5 w5 hg
    have hF : Frm (fun k => (Value.slice ao D.length cap).ownBlock = some k) w w5 := (Frm.ofBelow HU.out.2.2 _).trans (Frm.ofGrewT hg)
    exact ⟨hF.block x.b (HH.out.sb _ (HH.out.sw x (List.mem_of_getElem? HX.out))) (HH.out.wne HX.out), hF.block lb (HH.out.sb _ HH.out.sl) HH.out.sne, hF⟩
  have HB : Hid (w.heap[x.b]? = some (.cells (wkCell lb i x) 61) ∧ w.heap[lb]? = some (.cells #[.int .i64 (ws.length : Int), .slice ao D.length cap] 55)) := ⟨hb, hbl⟩
  clear h hx hb hbl
  go_enter Try.func46, Try.ntmps46
  go_wp2_with fail
  go_region_law (refine step_append_u _ (by rfl) (.tmp 12) (.tmp 17) 23 3 _ 8 Try.underlying23 info_int rfl (by rfl) 0 _ (D.map nV) (by rfl) HU.out.1 ⟨w.drew.heap.size, 0, none⟩ (nV i) (by rfl) rfl HU.out.2.1 (by simp; omega) (by simp; omega) (Nat.zero_le _) ?_
                 intro v5 w5 ho5 hg5
                 obtain ⟨k1, k2, k3⟩ := HK.out v5 w5 hg5
                 rw [HB.out.1] at k1
                 rw [HB.out.2] at k2
                 have HP5 : Hid (∀ k, v5.ownBlock = some k → (Value.slice ao D.length cap).ownBlock = some k ∨ w.heap.size ≤ k) := fun k hk => (hg5.place k hk).imp_right (fun h => by simp [World.size_alloc] at h; omega)
                 have HO5 : Hid (Ow w5 0 3 v5 (D.map nV ++ [nV i])) := ho5
                 have HF5 : Hid (Frm (fun k => (Value.slice ao D.length cap).ownBlock = some k) w w5) := k3
                 have q0 : w5.cell? ⟨x.b, 0, none⟩ = some (.pointer (some ⟨lb, 0, none⟩)) := by rw [cell_blkT k1]; rfl
                 have q1 : w5.cell? ⟨lb, 1, none⟩ = some (.slice ao D.length cap) := by rw [cell_blkT k2]; rfl
                 have q2 : w5.frozen? ⟨lb, 1, none⟩ = false := frozen_blkT k2
                 have q4 : w5.cell? ⟨x.b, 4, none⟩ = some (.int .i64 (x.done : Int)) := by rw [cell_blkT k1]; rfl
                 have q5 : w5.frozen? ⟨x.b, 4, none⟩ = false := frozen_blkT k1
                 obtain ⟨a5, c5, rfl, -⟩ := ho5.shape
                 clear ho5 hg5 k1 k2 k3)
  all_goals
    rw [List.length_append, List.length_map] at HP5 HO5
    have HE : Hid (StepW w S lb ws D i x (.returned (.tuple #[])) ((w5.setCell ⟨lb, 1, none⟩ (.slice a5 (D.length + 1) c5)).setCell ⟨x.b, 4, none⟩ (.int .i64 ((x.done : Int) + 1)))) := step_ok HH.out HX.out HF5.out HO5.out HP5.out
    clear HP5 HO5 HF5 HH HX HU HK HB
    go_wp2
    go_end0
    exact HE.out
end Go.Proofs.Ytagdgecmoeacgaa
