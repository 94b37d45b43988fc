import Derived.Test.YtelhgjepjieocaaDoorJxApI
/- Layer 18 (json): appendValue: the drawn regions of lists and objects, their state. -/
namespace Go.Proofs.YtelhgjepjieocaaDoor
open Go.RowKit Go.MapKept Go.Sort
set_option linter.unusedVariables false

def curV (v : Value) (ls : Nat → Bool) (vs : Nat → Value) : Value := if ls 6 then vs 6 else if ls 4 then vs 4 else if ls 2 then vs 2 else v
def curL (l l1 l2 l3 : List Nat) (ls : Nat → Bool) : List Nat := if ls 6 then l3 else if ls 4 then l2 else if ls 2 then l1 else l
/-- The order's state: the text as it is by now; the two literals, as long as they are wanted. -/
structure JV (w1 : World) (B : Nat) (v : Value) (l l1 l2 l3 c1 c5 : List Nat) (ls : Nat → Bool) (vs : Nat → Value) (W : World) : Prop where
  own : Ow W B 5 (curV v ls vs) (nbs (curL l l1 l2 l3 ls))
  grew : Grew w1 W v (curV v ls vs)
  o42 : ls 4 = true → ls 2 = true
  o64 : ls 6 = true → ls 4 = true
  b1 : ls 1 = true → ls 2 = false → ∃ q, vs 1 = .slice (some ⟨q, 0, none⟩) 1 1 ∧ W.heap[q]? = some (.cells (nbs c1).toArray 5) ∧ ¬ (curV v ls vs).ownBlock = some q
  b5 : ls 5 = true → ls 6 = false → ∃ q, vs 5 = .slice (some ⟨q, 0, none⟩) 1 1 ∧ W.heap[q]? = some (.cells (nbs c5).toArray 5) ∧ ¬ (curV v ls vs).ownBlock = some q
  last : ls 7 = true → vs 7 = vs 6 ∧ ls 6 = true
section
variable {w1 W W' : World} {B : Nat} {v x : Value} {l l1 l2 l3 c1 c5 : List Nat} {ls : Nat → Bool} {vs : Nat → Value}
theorem JV.q0 (h : JV w1 B v l l1 l2 l3 c1 c5 ls vs W) : JV w1 B v l l1 l2 l3 c1 c5 (updB ls 0) (updV vs 0 x) W := by
  refine ⟨?_, ?_, ?_, ?_, ?_, ?_, ?_⟩
  · simpa [updB, updV, curV, curL] using h.own
  · simpa [updB, updV, curV, curL] using h.grew
  · simpa [updB, updV, curV, curL] using h.o42
  · simpa [updB, updV, curV, curL] using h.o64
  · simpa [updB, updV, curV, curL] using h.b1
  · simpa [updB, updV, curV, curL] using h.b5
  · simpa [updB, updV, curV, curL] using h.last
theorem JV.q3 (h : JV w1 B v l l1 l2 l3 c1 c5 ls vs W) : JV w1 B v l l1 l2 l3 c1 c5 (updB ls 3) (updV vs 3 x) W := by
  refine ⟨?_, ?_, ?_, ?_, ?_, ?_, ?_⟩
  · simpa [updB, updV, curV, curL] using h.own
  · simpa [updB, updV, curV, curL] using h.grew
  · simpa [updB, updV, curV, curL] using h.o42
  · simpa [updB, updV, curV, curL] using h.o64
  · simpa [updB, updV, curV, curL] using h.b1
  · simpa [updB, updV, curV, curL] using h.b5
  · simpa [updB, updV, curV, curL] using h.last
theorem alloc_old {W : World} {q : Nat} {o o' : Obj} (h : W.heap[q]? = some o) : (W.alloc o').heap[q]? = some o := (((Below.refl W.heap.size W).alloc (Nat.le_refl _) o').block q (lt_of_heapT h)).trans h
theorem JV.a1 (h : JV w1 B v l l1 l2 l3 c1 c5 ls vs W) : JV w1 B v l l1 l2 l3 c1 c5 (updB ls 1) (updV vs 1 (.slice (some ⟨W.heap.size, 0, none⟩) 1 1)) (W.alloc (.cells (nbs c1).toArray 5)) := by
  have hb : Below W.heap.size W (W.alloc (.cells (nbs c1).toArray 5)) := (Below.refl _ _).alloc (Nat.le_refl _) _
  refine ⟨?_, ?_, ?_, ?_, ?_, ?_, ?_⟩
  · simpa [updB, updV, curV, curL] using h.own.below hb
  · simpa [updB, updV, curV, curL] using h.grew.below hb
  · simpa [updB, updV, curV, curL] using h.o42
  · simpa [updB, updV, curV, curL] using h.o64
  · intro _ h2
    refine ⟨W.heap.size, by simp [updV], heap_alloc_new W _, ?_⟩
    have := fun e => (World.ownsRow.lt h.own W.heap.size e).2
    intro e
    have e' : (curV v ls vs).ownBlock = some W.heap.size := by simpa [updB, updV, curV] using e
    have := this e'
    omega
  · intro h5 h6
    obtain ⟨q, e1, e2, e3⟩ := h.b5 (by simpa [updB] using h5) (by simpa [updB] using h6)
    exact ⟨q, by simpa [updV] using e1, alloc_old e2, by simpa [updB, updV, curV] using e3⟩
  · simpa [updB, updV, curV, curL] using h.last
theorem JV.a5 (h : JV w1 B v l l1 l2 l3 c1 c5 ls vs W) : JV w1 B v l l1 l2 l3 c1 c5 (updB ls 5) (updV vs 5 (.slice (some ⟨W.heap.size, 0, none⟩) 1 1)) (W.alloc (.cells (nbs c5).toArray 5)) := by
  have hb : Below W.heap.size W (W.alloc (.cells (nbs c5).toArray 5)) := (Below.refl _ _).alloc (Nat.le_refl _) _
  refine ⟨?_, ?_, ?_, ?_, ?_, ?_, ?_⟩
  · simpa [updB, updV, curV, curL] using h.own.below hb
  · simpa [updB, updV, curV, curL] using h.grew.below hb
  · simpa [updB, updV, curV, curL] using h.o42
  · simpa [updB, updV, curV, curL] using h.o64
  · intro h5 h6
    obtain ⟨q, e1, e2, e3⟩ := h.b1 (by simpa [updB] using h5) (by simpa [updB] using h6)
    exact ⟨q, by simpa [updV] using e1, alloc_old e2, by simpa [updB, updV, curV] using e3⟩
  · intro _ h2
    refine ⟨W.heap.size, by simp [updV], heap_alloc_new W _, ?_⟩
    have := fun e => (World.ownsRow.lt h.own W.heap.size e).2
    intro e
    have e' : (curV v ls vs).ownBlock = some W.heap.size := by simpa [updB, updV, curV] using e
    have := this e'
    omega
  · simpa [updB, updV, curV, curL] using h.last
/-- A block that is not the text's stays while the text grows. -/
theorem grew_kept {q : Nat} {o : Obj} {y : Value} (hg : Grew W W' y x) (h : W.heap[q]? = some o) (hn : ¬ y.ownBlock = some q) : W'.heap[q]? = some o ∧ ¬ x.ownBlock = some q :=
  ⟨(hg.grown.block q (lt_of_heapT h) (fun e => hn e.symm)).trans h, fun e => by rcases hg.place q e with e | e; exact hn e; have := lt_of_heapT h; omega⟩
theorem JV.g2 (h : JV w1 B v l l1 l2 l3 c1 c5 ls vs W) (h2 : ls 2 = false) (ho : Ow W' B 5 x (nbs l1)) (hg : Grew W W' v x) : JV w1 B v l l1 l2 l3 c1 c5 (updB ls 2) (updV vs 2 x) W' := by
  have h4 : ls 4 = false := by cases e : ls 4 with | false => rfl | true => have := h.o42 e; rw [h2] at this; cases this
  have h6 : ls 6 = false := by cases e : ls 6 with | false => rfl | true => have := h.o64 e; rw [h4] at this; cases this
  have hc : curV v ls vs = v := by simp [curV, h2, h4, h6]
  have hc' : curV v (updB ls 2) (updV vs 2 x) = x := by simp [curV, updB, updV, h4, h6]
  have hb5 := h.b5
  have hgr := h.grew
  rw [hc] at hb5 hgr
  refine ⟨?_, ?_, ?_, ?_, ?_, ?_, ?_⟩
  · rw [hc']; simpa [updB, curL, h4, h6] using ho
  · rw [hc']; exact hgr.trans hg
  · intro _; simp [updB]
  · simpa [updB] using h.o64
  · intro _ e; simp [updB] at e
  · intro h5 _
    obtain ⟨q, e1, e2, e3⟩ := hb5 (by simpa [updB] using h5) h6
    rw [hc']
    exact ⟨q, by simpa [updV] using e1, grew_kept hg e2 e3⟩
  · simpa [updB, updV] using h.last
theorem JV.g4 (h : JV w1 B v l l1 l2 l3 c1 c5 ls vs W) (h2 : ls 2 = true) (h4 : ls 4 = false) (ho : Ow W' B 5 x (nbs l2)) (hg : Grew W W' (vs 2) x) : JV w1 B v l l1 l2 l3 c1 c5 (updB ls 4) (updV vs 4 x) W' := by
  have h6 : ls 6 = false := by cases e : ls 6 with | false => rfl | true => have := h.o64 e; rw [h4] at this; cases this
  have hc : curV v ls vs = vs 2 := by simp [curV, h2, h4, h6]
  have hc' : curV v (updB ls 4) (updV vs 4 x) = x := by simp [curV, updB, updV, h6]
  have hb5 := h.b5
  have hgr := h.grew
  rw [hc] at hb5 hgr
  refine ⟨?_, ?_, ?_, ?_, ?_, ?_, ?_⟩
  · rw [hc']; simpa [updB, curL, h6] using ho
  · rw [hc']; exact hgr.trans hg
  · intro _; simpa [updB] using h2
  · intro e; simp [updB] at e ⊢
  · intro _ e; simp [updB, h2] at e
  · intro h5 _
    obtain ⟨q, e1, e2, e3⟩ := hb5 (by simpa [updB] using h5) h6
    rw [hc']
    exact ⟨q, by simpa [updV] using e1, grew_kept hg e2 e3⟩
  · simpa [updB, updV] using h.last
theorem JV.g6 (h : JV w1 B v l l1 l2 l3 c1 c5 ls vs W) (h4 : ls 4 = true) (h6 : ls 6 = false) (ho : Ow W' B 5 x (nbs l3)) (hg : Grew W W' (vs 4) x) : JV w1 B v l l1 l2 l3 c1 c5 (updB ls 6) (updV vs 6 x) W' := by
  have h2 := h.o42 h4
  have hc : curV v ls vs = vs 4 := by simp [curV, h4, h6]
  have hc' : curV v (updB ls 6) (updV vs 6 x) = x := by simp [curV, updB, updV]
  have hgr := h.grew
  rw [hc] at hgr
  refine ⟨?_, ?_, ?_, ?_, ?_, ?_, ?_⟩
  · rw [hc']; simpa [updB, curL] using ho
  · rw [hc']; exact hgr.trans hg
  · simpa [updB] using h.o42
  · intro _; simpa [updB] using h4
  · intro _ e; simp [updB, h2] at e
  · intro _ e; simp [updB] at e
  · intro e
    have := (h.last (by simpa [updB] using e)).2
    rw [h6] at this; cases this
theorem JV.l7 (h : JV w1 B v l l1 l2 l3 c1 c5 ls vs W) (hx : x = vs 6) (h6 : ls 6 = true) : JV w1 B v l l1 l2 l3 c1 c5 (updB ls 7) (updV vs 7 x) W := by
  refine ⟨?_, ?_, ?_, ?_, ?_, ?_, ?_⟩
  · simpa [updB, updV, curV, curL] using h.own
  · simpa [updB, updV, curV, curL] using h.grew
  · simpa [updB, updV, curV, curL] using h.o42
  · simpa [updB, updV, curV, curL] using h.o64
  · simpa [updB, updV, curV, curL] using h.b1
  · simpa [updB, updV, curV, curL] using h.b5
  · intro _; simpa [updB, updV] using ⟨hx, h6⟩
end
def RV (v0 v3 : Value) (j : Nat) (v : Value) (W : World) : Prop :=
  match j with
  | 0 => v = v0
  | 3 => v = v3
  | _ => True
section
variable {o : Oper} {a : Act} {W : World} {K : Act → World → Prop} {Q : Exit → Act → World → Prop}
theorem f_load5 {x : Operand} {g : Nat} {c0 c1 c2 c3 c4 : Value} (ho : o.op = .load 26 x) (hx : a.eval x = .pointer (some ⟨g, 0, none⟩)) (hb : Blk W g #[c0, c1, c2, c3, c4] 26) (h : K (a.put o.dst (.agg #[c0, c1, c2, c3, c4])) W) : o.wp Tryd.prog a W K Q := by
  obtain ⟨x0, x1, x2, x3, x4, -⟩ := Blk.five hb
  exact wp_valF (v := .agg #[c0, c1, c2, c3, c4]) (by unfold execOp; simp only [ho, hx]; simp [x0, x1, x2, x3, x4, go_sem]) h
theorem f_build1 {c : Nat} (ho : o.op = .buildSlice 41 1 #[(0, .const (.int .u8 (c : Int)))]) (h : K (a.put o.dst (.slice (some ⟨W.heap.size, 0, none⟩) 1 1)) (W.alloc (.cells (nbs [c]).toArray 5))) : o.wp Tryd.prog a W K Q := by
  have hr : (execOp a.eval o).run Tryd.prog W = .ok (.value (.slice (some ⟨W.heap.size, 0, none⟩) 1 1)) (W.alloc (.cells (nbs [c]).toArray 5)) := by
    unfold execOp
    simp only [ho, List.map_toArray, List.map_cons, List.map_nil]
    go_simp
    rfl
  unfold Oper.wp
  rw [hr]
  exact h
end
end Go.Proofs.YtelhgjepjieocaaDoor

/- Layer 18 (json): appendValue of what has no parts. -/
namespace Go.Proofs.YtelhgjepjieocaaDoor
open Go.RowKit Go.MapKept Go.Sort
set_option linter.unusedVariables false

theorem cells_w4 : Lib.strCells ⟨#[116, 114, 117, 101]⟩ = nbs [116, 114, 117, 101] := rfl
theorem cells_w5 : Lib.strCells ⟨#[102, 97, 108, 115, 101]⟩ = nbs [102, 97, 108, 115, 101] := rfl
theorem cells_w0 : Lib.strCells ⟨#[110, 117, 108, 108]⟩ = nbs [110, 117, 108, 108] := rfl
set_option maxRecDepth 100000 in
set_option maxHeartbeats 4000000 in
theorem appendV1_calls (n : Int) (t : List UInt8) (ns : List (List UInt8)) (its : List Js) (IH : ∀ x ∈ its, SpecP x) (d nl nc il ic : Nat) (na ia : Option Addr) (w : World) (S : Nat → Prop) (B : Nat) (vt : Value) (l : List Nat)
    (hd : d ≤ 16) (hnl : ns.length = nl) (hil : its.length = il) (hso : soundJ (.mk 1 n t ns its) d = true) (hr : Rng (.mk 1 n t ns its)) (hv : VAt w na (ns.map strV)) (hnS : ∀ a, na = some a → ns ≠ [] → S a.block) (hi : ItAt w S ia 0 its) (hs : ∀ a, ia = some a → its ≠ [] → S a.block) (hSB : ∀ k, S k → k < B) (ho : Ow w B 5 vt (nbs l)) (hl : l.length ≤ 70000) (hB : B ≤ w.heap.size) (htab : TabB B w) :
    Calls Tryd.prog 31 #[vt, .agg (jC 1 n (nmB t) (.slice na nl nc) (.slice ia il ic))] w (TxC w B vt (nbs (valP (.mk 1 n t ns its) l))) := by
  obtain ⟨Q, HQ⟩ : ∃ Q : List Nat, Hid (Q = valP (.mk 1 n t ns its) l) := ⟨valP (.mk 1 n t ns its) l, (Eq.refl _ : valP (.mk 1 n t ns its) l = _)⟩
  rw [← HQ.out]
  obtain ⟨tb, Htb⟩ : ∃ tb : ByteArray, Hid (tb = nmB t) := ⟨nmB t, (Eq.refl _ : nmB t = _)⟩
  have HV : Hid (Q = l ++ [110, 117, 108, 108]) := by rw [Hid, HQ.out]; unfold valP; rfl
  obtain ⟨w1, Hw1⟩ : ∃ w1, Hid (w1 = w.alloc (.cells #[.int .i64 1, .int .i64 n, .string tb, .slice na nl nc, .slice ia il ic] 26)) := ⟨_, rfl⟩
  obtain ⟨g, Hg⟩ : ∃ g, Hid (g = w.heap.size) := ⟨_, rfl⟩
  have HB1 : Hid (Blk w1 g #[.int .i64 1, .int .i64 n, .string tb, .slice na nl nc, .slice ia il ic] 26) := by rw [Hid, Hw1.out, Hg.out]; exact Blk.new _ _ _
  have HF1 : Hid (Below w.heap.size w w1) := by rw [Hid, Hw1.out]; exact below_new _ _
  have HG1 : Hid (Grew w w1 vt vt) := (Grew.refl _ _).below HF1.out
  have HO : Hid (Ow w1 B 5 vt (nbs l) ∧ l.length ≤ 70000 ∧ B ≤ w1.heap.size) := ⟨ho.below HF1.out, hl, Nat.le_trans hB HF1.out.size⟩
  obtain ⟨x0, x1, x2, x3, x4, -⟩ := Blk.five HB1.out
  unfold Rng at hr
  rw [← Htb.out]
  clear IH hv hnS hi hs hSB ho hB hl HQ Htb hso
  unfold jC
  go_enter Tryd.func31, Tryd.ntmps31
  go_upto_region 1 with fail
  rw [← Hw1.out, ← Hg.out]
  clear Hw1 Hg
  go_wp2_with (at_builtin; go_must (refine append_strG w1 rfl _ _ rfl B _ l.length _ (nbs_length l) rfl HO.out.1 ⟨#[110, 117, 108, 108]⟩ rfl (by have := HO.out.2.1; rw [show (⟨#[110, 117, 108, 108]⟩ : ByteArray).size = 4 from rfl]; omega) HO.out.2.2 ?_))
  intro v5 w5 ho5 hg5
  rw [cells_w0, ← nbs_append] at ho5
  go_wp2
  go_ret
  refine ⟨_, rfl, ?_, HG1.out.trans hg5⟩
  rw [HV.out]
  exact ho5

set_option maxRecDepth 100000 in
set_option maxHeartbeats 4000000 in
theorem appendV2_calls (n : Int) (t : List UInt8) (ns : List (List UInt8)) (its : List Js) (IH : ∀ x ∈ its, SpecP x) (d nl nc il ic : Nat) (na ia : Option Addr) (w : World) (S : Nat → Prop) (B : Nat) (vt : Value) (l : List Nat)
    (hd : d ≤ 16) (hnl : ns.length = nl) (hil : its.length = il) (hso : soundJ (.mk 2 n t ns its) d = true) (hr : Rng (.mk 2 n t ns its)) (hv : VAt w na (ns.map strV)) (hnS : ∀ a, na = some a → ns ≠ [] → S a.block) (hi : ItAt w S ia 0 its) (hs : ∀ a, ia = some a → its ≠ [] → S a.block) (hSB : ∀ k, S k → k < B) (ho : Ow w B 5 vt (nbs l)) (hl : l.length ≤ 70000) (hB : B ≤ w.heap.size) (htab : TabB B w) :
    Calls Tryd.prog 31 #[vt, .agg (jC 2 n (nmB t) (.slice na nl nc) (.slice ia il ic))] w (TxC w B vt (nbs (valP (.mk 2 n t ns its) l))) := by
  obtain ⟨Q, HQ⟩ : ∃ Q : List Nat, Hid (Q = valP (.mk 2 n t ns its) l) := ⟨valP (.mk 2 n t ns its) l, (Eq.refl _ : valP (.mk 2 n t ns its) l = _)⟩
  rw [← HQ.out]
  obtain ⟨tb, Htb⟩ : ∃ tb : ByteArray, Hid (tb = nmB t) := ⟨nmB t, (Eq.refl _ : nmB t = _)⟩
  have HV : Hid (Q = l ++ (if n = 1 then [116, 114, 117, 101] else [102, 97, 108, 115, 101])) := by rw [Hid, HQ.out]; unfold valP; rfl
  obtain ⟨w1, Hw1⟩ : ∃ w1, Hid (w1 = w.alloc (.cells #[.int .i64 2, .int .i64 n, .string tb, .slice na nl nc, .slice ia il ic] 26)) := ⟨_, rfl⟩
  obtain ⟨g, Hg⟩ : ∃ g, Hid (g = w.heap.size) := ⟨_, rfl⟩
  have HB1 : Hid (Blk w1 g #[.int .i64 2, .int .i64 n, .string tb, .slice na nl nc, .slice ia il ic] 26) := by rw [Hid, Hw1.out, Hg.out]; exact Blk.new _ _ _
  have HF1 : Hid (Below w.heap.size w w1) := by rw [Hid, Hw1.out]; exact below_new _ _
  have HG1 : Hid (Grew w w1 vt vt) := (Grew.refl _ _).below HF1.out
  have HO : Hid (Ow w1 B 5 vt (nbs l) ∧ l.length ≤ 70000 ∧ B ≤ w1.heap.size) := ⟨ho.below HF1.out, hl, Nat.le_trans hB HF1.out.size⟩
  obtain ⟨x0, x1, x2, x3, x4, -⟩ := Blk.five HB1.out
  unfold Rng at hr
  rw [← Htb.out]
  clear IH hv hnS hi hs hSB ho hB hl HQ Htb hso
  unfold jC
  by_cases hn1 : n = 1
  · subst hn1
    rw [if_pos rfl] at HV
    go_enter Tryd.func31, Tryd.ntmps31
    go_upto_region 1 with fail
    rw [← Hw1.out, ← Hg.out]
    clear Hw1 Hg
    go_wp2_with (at_builtin; go_must (refine append_strG w1 rfl _ _ rfl B _ l.length _ (nbs_length l) rfl HO.out.1 ⟨#[116, 114, 117, 101]⟩ rfl (by have := HO.out.2.1; rw [show (⟨#[116, 114, 117, 101]⟩ : ByteArray).size = 4 from rfl]; omega) HO.out.2.2 ?_))
    intro v5 w5 ho5 hg5
    rw [cells_w4, ← nbs_append] at ho5
    go_wp2
    go_ret
    refine ⟨_, rfl, ?_, HG1.out.trans hg5⟩
    rw [HV.out]
    exact ho5
  · rw [if_neg hn1] at HV
    have hn2 : (n == 1) = false := by simpa using hn1
    go_enter Tryd.func31, Tryd.ntmps31
    go_upto_region 1 with fail
    rw [← Hw1.out, ← Hg.out]
    clear Hw1 Hg
    go_wp2_with (at_builtin; go_must (refine append_strG w1 rfl _ _ rfl B _ l.length _ (nbs_length l) rfl HO.out.1 ⟨#[102, 97, 108, 115, 101]⟩ rfl (by have := HO.out.2.1; rw [show (⟨#[102, 97, 108, 115, 101]⟩ : ByteArray).size = 5 from rfl]; omega) HO.out.2.2 ?_))
    intro v5 w5 ho5 hg5
    rw [cells_w5, ← nbs_append] at ho5
    go_wp2
    go_ret
    refine ⟨_, rfl, ?_, HG1.out.trans hg5⟩
    rw [HV.out]
    exact ho5

set_option maxRecDepth 100000 in
set_option maxHeartbeats 4000000 in
theorem appendV3_calls (n : Int) (t : List UInt8) (ns : List (List UInt8)) (its : List Js) (IH : ∀ x ∈ its, SpecP x) (d nl nc il ic : Nat) (na ia : Option Addr) (w : World) (S : Nat → Prop) (B : Nat) (vt : Value) (l : List Nat)
    (hd : d ≤ 16) (hnl : ns.length = nl) (hil : its.length = il) (hso : soundJ (.mk 3 n t ns its) d = true) (hr : Rng (.mk 3 n t ns its)) (hv : VAt w na (ns.map strV)) (hnS : ∀ a, na = some a → ns ≠ [] → S a.block) (hi : ItAt w S ia 0 its) (hs : ∀ a, ia = some a → its ≠ [] → S a.block) (hSB : ∀ k, S k → k < B) (ho : Ow w B 5 vt (nbs l)) (hl : l.length ≤ 70000) (hB : B ≤ w.heap.size) (htab : TabB B w) :
    Calls Tryd.prog 31 #[vt, .agg (jC 3 n (nmB t) (.slice na nl nc) (.slice ia il ic))] w (TxC w B vt (nbs (valP (.mk 3 n t ns its) l))) := by
  obtain ⟨Q, HQ⟩ : ∃ Q : List Nat, Hid (Q = valP (.mk 3 n t ns its) l) := ⟨valP (.mk 3 n t ns its) l, (Eq.refl _ : valP (.mk 3 n t ns its) l = _)⟩
  rw [← HQ.out]
  obtain ⟨tb, Htb⟩ : ∃ tb : ByteArray, Hid (tb = nmB t) := ⟨nmB t, (Eq.refl _ : nmB t = _)⟩
  have HV : Hid (Q = l ++ numD n) := by rw [Hid, HQ.out]; unfold valP; rfl
  obtain ⟨w1, Hw1⟩ : ∃ w1, Hid (w1 = w.alloc (.cells #[.int .i64 3, .int .i64 n, .string tb, .slice na nl nc, .slice ia il ic] 26)) := ⟨_, rfl⟩
  obtain ⟨g, Hg⟩ : ∃ g, Hid (g = w.heap.size) := ⟨_, rfl⟩
  have HB1 : Hid (Blk w1 g #[.int .i64 3, .int .i64 n, .string tb, .slice na nl nc, .slice ia il ic] 26) := by rw [Hid, Hw1.out, Hg.out]; exact Blk.new _ _ _
  have HF1 : Hid (Below w.heap.size w w1) := by rw [Hid, Hw1.out]; exact below_new _ _
  have HG1 : Hid (Grew w w1 vt vt) := (Grew.refl _ _).below HF1.out
  have HO : Hid (Ow w1 B 5 vt (nbs l) ∧ l.length ≤ 70000 ∧ B ≤ w1.heap.size) := ⟨ho.below HF1.out, hl, Nat.le_trans hB HF1.out.size⟩
  obtain ⟨x0, x1, x2, x3, x4, -⟩ := Blk.five HB1.out
  have HT : Hid (TabB B w1) := htab.on ((Below.refl B w).trans (HF1.out.mono hB))
  unfold Rng at hr
  rw [← Htb.out]
  clear IH hv hnS hi hs hSB ho hB hl HQ Htb hso
  unfold jC
  have HC := appendInt_calls n hr.1.1 hr.1.2 B l.length vt l w1 rfl HO.out.1 HO.out.2.2 (by have := HO.out.2.1; omega) HT.out
  go_enter Tryd.func31, Tryd.ntmps31
  go_upto_region 1 with fail
  rw [← Hw1.out, ← Hg.out]
  clear Hw1 Hg
  go_wp2_with fail
  refine HC.mono ?_
  clear HC
  rintro e w5 ⟨v5, rfl, ho5, hg5⟩
  go_wp2
  go_ret
  refine ⟨_, rfl, ?_, HG1.out.trans hg5⟩
  rw [HV.out]
  exact ho5

set_option maxRecDepth 100000 in
set_option maxHeartbeats 4000000 in
theorem appendV4_calls (n : Int) (t : List UInt8) (ns : List (List UInt8)) (its : List Js) (IH : ∀ x ∈ its, SpecP x) (d nl nc il ic : Nat) (na ia : Option Addr) (w : World) (S : Nat → Prop) (B : Nat) (vt : Value) (l : List Nat)
    (hd : d ≤ 16) (hnl : ns.length = nl) (hil : its.length = il) (hso : soundJ (.mk 4 n t ns its) d = true) (hr : Rng (.mk 4 n t ns its)) (hv : VAt w na (ns.map strV)) (hnS : ∀ a, na = some a → ns ≠ [] → S a.block) (hi : ItAt w S ia 0 its) (hs : ∀ a, ia = some a → its ≠ [] → S a.block) (hSB : ∀ k, S k → k < B) (ho : Ow w B 5 vt (nbs l)) (hl : l.length ≤ 70000) (hB : B ≤ w.heap.size) (htab : TabB B w) :
    Calls Tryd.prog 31 #[vt, .agg (jC 4 n (nmB t) (.slice na nl nc) (.slice ia il ic))] w (TxC w B vt (nbs (valP (.mk 4 n t ns its) l))) := by
  obtain ⟨Q, HQ⟩ : ∃ Q : List Nat, Hid (Q = valP (.mk 4 n t ns its) l) := ⟨valP (.mk 4 n t ns its) l, (Eq.refl _ : valP (.mk 4 n t ns its) l = _)⟩
  rw [← HQ.out]
  obtain ⟨tb, Htb⟩ : ∃ tb : ByteArray, Hid (tb = nmB t) := ⟨nmB t, (Eq.refl _ : nmB t = _)⟩
  have HV : Hid (Q = txtP tb l) := by rw [Hid, HQ.out, Htb.out]; unfold valP; rfl
  obtain ⟨w1, Hw1⟩ : ∃ w1, Hid (w1 = w.alloc (.cells #[.int .i64 4, .int .i64 n, .string tb, .slice na nl nc, .slice ia il ic] 26)) := ⟨_, rfl⟩
  obtain ⟨g, Hg⟩ : ∃ g, Hid (g = w.heap.size) := ⟨_, rfl⟩
  have HB1 : Hid (Blk w1 g #[.int .i64 4, .int .i64 n, .string tb, .slice na nl nc, .slice ia il ic] 26) := by rw [Hid, Hw1.out, Hg.out]; exact Blk.new _ _ _
  have HF1 : Hid (Below w.heap.size w w1) := by rw [Hid, Hw1.out]; exact below_new _ _
  have HG1 : Hid (Grew w w1 vt vt) := (Grew.refl _ _).below HF1.out
  have HO : Hid (Ow w1 B 5 vt (nbs l) ∧ l.length ≤ 70000 ∧ B ≤ w1.heap.size) := ⟨ho.below HF1.out, hl, Nat.le_trans hB HF1.out.size⟩
  obtain ⟨x0, x1, x2, x3, x4, -⟩ := Blk.five HB1.out
  have hts : tb.size ≤ 140737488355328 := by rw [Htb.out]; unfold Rng at hr; simpa [nmB, ByteArray.size] using hr.2.1
  unfold Rng at hr
  rw [← Htb.out]
  clear IH hv hnS hi hs hSB ho hB hl HQ Htb hso
  unfold jC
  have HC := appendText_calls tb (by omega) vt B l w1 (by have := HO.out.2.1; omega) HO.out.1 HO.out.2.2
  go_enter Tryd.func31, Tryd.ntmps31
  go_upto_region 1 with fail
  rw [← Hw1.out, ← Hg.out]
  clear Hw1 Hg
  go_wp2_with fail
  refine HC.mono ?_
  clear HC
  rintro e w5 ⟨v5, rfl, ho5, hg5⟩
  go_wp2
  go_ret
  refine ⟨_, rfl, ?_, HG1.out.trans hg5⟩
  rw [HV.out]
  exact ho5
end Go.Proofs.YtelhgjepjieocaaDoor
