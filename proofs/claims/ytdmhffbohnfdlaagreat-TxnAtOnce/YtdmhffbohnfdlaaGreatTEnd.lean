/- Layer 5 (txn): the end of a transaction that touches keys: it is published, and the ways of its keys are fired. -/
import Derived.Test.YtdmhffbohnfdlaaGreatTAtom
import Derived.Test.YtdmhffbohnfdlaaGreatTTouched
namespace Go.Proofs.YtdmhffbohnfdlaaGreat
open Go.RowKit
set_option linter.unusedVariables false

theorem TAt.frdO {X : Nat → Prop} {w w' : World} {t : Tr} (h : TAt nR w t) (hf : Frd X w w') (hX : ∀ b, X b → Off w b) : TAt nR w' t := by
  induction h with
  | mk blk kids val wat sub room nil psz ih =>
    refine .mk (hf.block _ _ blk (.cells (by decide)) (fun e => ((hX _ e).typed blk).1 rfl)) (fun j hj => ?_) (fun x hx => ?_) (hf.wat _ wat) ih room nil psz
    · obtain ⟨b', off, ha, h0, hr⟩ := kids j hj
      have hlt := World.block_lt_of_cell? w _ h0
      obtain ⟨o, ho⟩ : ∃ o, w.heap[b']? = some o := ⟨w.heap[b'], by simp [hlt]⟩
      have hpo : Plain o := by
        refine ⟨fun c f e => ?_, fun _ _ _ _ _ _ e => ?_⟩
        · subst e
          rw [cell_of_blk ho] at h0
          generalize off + j = q at h0
          simp only [wCells] at h0
          rcases q with _ | _ | _ | _ | q <;> simp at h0
        · subst e
          simp [World.cell?, ho] at h0
      have hxx : ¬ X b' := by
        intro hx
        rcases hX b' hx with ⟨es, cl, h1⟩ | ⟨cs, ty, h1, hp, -⟩
        · simp [World.cell?, h1] at h0
        · rw [cell_of_blk h1] at h0
          obtain ⟨ds, ty', h2, h3⟩ := hp _ _ h0
          obtain ⟨ds', h4⟩ := (sub _ (List.getElem_mem hj)).isNode
          rw [h4] at h2
          simp at h2
          exact h3 h2.2.symm
      exact ⟨b', off, ha, (World.cell?_of_block (w := w) (a := ⟨b', off + j, none⟩) ((hf.block b' o ho hpo hxx).trans ho.symm)).trans h0, hr⟩
    · have hx' := val x hx
      exact ⟨hf.block _ _ hx'.blk (.cells (by decide)) (fun e => ((hX _ e).typed hx'.blk).2.1 rfl), hf.wat _ hx'.wat, hx'.num⟩
theorem TreeAt.frdO {X : Nat → Prop} {w w' : World} {tb : Nat} {t : Tr} {n : Int} (h : TreeAt w tb t n) (hf : Frd X w w') (hX : ∀ b, X b → Off w b) : TreeAt w' tb t n :=
  ⟨hf.block _ _ h.blk (.cells (by decide)) (fun e => ((hX _ e).typed h.blk).2.2.2 rfl), h.tat.frdO hf hX⟩
theorem Touched.frdO {l : List Nat} {w w' : World} (h : Touched l w w') (hl : ∀ k ∈ l, Off w k) : Frd (· ∈ l) w w' :=
  ⟨h.os, h.tape, h.output, h.size, fun k o hk _ hx => (h.block k (lt_of_heap hk) hx).trans hk, fun g hg => by
    obtain ⟨f, hg, -⟩ := hg
    exact ⟨f, hg.offs (· ∈ l) (fun b hb hn => h.block b hb hn) hl, fun _ => trivial⟩⟩

section
variable {o : Oper} {a : Act} {W : World} {K : Act → World → Prop} {Q : Exit → Act → World → Prop}
theorem f_fldVr1 {x : Operand} {g : Nat} (ho : o.op = .fieldAddr 100 x 1) (hx : a.eval x = .pointer (some ⟨g, 0, none⟩)) (h : K (a.put o.dst (.pointer (some ⟨g, 1, none⟩))) W) : o.wp Tryz.prog a W K Q :=
  wp_valF (v := .pointer (some ⟨g, 1, none⟩)) (by unfold execOp; simp only [ho, hx]; go_simp) h
theorem f_loadU {x : Operand} {p k : Nat} {n : Int} (ho : o.op = .load 30 x) (hx : a.eval x = .pointer (some ⟨p, k, none⟩)) (hc : W.cell? ⟨p, k, none⟩ = some (.int .u64 n)) (h : K (a.put o.dst (.int .u64 n)) W) : o.wp Tryz.prog a W K Q :=
  wp_valF (v := .int .u64 n) (by unfold execOp; simp only [ho, hx]; simp [hc, go_sem]) h
theorem f_addU {x : Operand} {n : Int} (ho : o.op = .binOp .add 30 x (.const (.int .u64 1)) 30) (hx : a.eval x = .int .u64 n) (hn : 0 ≤ n ∧ n < 18446744073709551615) (h : K (a.put o.dst (.int .u64 (n + 1))) W) : o.wp Tryz.prog a W K Q :=
  wp_valF (v := .int .u64 (n + 1)) (by
    have hw : IntKind.u64.wrap (n + 1) = n + 1 := by
      have h1 : IntKind.u64.wrap (n + 1) = (n + 1) % 18446744073709551616 := rfl
      rw [h1]; omega
    have hy : a.eval (.const (.int .u64 1)) = .int .u64 1 := rfl
    unfold execOp; simp only [ho, hx, hy]; simp [go_sem, hw]) h
theorem f_buildV2 {x y : Operand} {p : Option Addr} {n : Int} (ho : o.op = .build 100 #[(0, x), (1, y)]) (hx : a.eval x = .pointer p) (hy : a.eval y = .int .u64 n) (h : K (a.put o.dst (.agg #[.pointer p, .int .u64 n])) W) : o.wp Tryz.prog a W K Q :=
  wp_valF (v := .agg #[.pointer p, .int .u64 n]) (by unfold execOp; simp only [ho, List.map_toArray, List.map_cons, List.map_nil, hx, hy]; go_simp) h
end

theorem newly_congr {w w' : World} {gs : List Nat} (h : ∀ x ∈ gs, flagOf w' x = flagOf w x) : newly w' gs = newly w gs := by
  unfold newly
  have : ∀ (l : List Nat) (acc : List Nat), (∀ x ∈ l, flagOf w' x = flagOf w x) → l.foldl (fun acc g => if decide (g ∈ acc) || flagOf w' g then acc else acc ++ [g]) acc = l.foldl (fun acc g => if decide (g ∈ acc) || flagOf w g then acc else acc ++ [g]) acc := by
    intro l
    induction l with
    | nil => intro acc _; rfl
    | cons g l ih =>
      intro acc hl
      rw [List.foldl_cons, List.foldl_cons, hl g (List.mem_cons_self ..), ih _ fun x hx => hl x (List.mem_cons_of_mem _ hx)]
  exact this gs [] h
theorem waysOf_wc {w : World} {T : Tr} {ks : List ByteArray} {way : ByteArray → List Tr} (hT : TAt nR w T) (hw : ∀ k ∈ ks, Along k.data.toList T (way k)) : ∀ x ∈ waysOf way ks, Wc anyO w x := by
  intro x hx
  obtain ⟨k, hk, hx⟩ := List.mem_flatMap.1 hx
  obtain ⟨t, ht, hx⟩ := List.mem_flatMap.1 hx
  have hat := along_tat (hw k hk) hT t ht
  unfold wayN at hx
  rcases List.mem_cons.1 hx with rfl | hx
  · cases hat; assumption
  · cases hv : t.v with
    | none => rw [hv] at hx; simp at hx
    | some v =>
      rw [hv] at hx
      by_cases hs : t.p.size = k.size
      · simp [hs] at hx
        subst hx
        exact (hat.val' v hv).wat
      · simp [hs] at hx
/-- What is asked of the keys that are fired in the tree T: their ways. -/
structure WaysOk (T : Tr) (ks : List ByteArray) (way : ByteArray → List Tr) (N : Nat) : Prop where
  wf : WF T
  root : T.p = kE
  on : ∀ k ∈ ks, Along k.data.toList T (way k)
  len : ∀ k ∈ ks, (way k).length ≤ N
  size : ∀ k ∈ ks, k.size ≤ 140737488351296
  few : ks.length < 4611686018427387904
  cnt : ∃ ms : List Nat, ms.length + 4 < 4611686018427387904 ∧ ∀ x ∈ waysOf way ks, x ∈ ms

set_option maxRecDepth 100000 in
set_option maxHeartbeats 4000000 in
/-- Base.end with touched keys. -/
theorem baseEnd_calls (bb vb tb tb1 : Nat) (nm : Int) (T : Tr) (n : Int) (ks : List ByteArray) (way : ByteArray → List Tr) (N g cap : Nat) (cs : Array Value) (w : World) (h : BaseAt w bb vb tb nm true) (hT : TreeAt w tb T n) (hW : WaysOk T ks way N) (hg : w.heap[g]? = some (.cells cs 9)) (hcs : ∀ i (h : i < ks.length), cs[i]? = some (.string ks[i])) (hk0 : 0 < ks.length) (hnm : 0 ≤ nm ∧ nm < 18446744073709551615) :
    Calls Tryz.prog 94 #[.pointer (some ⟨bb, 0, none⟩), .pointer (some ⟨tb1, 0, none⟩), .slice (some ⟨g, 0, none⟩) ks.length cap] w fun e w' => ∃ vb', e = .returned (.int .i64 ((newly w (waysOf way ks)).length : Int)) ∧ BaseAt w' bb vb' tb1 (nm + 1) false ∧ Frd (fun b => b = bb) w w' ∧ Touched (bb :: both (waysOf way ks)) w w' ∧ ∀ x, Wc anyO w x → WAt w' x (x - 1) (decide (x ∈ waysOf way ks) || flagOf w x) := by
  have hoff := h.off
  have c1 : w.cell? ⟨bb, 1, none⟩ = some (.int .i32 0) := by rw [cell_of_blk h.blk]; rfl
  have z1 : w.frozen? ⟨bb, 1, none⟩ = false := frozen_of_blk h.blk
  have hbl := lt_of_heap h.blk
  have hne : vb ≠ bb := fun e => by have := h.ver; rw [e, h.blk] at this; simp at this
  obtain ⟨w1, HW1⟩ : ∃ w1, Hid (w1 = w.setCell ⟨bb, 1, none⟩ (.int .i32 1)) := ⟨_, rfl⟩
  have b1 : w1.heap[bb]? = some (.cells #[.pointer (some ⟨vb, 0, none⟩), .int .i32 1, .int .u32 0, .bool true] 97) := by rw [HW1.out]; exact mutex_two h.blk
  have d3 : w1.cell? ⟨bb, 3, none⟩ = some (.bool true) := by rw [cell_of_blk b1]; rfl
  have y3 : w1.frozen? ⟨bb, 3, none⟩ = false := frozen_of_blk b1
  obtain ⟨w2, HW2⟩ : ∃ w2, Hid (w2 = w1.setCell ⟨bb, 3, none⟩ (.bool false)) := ⟨_, rfl⟩
  have b2 : w2.heap[bb]? = some (.cells #[.pointer (some ⟨vb, 0, none⟩), .int .i32 1, .int .u32 0, .bool false] 97) := by rw [HW2.out, setCell_blk b1]; rfl
  have t2 : Touched [bb] w w2 := by rw [HW2.out, HW1.out]; exact ((Touched.refl _ _).setCell _ _ (.inl (by simp))).setCell _ _ (.inl (by simp))
  have v2 : w2.heap[vb]? = some (.cells #[.pointer (some ⟨tb, 0, none⟩), .int .u64 nm] 100) := (t2.block vb (lt_of_heap h.ver) (by simpa using hne)).trans h.ver
  have cur2 : w2.cell? ⟨bb, 0, none⟩ = some (.pointer (some ⟨vb, 0, none⟩)) := by rw [cell_of_blk b2]; rfl
  have HLD := load_calls bb vb _ _ w2 cur2 v2
  have HF2 : Hid (Frd (· ∈ [bb]) w w2) := t2.frdO (fun k hk => by simp at hk; subst hk; exact hoff)
  have HBB : Hid (∃ ds, w.heap[bb]? = some (.cells ds 97)) := ⟨_, h.blk⟩
  have HS : Hid (TreeAt w tb T n ∧ WaysOk T ks way N ∧ w.heap[g]? = some (.cells cs 9) ∧ (∀ i (h : i < ks.length), cs[i]? = some (.string ks[i])) ∧ Off w bb ∧ Touched [bb] w w2) := ⟨hT, hW, hg, hcs, hoff, t2⟩
  have HB2 : Hid (w2.heap[bb]? = some (.cells #[.pointer (some ⟨vb, 0, none⟩), .int .i32 1, .int .u32 0, .bool false] 97) ∧ w2.heap[vb]? = some (.cells #[.pointer (some ⟨tb, 0, none⟩), .int .u64 nm] 100)) := ⟨b2, v2⟩
  obtain ⟨kl, Hkl⟩ : ∃ kl, Hid (kl = ks.length) := ⟨_, rfl⟩
  have hl1 : ¬ (kl : Int) = 0 := by rw [Hkl.out]; omega
  have hl0 : ((kl : Int) == 0) = false := beq_eq_false_iff_ne.2 hl1
  rw [← Hkl.out]
  clear hk0
  clear h hT hW hg hcs hoff b1 b2 v2 t2 cur2
  go_enter_defers Tryz.func94, Tryz.ntmps94
  go_wp2_with (first
    | (go_at_call 36; refine (lock_free ⟨bb, 1, none⟩ _ c1 z1).mono ?_; rintro e w' ⟨rfl, rfl⟩; rw [← HW1.out])
    | (go_at_call 53; rw [← HW2.out]; refine HLD.mono ?_; rintro e w' ⟨rfl, hw'⟩; rw [hw']; clear hw')
    | fail)
  refine wp_region_inv 11 (fun i v W1 => match i with
    | 0 => v = .pointer (some ⟨bb, 0, none⟩)
    | 1 => v = .pointer (some ⟨bb, 0, none⟩)
    | 2 => v = .pointer (some ⟨bb, 0, none⟩)
    | 3 => v = .pointer (some ⟨tb1, 0, none⟩)
    | 4 => v = .pointer (some ⟨vb, 0, none⟩)
    | 5 => v = .pointer (some ⟨vb, 0, none⟩)
    | 6 => v = .pointer (some ⟨vb, 1, none⟩)
    | 7 => v = .int .u64 nm
    | 8 => v = .int .u64 (nm + 1)
    | 9 => v = .agg #[.pointer (some ⟨tb1, 0, none⟩), .int .u64 (nm + 1)]
    | 10 => ∃ vb', v = .pointer (some ⟨vb', 0, none⟩) ∧ W1.heap[vb']? = some (.cells #[.pointer (some ⟨tb1, 0, none⟩), .int .u64 (nm + 1)] 100)
    | _ => False) (by kernel_rfl) (by kernel_rfl) (by kernel_rfl) [some 25, some 26, some 27, some 28, some 29, some 30, some 31, some 32, some 33, some 34, some 35] (by kernel_rfl) ?mono ?hop ?tail
  case mono =>
    intro i v W W' h hb
    match i, h with
    | 0, h => exact h
    | 1, h => exact h
    | 2, h => exact h
    | 3, h => exact h
    | 4, h => exact h
    | 5, h => exact h
    | 6, h => exact h
    | 7, h => exact h
    | 8, h => exact h
    | 9, h => exact h
    | 10, ⟨vb', h1, h2⟩ => exact ⟨vb', h1, (hb.block _ (lt_of_heap h2)).trans h2⟩
  case hop =>
    intro i o hi ho a W1 hB1 hs hd
    match i, hi, ho, hd with
    | 0, _, ho, hd =>
      obtain rfl := Option.some.inj ho
      exact f_move rfl ((hs 0 (by kernel_rfl)).trans rfl) ⟨_, rfl, rfl, Below.refl _ _⟩
    | 1, _, ho, hd =>
      obtain rfl := Option.some.inj ho
      exact f_nilT rfl (hd 0 25 (by kernel_rfl) (by kernel_rfl)) ⟨_, rfl, rfl, Below.refl _ _⟩
    | 2, _, ho, hd =>
      obtain rfl := Option.some.inj ho
      exact f_fldB0 rfl (hd 1 26 (by kernel_rfl) (by kernel_rfl)) ⟨_, rfl, rfl, Below.refl _ _⟩
    | 3, _, ho, hd =>
      obtain rfl := Option.some.inj ho
      exact f_move rfl ((hs 1 (by kernel_rfl)).trans rfl) ⟨_, rfl, rfl, Below.refl _ _⟩
    | 4, _, ho, hd =>
      obtain rfl := Option.some.inj ho
      exact f_move rfl ((hs 7 (by kernel_rfl)).trans rfl) ⟨_, rfl, rfl, Below.refl _ _⟩
    | 5, _, ho, hd =>
      obtain rfl := Option.some.inj ho
      exact f_nilT rfl (hd 4 29 (by kernel_rfl) (by kernel_rfl)) ⟨_, rfl, rfl, Below.refl _ _⟩
    | 6, _, ho, hd =>
      obtain rfl := Option.some.inj ho
      exact f_fldVr1 rfl (hd 5 30 (by kernel_rfl) (by kernel_rfl)) ⟨_, rfl, rfl, Below.refl _ _⟩
    | 7, _, ho, hd =>
      obtain rfl := Option.some.inj ho
      exact f_loadU rfl (hd 6 31 (by kernel_rfl) (by kernel_rfl)) (by rw [cell_of_blk ((hB1.block _ (lt_of_heap HB2.out.2)).trans HB2.out.2)]; rfl) ⟨_, rfl, rfl, Below.refl _ _⟩
    | 8, _, ho, hd =>
      obtain rfl := Option.some.inj ho
      exact f_addU rfl (hd 7 32 (by kernel_rfl) (by kernel_rfl)) hnm ⟨_, rfl, rfl, Below.refl _ _⟩
    | 9, _, ho, hd =>
      obtain rfl := Option.some.inj ho
      exact f_buildV2 rfl (hd 3 28 (by kernel_rfl) (by kernel_rfl)) (hd 8 33 (by kernel_rfl) (by kernel_rfl)) ⟨_, rfl, rfl, Below.refl _ _⟩
    | 10, _, ho, hd =>
      obtain rfl := Option.some.inj ho
      exact f_boxV rfl (hd 9 34 (by kernel_rfl) (by kernel_rfl)) ⟨_, rfl, ⟨W1.heap.size, rfl, heap_alloc_new _ _⟩, (Below.refl _ _).alloc (Nat.le_refl _) _⟩
    | k + 11, hi, _, _ => exact absurd hi (by omega)
  case tail =>
    intro vs W3 hB3 hR
    have r2 : vs 2 = .pointer (some ⟨bb, 0, none⟩) := hR 2 (by decide)
    obtain ⟨vb', r10, hv'⟩ := hR 10 (by decide)
    have b3 := (hB3.block _ (lt_of_heap HB2.out.1)).trans HB2.out.1
    have v3 := (hB3.block _ (lt_of_heap HB2.out.2)).trans HB2.out.2
    have hne' : vb' ≠ bb := fun e => by have := hv'; rw [e, b3] at this; simp at this
    have c0 : W3.cell? ⟨bb, 0, none⟩ = some (.pointer (some ⟨vb, 0, none⟩)) := by rw [cell_of_blk b3]; rfl
    have z0 : W3.frozen? ⟨bb, 0, none⟩ = false := frozen_of_blk b3
    have hv0 : W3.cell? ⟨vb', 0, none⟩ = some (.pointer (some ⟨tb1, 0, none⟩)) := by rw [cell_of_blk hv']; rfl
    have HST := store_calls bb vb' _ _ W3 c0 z0 hv0
    obtain ⟨w4, HW4⟩ : ∃ w4, Hid (w4 = W3.setCell ⟨bb, 0, none⟩ (.pointer (some ⟨vb', 0, none⟩))) := ⟨_, rfl⟩
    have b4 : w4.heap[bb]? = some (.cells #[.pointer (some ⟨vb', 0, none⟩), .int .i32 1, .int .u32 0, .bool false] 97) := by rw [HW4.out, setCell_blk b3]; rfl
    have vo4 : w4.heap[vb]? = some (.cells #[.pointer (some ⟨tb, 0, none⟩), .int .u64 nm] 100) := by rw [HW4.out, heap_setCell_other _ _ _ _ hne]; exact v3
    have vn4 : w4.heap[vb']? = some (.cells #[.pointer (some ⟨tb1, 0, none⟩), .int .u64 (nm + 1)] 100) := by rw [HW4.out, heap_setCell_other _ _ _ _ hne']; exact hv'
    have off3 : Off W3 bb := .inr ⟨_, _, b3, fun j a hj => by
      rcases j with _ | _ | _ | _ | j <;> simp at hj
      subst hj
      exact ⟨_, _, v3, by decide⟩, by decide, by decide, by decide, by decide⟩
    have t34 : Touched [bb] W3 w4 := by rw [HW4.out]; exact (Touched.refl _ _).setCell _ _ (.inl (by simp))
    have F23 : Frd (fun _ => False) w2 W3 := Frd.ofBelow hB3
    have F4 : Frd (fun b => b = bb) w w4 := (HF2.out.trans F23 (Z := fun b => b = bb) (fun i e => by simpa using e) (fun i _ (e : False) => e.elim)).trans (t34.frdO (fun k hk => by simp at hk; subst hk; exact off3)) (fun i e => e) (fun i _ e => by simpa using e)
    have hT4 : TreeAt w4 tb T n := HS.out.1.frdO F4 (fun b e => by subst e; exact HS.out.2.2.2.2.1)
    have hg4 : w4.heap[g]? = some (.cells cs 9) := F4.block g _ HS.out.2.2.1 (.cells (by decide)) (fun e => by
      have hx := HS.out.2.2.1
      rw [e] at hx
      obtain ⟨ds, hb0⟩ := HBB.out
      rw [hb0] at hx
      simp at hx)
    -- the watches are in w4 as they were
    have hfl : ∀ x, Wc anyO w x → WAt w4 x (x - 1) (flagOf w x) := fun x hx => by
      have h2 : WAt w2 x (x - 1) (flagOf w x) := hx.at.offs (· ∈ [bb]) (fun b hb hn => HS.out.2.2.2.2.2.block b hb hn) (fun b hb => by simp at hb; subst hb; exact HS.out.2.2.2.2.1)
      have h3 := h2.below hB3
      exact h3.offs (· ∈ [bb]) (fun b hb hn => t34.block b hb hn) (fun b hb => by simp at hb; subst hb; exact off3)
    have hways : ∀ x ∈ waysOf way ks, Wc anyO w x := waysOf_wc HS.out.1.tat HS.out.2.1.on
    have hnew : newly w4 (waysOf way ks) = newly w (waysOf way ks) := newly_congr fun x hx => (hfl x (hways x hx)).flag
    have HFT := fireT_calls tb T n ks way N g cap cs w4 hT4 HS.out.2.1.wf HS.out.2.1.root HS.out.2.1.on HS.out.2.1.len HS.out.2.1.size HS.out.2.1.few (fun gs h => by obtain ⟨ms, h1, h2⟩ := HS.out.2.1.cnt; have := newly_sub w4 (fun x hx => h2 x (h x hx)); omega) hg4 HS.out.2.2.2.1
    rw [hnew, ← Hkl.out] at HFT
    have ot : w4.cell? ⟨vb, 0, none⟩ = some (.pointer (some ⟨tb, 0, none⟩)) := by rw [cell_of_blk vo4]; rfl
    have HB4 : Hid (w4.heap[bb]? = some (.cells #[.pointer (some ⟨vb', 0, none⟩), .int .i32 1, .int .u32 0, .bool false] 97) ∧ w4.heap[vb']? = some (.cells #[.pointer (some ⟨tb1, 0, none⟩), .int .u64 (nm + 1)] 100) ∧ vb' ≠ bb ∧ Frd (fun b => b = bb) w w4 ∧ (∀ x, Wc anyO w x → WAt w4 x (x - 1) (flagOf w x)) ∧ Touched [bb] w w4) := ⟨b4, vn4, hne', F4, hfl, (HS.out.2.2.2.2.2.trans (Touched.ofBelow hB3 _)).trans t34⟩
    clear hR hB3 hv' b3 v3 hne' c0 z0 hv0 b4 vo4 vn4 off3 t34 F23 F4 hT4 hg4 hfl hways hnew HB2 HF2
    simp only [putL, put_lit, List.setIfInBounds_toArray, List.set_cons_succ, List.set_cons_zero, List.drop_succ_cons, List.drop_zero]
    rw [r2, r10]
    clear r2 r10
    go_wp2_with fail
    refine HST.mono ?_
    clear HST
    rintro e w9 ⟨rfl, rfl⟩
    rw [← HW4.out]
    clear HW4
    go_wp2_with fail
    refine HFT.mono ?_
    clear HFT
    rintro e w5 ⟨rfl, hF5, ht5, hfl5⟩
    have b5 := hF5.block bb _ HB4.out.1 (.cells (by decide)) (fun e => e)
    have v5 := hF5.block vb' _ HB4.out.2.1 (.cells (by decide)) (fun e => e)
    have d5 : w5.cell? ⟨bb, 1, none⟩ = some (.int .i32 1) := by rw [cell_of_blk b5]; rfl
    have y5 : w5.frozen? ⟨bb, 1, none⟩ = false := frozen_of_blk b5
    have HFIN : Hid (BaseAt (w5.setCell ⟨bb, 1, none⟩ (.int .i32 0)) bb vb' tb1 (nm + 1) false ∧ Frd (fun b => b = bb) w (w5.setCell ⟨bb, 1, none⟩ (.int .i32 0)) ∧ Touched (bb :: both (waysOf way ks)) w (w5.setCell ⟨bb, 1, none⟩ (.int .i32 0)) ∧ ∀ x, Wc anyO w x → WAt (w5.setCell ⟨bb, 1, none⟩ (.int .i32 0)) x (x - 1) (decide (x ∈ waysOf way ks) || flagOf w x)) := by
      have F5 : Frd (fun b => b = bb) w w5 := HB4.out.2.2.2.1.trans hF5 (fun i e => e) (fun i _ e => e.elim)
      refine ⟨⟨by rw [setCell_blk b5]; rfl, (heap_setCell_other _ _ _ _ HB4.out.2.2.1).trans v5⟩, ⟨F5.os, F5.tape, F5.output, by simpa using F5.size, fun k o hk hp hx => (heap_setCell_other _ _ _ _ hx).trans (F5.block k o hk hp hx), fun x hx => ?_⟩, (HB4.out.2.2.2.2.2.join ht5 (fun i hi => by simp at hi; subst hi; exact List.mem_cons_self ..) (fun i hi _ => List.mem_cons_of_mem _ hi)).setCell _ _ (.inl (by simp)), fun x hx => ?_⟩
      · obtain ⟨f, hf, -⟩ := F5.wat x hx
        exact ⟨f, hf.aside b5 (by decide) _, fun _ => trivial⟩
      · have h4 := HB4.out.2.2.2.2.1 x hx
        have := hfl5 x ⟨_, h4, fun _ => trivial⟩
        rw [h4.flag] at this
        exact this.aside b5 (by decide) _
    clear hF5 hfl5 ht5 b5 v5
    go_wp2_with fail
    refine leaves_cons (f := 37) (args := #[.pointer (some ⟨bb, 1, none⟩)]) (by simp) (by simp [go_sem]) ?_
    refine (unlock_deferred ⟨bb, 1, none⟩ _ _ d5 y5).mono ?_
    rintro e u' w'' ⟨rfl, rfl, rfl⟩
    have hf := HFIN.out
    simp [Leaves, settle, results, Tryz.results94, go_sem]
    exact ⟨⟨vb', hf.1⟩, hf.2⟩
end Go.Proofs.YtdmhffbohnfdlaaGreat
