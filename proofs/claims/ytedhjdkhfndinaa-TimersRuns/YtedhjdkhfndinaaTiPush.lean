/- Layer 14 (timers): the heap's own Push, Pop. -/
import Derived.Test.YtedhjdkhfndinaaTiDown
namespace Go.Proofs.Ytedhjdkhfndinaa
open Go.RowKit
set_option linter.unusedVariables false

theorem infoPT : (Try.prog.info? 61).map (fun i => (i.zero, i.size, i.bytes)) = some (some (.pointer none), 1, 8) := by kernel_rfl
theorem infoOfT {P : Program} {e : TypeId} {z : Value} {a b : Nat} (h : (P.info? e).map (fun i => (i.zero, i.size, i.bytes)) = some (some z, a, b)) : ∃ i, P.info? e = some i ∧ i.zero = some z ∧ i.size = a ∧ i.bytes = b := by
  obtain ⟨i, hi, hb⟩ := Option.map_eq_some_iff.1 h
  simp only [Prod.mk.injEq] at hb
  exact ⟨i, hi, hb.1, hb.2.1, hb.2.2⟩
/-- append(s, u), u of one cell, laid right ahead. -/
theorem append_valT (W : World) {ops : Array Oper} {rest : List Oper} {o : Oper} {a : Act} {Q : Exit → Act → World → Prop} (hgd : o.guard = none) (s x : Operand) (t e : TypeId) (z : Value) (bytes : Nat)
    (ht : Try.prog.underlying t = some (.slice e)) (hi : (Try.prog.info? e).map (fun i => (i.zero, i.size, i.bytes)) = some (some z, 1, bytes)) (hzs : z.cells.size = 1)
    (ho : o.op = .call { callee := .builtin .append, args := #[s, x], argTypes := #[t, t] })
    (B : Nat) (v : Value) (l : List Value) (hs : a.eval s = v) (u : Value) (hu : u.oneCell' = true) (g : Nat) (hx : a.eval x = .slice (some ⟨g, 0, none⟩) 1 1) 
    (hg : g = W.heap.size) (hown : W.ownsRow B e 1 v l.length l) (hm : l.length + 1 ≤ 9223372036854775807) (hlen : (l.length + 1) * bytes ≤ 140737488355328) (hB : B ≤ W.heap.size)
    (h : ∀ v' w', w'.ownsRow B e 1 v' (l ++ [u]).length (l ++ [u]) → Grew W w' v v' → wpList Try.prog ops Q rest (a.put o.dst v') w') : wpList Try.prog ops Q (o :: rest) a (W.alloc (.cells #[u] e)) := by
  obtain ⟨i0, hi, hz0, hz1, hz2⟩ := infoOfT hi
  subst hg
  refine wpList_append_grew _ hgd s x t ho B e i0 z 1 bytes ht hi hz0 hz1 hz2 hzs (by decide) v l.length l hs (World.ownsRow.alloc hown _) ⟨W.heap.size, 0, none⟩ 1 1 [u] hx rfl (cells_new _ _ _) (by simp [hu]) (by unfold maxLen; omega) hlen (by simp; omega) ?_
  intro v' w' h1 h2 _
  refine h v' w' ?_ h2.ofAlloc
  rw [List.length_append]
  exact h1

theorem not_FT {w : World} {v : Value} {L : List Tm} {wb : Nat} {cs : Array Value} (h : PnAt w v L) (hb : w.heap[wb]? = some (.cells cs 60)) : ¬ FT v L wb := by
  rintro (e | ⟨x, hx, rfl⟩)
  · rcases h.pend.2 with ⟨rfl, h0⟩ | ⟨g, cap, cur, rfl, _, hg, _⟩
    · cases e
    · simp [Value.ownBlock] at e
      subst e
      have := hg.symm.trans hb
      simp at this
  · obtain ⟨i, hi⟩ := List.mem_iff_getElem?.1 hx
    have := (h.tms i x hi).symm.trans hb
    simp at this
theorem PnAt.len {w : World} {v : Value} {L : List Tm} (h : PnAt w v L) : ∃ ao cap, v = .slice ao L.length cap ∧ L.length ≤ maxLen := by
  rcases h.pend.2 with ⟨rfl, h0⟩ | ⟨g, cap, cur, rfl, _, hg, h1, h2, _⟩
  · exact ⟨none, 0, by rw [h0], by rw [h0]; decide⟩
  · exact ⟨_, _, rfl, by omega⟩

theorem assertT (b : Addr) (w : World) : (Instr.typeAssert (.iface 61 (.pointer (some b))) 20 61 false).run Try.prog w = .ok (.pointer (some b)) w := by kernel_rfl

set_option maxRecDepth 100000 in
set_option maxHeartbeats 1000000 in
theorem pushM_calls (wb p0 : Nat) (v : Value) (L : List Tm) (x : Tm) (cs : Array Value) (w : World) (hb : w.heap[wb]? = some (.cells cs 60)) (hc : cs[3]? = some v) (h : PnAt w v L)
    (hx : w.heap[x.b]? = some (.cells (tcell x p0) 64)) (hne : ∀ y ∈ L, y.b ≠ x.b) (hl : (L.length + 1) * 8 ≤ 140737488355328) :
    Calls Try.prog 53 #[.pointer (some ⟨wb, 3, none⟩), .iface 61 (ptrT x)] w fun e w' => e = .returned (.tuple #[]) ∧ ∃ v', PnAt w' v' (L ++ [x]) ∧ w'.heap[wb]? = some (.cells (cs.setIfInBounds 3 v') 60) ∧
      Frm (fun k => k = wb ∨ k = x.b ∨ FT v L k) w w' ∧ (∀ k, v'.ownBlock = some k → v.ownBlock = some k ∨ w.heap.size ≤ k) := by
  obtain ⟨ao, cap, rfl, hml⟩ := h.len
  have hwx : wb ≠ x.b := fun e => by
    rw [e] at hb
    have := hb.symm.trans hx
    simp at this
  have c0 : w.cell? ⟨wb, 3, none⟩ = some (.slice ao L.length cap) := by rw [cell_blkT hb]; exact hc
  have c3 : w.cell? ⟨x.b, 3, none⟩ = some (.int .i64 (p0 : Int)) := by rw [cell_blkT hx]; rfl
  have f3 : w.frozen? ⟨x.b, 3, none⟩ = false := frozen_blkT hx
  obtain ⟨w1, HW1⟩ : ∃ w1, Hid (w1 = w.setCell ⟨x.b, 3, none⟩ (.int .i64 (L.length : Int))) := ⟨_, rfl⟩
  have d0 : w1.cell? ⟨wb, 3, none⟩ = some (.slice ao L.length cap) := by
    rw [HW1.out, World.cell?_setCell_far _ _ _ _ (by simpa using hwx.symm)]; exact c0
  have HB1 : Hid (w1.heap[wb]? = some (.cells cs 60)) := by
    rw [HW1.out]; exact (heap_setCell_other _ _ _ _ (by exact hwx)).trans hb
  have HX1 : Hid (w1.heap[x.b]? = some (.cells (tcell x L.length) 64)) := by
    rw [HW1.out]
    show (w.setCell ⟨x.b, 3, none⟩ (.int .i64 (L.length : Int))).heap[x.b]? = _
    rw [heap_setCell_same _ _ _ _ _ _ hx]; simp [tcell]
  have HF1 : Hid (Frm (fun k => k = wb ∨ k = x.b ∨ FT (.slice ao L.length cap) L k) w w1) := by
    rw [HW1.out]; exact (Frm.refl _ w).setCell _ _ (.inl (.inr (.inl rfl)))
  have HP1 : Hid (PnAt w1 (.slice ao L.length cap) L) := by
    rw [HW1.out]
    refine h.same (fun k hk => heap_setCell_other _ _ _ _ (fun e => ?_)) (fun y hy => heap_setCell_other _ _ _ _ (hne y hy))
    rcases h.pend.2 with ⟨e0, _⟩ | ⟨g, cap', cur, e0, _, hg, _⟩
    · rw [e0] at hk; cases hk
    · rw [e0] at hk
      simp [Value.ownBlock] at hk
      have e' : k = x.b := e
      rw [hk, e'] at hg
      have := hg.symm.trans hx
      simp at this
  have HS1 : Hid (w1.heap.size = w.heap.size) := by
    show w1.heap.size = w.heap.size
    rw [HW1.out]
    simp
  have HO : Hid (w1.ownsRow 0 61 1 (.slice ao L.length cap) (L.map ptrT).length (L.map ptrT)) := by
    show w1.ownsRow 0 61 1 (.slice ao L.length cap) (L.map ptrT).length (L.map ptrT)
    rw [List.length_map]
    exact HP1.out.pend
  have HH : Hid (∀ y ∈ L, y.b ≠ x.b) := hne
  clear hb h hx hne
  have hta := assertT
  go_enter Try.func53, Try.ntmps53
  unfold ptrT
  go_upto_region 2 with fail
  rw [← HW1.out]
  clear c0 c3 f3
  go_wp2_with (at_builtin; refine append_valT _ rfl (.tmp 17) (.tmp 19) 58 61 (.pointer none) 8 Try.underlying58 infoPT rfl rfl 0 _ (L.map ptrT) rfl (.pointer (some ⟨x.b, 0, none⟩)) rfl _ rfl (by simp) HO.out (by simp; omega) (by simp; omega) (Nat.zero_le _) ?_)
  intro v' w2 ho2 hg2
  have hlt : wb < w1.heap.size := lt_of_heapT HB1.out
  have HNF : Hid (¬ FT (.slice ao L.length cap) L wb) := not_FT HP1.out HB1.out
  have hb2 : w2.heap[wb]? = some (.cells cs 60) := (hg2.grown.block wb hlt (fun e => HNF.out (.inl e.symm))).trans HB1.out
  have e0 : w2.cell? ⟨wb, 3, none⟩ = some (.slice ao L.length cap) := by rw [cell_blkT hb2]; exact hc
  have e1 : w2.frozen? ⟨wb, 3, none⟩ = false := frozen_blkT hb2
  have HE : Hid ((∃ v'', PnAt (w2.setCell ⟨wb, 3, none⟩ v') v'' (L ++ [x]) ∧ (w2.setCell ⟨wb, 3, none⟩ v').heap[wb]? = some (.cells (cs.setIfInBounds 3 v'') 60) ∧
      Frm (fun k => k = wb ∨ k = x.b ∨ FT (.slice ao L.length cap) L k) w (w2.setCell ⟨wb, 3, none⟩ v') ∧ (∀ k, v''.ownBlock = some k → (Value.slice ao L.length cap).ownBlock = some k ∨ w.heap.size ≤ k))) := by
    have hxb : w2.heap[x.b]? = some (.cells (tcell x L.length) 64) := by
      refine (hg2.grown.block x.b (lt_of_heapT HX1.out) (fun e => ?_)).trans HX1.out
      rcases HP1.out.pend.2 with ⟨e0, _⟩ | ⟨g, cap', cur, e0, _, hg, _⟩
      · rw [e0] at e; cases e
      · rw [e0] at e
        simp [Value.ownBlock] at e
        rw [← e] at hg
        have := hg.symm.trans HX1.out
        simp at this
    have hown' : ∀ k, v'.ownBlock = some k → k ≠ wb := by
      intro k hk e
      rcases ho2.2 with ⟨e0, _⟩ | ⟨g, cap', cur, e0, _, hg, _⟩
      · rw [e0] at hk; cases hk
      · rw [e0] at hk
        simp [Value.ownBlock] at hk
        rw [hk, e, hb2] at hg
        simp at hg
    refine ⟨v', ⟨?_, ?_⟩, heap_setCell_same _ _ _ _ _ _ hb2, ?_, fun k hk => ?_⟩
    · have : (L ++ [x]).map ptrT = L.map ptrT ++ [.pointer (some ⟨x.b, 0, none⟩)] := by simp [ptrT]
      rw [this]
      rw [List.length_append]
      refine ⟨ho2.1, ?_⟩
      rcases ho2.2 with e0 | ⟨g, cap', cur, e0, hB, hg, r⟩
      · exact .inl e0
      · exact .inr ⟨g, cap', cur, e0, hB, (heap_setCell_other _ _ _ _ (hown' g (by rw [e0]; rfl))).trans hg, r⟩
    · intro i y hy
      have hyw : ∀ (z : Tm) (q : Nat), w2.heap[z.b]? = some (.cells (tcell z q) 64) → (w2.setCell ⟨wb, 3, none⟩ v').heap[z.b]? = some (.cells (tcell z q) 64) := fun z q hz => by
        refine (heap_setCell_other _ _ _ _ (fun e => ?_)).trans hz
        have e' : z.b = wb := e
        rw [e', hb2] at hz
        simp at hz
      by_cases hi : i < L.length
      · rw [List.getElem?_append_left hi] at hy
        refine hyw y i ((hg2.grown.block y.b (lt_of_heapT (HP1.out.tms i y hy)) (fun e => ?_)).trans (HP1.out.tms i y hy))
        exact HP1.out.apart (List.mem_of_getElem? hy) e.symm
      · rw [List.getElem?_append_right (by omega)] at hy
        have hi2 : i - L.length = 0 := by
          by_cases h0 : i - L.length = 0
          · exact h0
          · rw [List.getElem?_eq_none (by simp; omega)] at hy; cases hy
        rw [hi2] at hy
        obtain rfl := Option.some.inj hy
        have : i = L.length := by omega
        rw [this]
        exact hyw x L.length hxb
    · refine (HF1.out.trans ?_).setCell _ _ (.inl (.inl rfl))
      exact ⟨hg2.grown.os, hg2.grown.tape, hg2.grown.output, hg2.grown.size, fun k hk hn => hg2.grown.block k hk (fun e => hn (.inr (.inr (.inl e.symm))))⟩
    · rcases hg2.place k hk with h1 | h1
      · exact .inl h1
      · exact .inr (by rw [← HS1.out]; exact h1)
  obtain ⟨ao', cap', rfl⟩ : ∃ ao' cap', v' = .slice ao' (L.length + 1) cap' := by
    rcases ho2.2 with ⟨_, h0⟩ | ⟨g, cap', cur, e0, _⟩
    · omega
    · exact ⟨_, _, e0⟩
  clear hg2 ho2 hb2
  go_wp2
  go_end0
  exact ⟨rfl, HE.out⟩

set_option maxRecDepth 100000 in
set_option maxHeartbeats 1000000 in
theorem popM_calls (wb : Nat) (v : Value) (L : List Tm) (x : Tm) (cs : Array Value) (w : World) (hb : w.heap[wb]? = some (.cells cs 60)) (hc : cs[3]? = some v) (h : PnAt w v (L ++ [x])) (hl : L.length + 1 ≤ 140737488355328) :
    Calls Try.prog 52 #[.pointer (some ⟨wb, 3, none⟩)] w fun e w' => e = .returned (.iface 61 (ptrT x)) ∧ ∃ v', PnAt w' v' L ∧ w'.heap[wb]? = some (.cells (cs.setIfInBounds 3 v') 60) ∧
      Frm (fun k => k = wb ∨ v.ownBlock = some k) w w' ∧ (∀ k, v'.ownBlock = some k → v.ownBlock = some k) ∧ w'.heap.size = w.heap.size := by
  have hlen : L.length < (L ++ [x]).length := by simp
  obtain ⟨g, cap, rfl, hm, hcap⟩ := h.at L.length hlen
  have c1 := h.cell L.length hlen
  have hgx : (L ++ [x])[L.length] = x := by simp
  rw [hgx] at c1
  have hll : (L ++ [x]).length = L.length + 1 := by simp
  rw [hll] at hcap hc h ⊢
  obtain ⟨cur, hg, hcs, htk⟩ : ∃ cur, w.heap[g]? = some (.cells cur 61) ∧ cur.size = cap ∧ cur.toList.take (L.length + 1) = (L ++ [x]).map ptrT := by
    rcases h.pend.2 with ⟨e0, _⟩ | ⟨g', cap', cur, e0, _, hg, _, _, h3, h4⟩
    · cases e0
    · simp only [Value.slice.injEq, Option.some.injEq, Addr.mk.injEq] at e0
      obtain ⟨⟨rfl, _⟩, _, rfl⟩ := e0
      exact ⟨cur, hg, by simpa using h3, by simpa using h4⟩
  have hwg : wb ≠ g := fun e => by
    rw [e] at hb
    have := hb.symm.trans hg
    simp at this
  have f1 : w.frozen? ⟨g, L.length, none⟩ = false := frozen_blkT hg
  have c0 : w.cell? ⟨wb, 3, none⟩ = some (.slice (some ⟨g, 0, none⟩) (L.length + 1) cap) := by rw [cell_blkT hb]; exact hc
  obtain ⟨w1, HW1⟩ : ∃ w1, Hid (w1 = w.setCell ⟨g, L.length, none⟩ (.pointer none)) := ⟨_, rfl⟩
  have hb1 : w1.heap[wb]? = some (.cells cs 60) := by
    rw [HW1.out]; exact (heap_setCell_other _ _ _ _ (by exact hwg)).trans hb
  have d0 : w1.cell? ⟨wb, 3, none⟩ = some (.slice (some ⟨g, 0, none⟩) (L.length + 1) cap) := by rw [cell_blkT hb1]; exact hc
  have d1 : w1.frozen? ⟨wb, 3, none⟩ = false := frozen_blkT hb1
  have HE : Hid (∃ v', v' = .slice (some ⟨g, 0, none⟩) L.length cap ∧ PnAt (w1.setCell ⟨wb, 3, none⟩ v') v' L ∧ (w1.setCell ⟨wb, 3, none⟩ v').heap[wb]? = some (.cells (cs.setIfInBounds 3 v') 60) ∧
      Frm (fun k => k = wb ∨ (Value.slice (some ⟨g, 0, none⟩) (L.length + 1) cap).ownBlock = some k) w (w1.setCell ⟨wb, 3, none⟩ v') ∧ (∀ k, v'.ownBlock = some k → (Value.slice (some ⟨g, 0, none⟩) (L.length + 1) cap).ownBlock = some k) ∧ (w1.setCell ⟨wb, 3, none⟩ v').heap.size = w.heap.size) := by
    refine ⟨_, rfl, ⟨⟨by simp, .inr ⟨g, cap, cur.setIfInBounds L.length (.pointer none), rfl, Nat.zero_le _, ?_, by omega, hm, by simpa using hcs, ?_⟩⟩, ?_⟩, heap_setCell_same _ _ _ _ _ _ hb1, ?_, fun k hk => by simpa [Value.ownBlock] using hk, by rw [HW1.out]; simp⟩
    · rw [heap_setCell_other _ _ _ _ (by exact hwg.symm), HW1.out]
      exact heap_setCell_same _ _ _ _ _ _ hg
    · have : cur.toList.take L.length = L.map ptrT := by
        have e1 : (cur.toList.take (L.length + 1)).take L.length = cur.toList.take L.length := by rw [List.take_take]; congr 1; omega
        rw [← e1, htk]
        simp
      rw [Array.toList_setIfInBounds, Nat.mul_one, List.take_set, this]
      rw [List.set_eq_of_length_le (by simp)]
    · intro i y hy
      have hy' : (L ++ [x])[i]? = some y := by rw [List.getElem?_append_left (List.getElem?_eq_some_iff.1 hy).1]; exact hy
      have ht := h.tms i y hy'
      have n1 : y.b ≠ g := fun e => h.apart (List.mem_of_getElem? hy') (by simp [Value.ownBlock, e])
      have n2 : y.b ≠ wb := fun e => by
        rw [e] at ht
        have := hb.symm.trans ht
        simp at this
      rw [heap_setCell_other _ _ _ _ (by exact n2), HW1.out]
      exact (heap_setCell_other _ _ _ _ (by exact n1)).trans ht
    · rw [HW1.out]
      exact ((Frm.refl _ w).setCell _ _ (.inl (.inr rfl))).setCell _ _ (.inl (.inl rfl))
  have ew : wrap64 ((L.length : Int) + 1 - 1) = (L.length : Int) := by unfold wrap64; omega
  unfold ptrT at c1 ⊢
  clear hb hb1 h hg htk hcs hwg hgx hll hlen
  go_enter Try.func52, Try.ntmps52
  go_upto_region 4 with fail
  rw [← HW1.out]
  clear c0 c1 f1
  go_wp2
  go_ret
  obtain ⟨v', hv', hE⟩ := HE.out
  subst hv'
  exact ⟨rfl, _, hE⟩
end Go.Proofs.Ytedhjdkhfndinaa
