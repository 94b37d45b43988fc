/- Layer 14 (timers): the document's without (by gen_tiwout.py). -/
import Derived.Test.YtedhjdkhfndinaaTiRef
namespace Go.Proofs.Ytedhjdkhfndinaa
open Go.RowKit Go.MapKept
set_option linter.unusedVariables false

theorem infoU : (Try.prog.info? 26).map (fun i => (i.zero, i.size, i.bytes)) = some (some (.int .u64 0), 1, 8) := by kernel_rfl
theorem addT (b off j : Nat) : (⟨b, off, none⟩ : Addr).add j = ⟨b, off + j, none⟩ := by
  unfold Addr.add
  split <;> simp_all
theorem eraseIdx_tk (l : List Value) (i : Nat) : l.take i ++ l.drop (i + 1) = l.eraseIdx i := (List.eraseIdx_eq_take_drop_succ l i).symm
/-- append(s, more...), more lies anywhere. -/
theorem append_srcC (W : World) {ops : Array Oper} {rest : List Oper} {o : Oper} {a : Act} {Q : Exit → Act → World → Prop} (hgd : o.guard = none) (s x : Operand) (t e : TypeId) (z : Value) (bytes : Nat)
    (ht : Try.prog.underlying t = some (.slice e)) (hi : (Try.prog.info? e).map (fun i => (i.zero, i.size, i.bytes)) = some (some z, 1, bytes)) (hzs : z.cells.size = 1)
    (ho : o.op = .call { callee := .builtin .append, args := #[s, x], argTypes := #[t, t] })
    (B : Nat) (v : Value) (l : List Value) (hs : a.eval s = v) (hown : W.ownsRow B e 1 v l.length l) (ad : Addr) (m c : Nat) (news : List Value) (hx : a.eval x = .slice (some ad) m c) (hl : news.length = m) (hc : ∀ j u, news[j]? = some u → W.cell? (ad.add j) = some u) (h1 : ∀ u ∈ news, u.oneCell' = true)
    (hm : l.length + news.length ≤ 9223372036854775807) (hlen : (l.length + news.length) * bytes ≤ 140737488355328) (hB : B ≤ W.heap.size)
    (h : ∀ v' w', w'.ownsRow B e 1 v' (l ++ news).length (l ++ news) → Grew W w' v v' → wpList Try.prog ops Q rest (a.put o.dst v') w') : wpList Try.prog ops Q (o :: rest) a W := by
  obtain ⟨i0, hi, hz0, hz1, hz2⟩ := infoOfT hi
  refine wpList_append_grew W hgd s x t ho B e i0 z 1 bytes ht hi hz0 hz1 hz2 hzs (by decide) v l.length l hs hown ad m c news hx (by omega) hc h1 (by unfold maxLen; omega) (by rw [← hl]; exact hlen) hB ?_
  intro v' w' h1 h2 _
  refine h v' w' ?_ h2
  rw [List.length_append, hl]
  exact h1

set_option maxRecDepth 100000 in
set_option maxHeartbeats 1000000 in
theorem rwithout_calls (now most : Int) (vi va : Value) (li la : List Int) (i : Nat) (w : World) (hl : li.length * 8 ≤ 140737488355328) (hll : la.length = li.length) (hi : RowI w vi li) (ha : RowU w va la) (hik : i < li.length) :
    Calls Try.prog 24 #[refV now most vi va, .int .i64 (i : Int)] w fun e w' => ∃ vi' va', e = .returned (refV now most vi' va') ∧ RowI w' vi' (li.eraseIdx i) ∧ RowU w' va' (la.eraseIdx i) ∧ Below w.heap.size w w' ∧ (∀ k, vi'.ownBlock = some k → w.heap.size ≤ k) ∧ (∀ k, va'.ownBlock = some k → w.heap.size ≤ k) := by
  obtain ⟨aoi, ci, rfl, hlci, hcmi, hcelli⟩ := hi.shape
  obtain ⟨aoa, ca, rfl, hlca, hcma, hcella⟩ := ha.shape
  obtain ⟨gi, rfl, qi⟩ := hcelli i hik
  obtain ⟨ga, rfl, qa⟩ := hcella i (by omega)
  clear qi qa
  have HI : Hid (RowI w (.slice (some ⟨gi, 0, none⟩) li.length ci) li) := hi
  have HA : Hid (RowU w (.slice (some ⟨ga, 0, none⟩) la.length ca) la) := ha
  rw [hll] at hlca HA ⊢
  obtain ⟨n, Hn⟩ : ∃ n, Hid (n = li.length) := ⟨_, rfl⟩
  have HLL : Hid (la.length = n) := hll.trans Hn.out.symm
  rw [← Hn.out] at hl hlci hlca hik HI HA ⊢
  clear hi ha hcelli hcella hll
  obtain ⟨w1, HW1⟩ : ∃ w1, Hid (w1 = (w.alloc (.cells #[.int .u64 now, .int .i64 most, .slice (some ⟨gi, 0, none⟩) n ci, .slice (some ⟨ga, 0, none⟩) n ca] 30)).alloc (.cells #[.int .u64 0, .int .i64 0, .slice none 0 0, .slice none 0 0] 30)) := ⟨_, rfl⟩
  obtain ⟨pb, Hpb⟩ : ∃ pb, Hid (pb = w.heap.size) := ⟨_, rfl⟩
  have HB1 : Hid (Below w.heap.size w w1) := by rw [HW1.out]; exact ((Below.refl _ w).alloc (Nat.le_refl _) _).alloc (by simp [World.size_alloc]) _
  have HP1 : Hid (w1.heap[pb]? = some (.cells #[.int .u64 now, .int .i64 most, .slice (some ⟨gi, 0, none⟩) n ci, .slice (some ⟨ga, 0, none⟩) n ca] 30)) := by
    rw [HW1.out, Hpb.out, Below.heap_alloc _ _ _ (by simp [World.size_alloc])]; exact heap_alloc_new w _
  have HR1 : Hid (w1.heap[pb + 1]? = some (.cells #[.int .u64 0, .int .i64 0, .slice none 0 0, .slice none 0 0] 30) ∧ w1.heap.size = pb + 2) := by
    rw [HW1.out, Hpb.out]
    refine ⟨?_, by simp [World.size_alloc]⟩
    have := heap_alloc_new (w.alloc (.cells #[.int .u64 now, .int .i64 most, .slice (some ⟨gi, 0, none⟩) n ci, .slice (some ⟨ga, 0, none⟩) n ca] 30)) (.cells #[.int .u64 0, .int .i64 0, .slice none 0 0, .slice none 0 0] 30)
    simp only [World.size_alloc] at this
    exact this
  have hpw : w.heap.size ≤ pb := Nat.le_of_eq Hpb.out.symm
  go_enter Try.func24, Try.ntmps24
  unfold refV
  go_upto_region 1 with fail
  have hpb1 : w.heap.size + 1 = pb + 1 := by rw [Hpb.out]
  rw [← HW1.out, hpb1, ← Hpb.out]
  refine wp_region_inv 11 (fun i' v W => match i' with
    | 0 => ∃ g0, v = .slice (some ⟨g0, 0, none⟩) 0 0 ∧ w.heap.size ≤ g0 ∧ W.heap[g0]? = some (.cells #[] 3)
    | 1 => v = .pointer (some ⟨pb, 2, none⟩)
    | 2 => v = .slice (some ⟨gi, 0, none⟩) n ci
    | 3 => v = .int .i64 (i : Int)
    | 4 => v = .slice (some ⟨gi, 0, none⟩) i ci
    | 5 => W.ownsRow w.heap.size 3 1 v ((li.map (Value.int .i64)).take i).length ((li.map (Value.int .i64)).take i)
    | 6 => v = .pointer (some ⟨pb, 2, none⟩)
    | 7 => v = .slice (some ⟨gi, 0, none⟩) n ci
    | 8 => v = .int .i64 (i : Int)
    | 9 => v = .int .i64 ((i + 1 : Nat) : Int)
    | 10 => v = .slice (some ⟨gi, offS ci (i + 1), none⟩) (n - (i + 1)) (ci - (i + 1))
    | _ => False) (by kernel_rfl) (by kernel_rfl) (by kernel_rfl) [some 5, some 6, some 7, some 8, some 9, some 10, some 11, some 12, some 13, some 14, some 15] (by kernel_rfl) ?mono1 ?hop1 ?tail1
  case mono1 =>
    intro i' v W W' h hb
    match i', h with
    | 0, ⟨g0, h1, h2, h3⟩ => exact ⟨g0, h1, h2, (hb.block _ (lt_of_heapT h3)).trans h3⟩
    | 1, h => exact h
    | 2, h => exact h
    | 3, h => exact h
    | 4, h => exact h
    | 5, h => exact ownsRow_below h hb
    | 6, h => exact h
    | 7, h => exact h
    | 8, h => exact h
    | 9, h => exact h
    | 10, h => exact h
    | k + 11, h => exact h
  case hop1 =>
    intro i' o hi' ho a W hB hs hd
    have hBw : Below w.heap.size w W := HB1.out.trans (hB.mono HB1.out.size)
    have hsrcW : W.ownsRow 0 3 1 (.slice (some ⟨gi, 0, none⟩) n ci) n (li.map (Value.int .i64)) := by
      have := ownsRow_below HI.out hBw
      rw [show (li.map (Value.int .i64)).length = n from by rw [List.length_map]; exact Hn.out.symm] at this
      exact this
    match i', hi', ho, hd with
    | 0, _, ho, hd =>
      obtain rfl := Option.some.inj ho
      exact f_build0 (.inl ⟨rfl, rfl⟩) rfl ⟨_, rfl, ⟨W.heap.size, rfl, hBw.size, heap_alloc_new W _⟩, (Below.refl _ W).alloc (Nat.le_refl _) _⟩
    | 1, _, ho, hd =>
      obtain rfl := Option.some.inj ho
      exact f_fldR 2 (by decide) rfl ((hs 2 (by kernel_rfl)).trans rfl) ⟨_, rfl, rfl, Below.refl _ _⟩
    | 2, _, ho, hd =>
      obtain rfl := Option.some.inj ho
      exact f_loadS (.inl rfl) rfl (hd 1 6 (by kernel_rfl) (by kernel_rfl)) (by rw [cell_blkT ((hB.block _ (lt_of_heapT HP1.out)).trans HP1.out)]; rfl) ⟨_, rfl, rfl, Below.refl _ _⟩
    | 3, _, ho, hd =>
      obtain rfl := Option.some.inj ho
      exact f_move rfl ((hs 1 (by kernel_rfl)).trans rfl) ⟨_, rfl, rfl, Below.refl _ _⟩
    | 4, _, ho, hd =>
      obtain rfl := Option.some.inj ho
      exact f_sliceTo (.inl rfl) rfl (hd 2 7 (by kernel_rfl) (by kernel_rfl)) (hd 3 8 (by kernel_rfl) (by kernel_rfl)) (by omega) (by assumption) ⟨_, rfl, rfl, Below.refl _ _⟩
    | 5, _, ho, hd =>
      obtain rfl := Option.some.inj ho
      obtain ⟨g0, h1, h2, h3⟩ := hd 0 5 (by kernel_rfl) (by kernel_rfl)
      refine f_append0 Try.underlying27 infoI rfl rfl (news := (li.map (Value.int .i64)).take i) h1 (hd 4 9 (by kernel_rfl) (by kernel_rfl)) (by simp; rw [← Hn.out]; omega) ?_ ?_ (by omega) h3 w.heap.size h2 ?_
      · intro j u hu
        refine ⟨_, rfl, ?_⟩
        have hj := (List.getElem?_eq_some_iff.1 hu).1
        simp at hj
        rw [List.getElem?_take_of_lt (by omega)] at hu
        have := World.ownsRow.cellAt hsrcW j (by omega)
        rw [hu] at this
        rw [addT, Nat.zero_add]
        exact this
      · intro u hu
        obtain ⟨q, _, rfl⟩ := List.mem_map.1 (List.mem_of_mem_take hu)
        rfl
      · intro v1 w' ho hb
        exact ⟨_, rfl, ho, hb⟩
    | 6, _, ho, hd =>
      obtain rfl := Option.some.inj ho
      exact f_fldR 2 (by decide) rfl ((hs 2 (by kernel_rfl)).trans rfl) ⟨_, rfl, rfl, Below.refl _ _⟩
    | 7, _, ho, hd =>
      obtain rfl := Option.some.inj ho
      exact f_loadS (.inl rfl) rfl (hd 6 11 (by kernel_rfl) (by kernel_rfl)) (by rw [cell_blkT ((hB.block _ (lt_of_heapT HP1.out)).trans HP1.out)]; rfl) ⟨_, rfl, rfl, Below.refl _ _⟩
    | 8, _, ho, hd =>
      obtain rfl := Option.some.inj ho
      exact f_move rfl ((hs 1 (by kernel_rfl)).trans rfl) ⟨_, rfl, rfl, Below.refl _ _⟩
    | 9, _, ho, hd =>
      obtain rfl := Option.some.inj ho
      exact f_addOne rfl (hd 8 13 (by kernel_rfl) (by kernel_rfl)) (by omega) ⟨_, rfl, rfl, Below.refl _ _⟩
    | 10, _, ho, hd =>
      obtain rfl := Option.some.inj ho
      exact f_sliceFrom (.inl rfl) rfl (hd 7 12 (by kernel_rfl) (by kernel_rfl)) (hd 9 14 (by kernel_rfl) (by kernel_rfl)) (by omega) (by assumption) (by assumption) ⟨_, rfl, rfl, Below.refl _ _⟩
    | k + 11, hi', _, _ => exact absurd hi' (by omega)
  case tail1 =>
    intro vs W hB hR
    have r5 : W.ownsRow w.heap.size 3 1 (vs 5) ((li.map (Value.int .i64)).take i).length ((li.map (Value.int .i64)).take i) := hR 5 (by decide)
    have r10 : vs 10 = .slice (some ⟨gi, offS ci (i + 1), none⟩) (n - (i + 1)) (ci - (i + 1)) := hR 10 (by decide)
    have hBw : Below w.heap.size w W := HB1.out.trans (hB.mono HB1.out.size)
    have hsrcW : W.ownsRow 0 3 1 (.slice (some ⟨gi, 0, none⟩) n ci) n (li.map (Value.int .i64)) := by
      have := ownsRow_below HI.out hBw
      rw [show (li.map (Value.int .i64)).length = n from by rw [List.length_map]; exact Hn.out.symm] at this
      exact this
    have HPW : Hid (W.heap[pb]? = some (.cells #[.int .u64 now, .int .i64 most, .slice (some ⟨gi, 0, none⟩) n ci, .slice (some ⟨ga, 0, none⟩) n ca] 30)) := (hB.block _ (lt_of_heapT HP1.out)).trans HP1.out
    have HRW : Hid (W.heap[pb + 1]? = some (.cells #[.int .u64 0, .int .i64 0, .slice none 0 0, .slice none 0 0] 30)) := (hB.block _ (lt_of_heapT HR1.out.1)).trans HR1.out.1
    have HLEN : Hid ((li.map (Value.int .i64)).length = n) := by show (li.map (Value.int .i64)).length = n; rw [List.length_map]; exact Hn.out.symm
    have HSRC : Hid (∀ j u, ((li.map (Value.int .i64)).drop (i + 1))[j]? = some u → W.cell? ((⟨gi, offS ci (i + 1), none⟩ : Addr).add j) = some u) := by
      intro j u hu
      have hj := (List.getElem?_eq_some_iff.1 hu).1
      rw [List.length_drop, HLEN.out] at hj
      rw [List.getElem?_drop] at hu
      have := World.ownsRow.cellAt hsrcW (i + 1 + j) (by omega)
      rw [hu] at this
      rw [offS, if_neg (by omega), addT]
      exact this
    have hbs : w.heap.size ≤ W.heap.size := hBw.size
    have htl : ((li.map (Value.int .i64)).take i).length = i := by rw [List.length_take, HLEN.out]; omega
    have hdl : ((li.map (Value.int .i64)).drop (i + 1)).length = n - (i + 1) := by rw [List.length_drop, HLEN.out]
    have HBW : Hid (Below w.heap.size w W) := hBw
    have HONE : Hid (∀ u ∈ (li.map (Value.int .i64)).drop (i + 1), u.oneCell' = true) := by
      intro u hu
      obtain ⟨q, _, rfl⟩ := List.mem_map.1 (List.mem_of_mem_drop hu)
      rfl
    have HR5 : Hid (W.ownsRow w.heap.size 3 1 (vs 5) ((li.map (Value.int .i64)).take i).length ((li.map (Value.int .i64)).take i)) := r5
    clear hB hR hsrcW hBw r5
    simp only [putL, put_lit, List.setIfInBounds_toArray, List.set_cons_succ, List.set_cons_zero, List.drop_succ_cons, List.drop_zero]
    rw [r10]
    go_wp2_with (at_builtin; refine append_srcC _ rfl (.tmp 10) (.tmp 15) 27 3 (.int .i64 0) 8 Try.underlying27 infoI rfl rfl w.heap.size _ _ rfl HR5.out _ _ _ _ rfl hdl HSRC.out HONE.out (by rw [htl, hdl]; omega) (by rw [htl, hdl]; omega) hbs ?_)
    intro v1 w2 ho hg
    have HO : Hid (w2.ownsRow w.heap.size 3 1 v1 ((li.eraseIdx i).map (Value.int .i64)).length ((li.eraseIdx i).map (Value.int .i64))) := by
      show w2.ownsRow w.heap.size 3 1 v1 ((li.eraseIdx i).map (Value.int .i64)).length ((li.eraseIdx i).map (Value.int .i64))
      rw [← eraseIdx_mapT, ← eraseIdx_tk, List.length_append, htl, hdl]
      exact ho
    have hPne : ∀ (q : Nat) (cs : Array Value), W.heap[q]? = some (.cells cs 30) → w2.heap[q]? = some (.cells cs 30) := fun q cs hq => (hg.grown.block q (lt_of_heapT hq) (fun e => by
      rcases HR5.out.2 with ⟨e0, _⟩ | ⟨g0, cap0, cur0, e0, _, hg0, _⟩
      · rw [e0] at e; cases e
      · rw [e0] at e
        simp [Value.ownBlock] at e
        rw [← e, hq] at hg0
        simp at hg0)).trans hq
    have hP := hPne _ _ HPW.out
    have hRb := hPne _ _ HRW.out
    have cP : w2.cell? ⟨pb, 2, none⟩ = some (.slice (some ⟨gi, 0, none⟩) n ci) := by rw [cell_blkT hP]; rfl
    have fP : w2.frozen? ⟨pb, 2, none⟩ = false := frozen_blkT hP
    obtain ⟨ao1, c1, hv1⟩ := ownsRow_len HO.out
    obtain ⟨NN1, HNN1⟩ : ∃ N, Hid (N = ((li.eraseIdx i).map (Value.int .i64)).length) := ⟨_, rfl⟩
    rw [← HNN1.out] at hv1
    have hBn : Below w.heap.size w w2 := HBW.out.trans ((hg.toBelow hbs (fun q hq => (World.ownsRow.lt HR5.out q hq).1)))
    obtain ⟨w1d, HWd1⟩ : ∃ wd, Hid (wd = w2.setCell ⟨pb, 2, none⟩ v1) := ⟨_, rfl⟩
    have HBd1 : Hid (Below w.heap.size w w1d) := by rw [HWd1.out]; exact hBn.setCell (p := ⟨pb, 2, none⟩) hpw v1
    have HOd1 : Hid (w1d.ownsRow w.heap.size 3 1 v1 ((li.eraseIdx i).map (Value.int .i64)).length ((li.eraseIdx i).map (Value.int .i64))) := by
      rw [HWd1.out]
      refine ownsRow_keep HO.out (fun q hq => heap_setCell_other _ _ _ _ (fun e => ?_))
      have e' : q = pb := e
      rcases HO.out.2 with ⟨e0, _⟩ | ⟨g0, cap0, cur0, e0, _, hg0, _⟩
      · rw [e0] at hq; cases hq
      · rw [e0] at hq
        simp [Value.ownBlock] at hq
        rw [hq, e', hP] at hg0
        simp at hg0
    have HPd1 : Hid (w1d.heap[pb]? = some (.cells #[.int .u64 now, .int .i64 most, v1, .slice (some ⟨ga, 0, none⟩) n ca] 30)) := by
      rw [HWd1.out, heap_setCell_same _ _ _ _ _ _ hP]; rfl
    have HRd1 : Hid (w1d.heap[pb + 1]? = some (.cells #[.int .u64 0, .int .i64 0, .slice none 0 0, .slice none 0 0] 30)) := by
      rw [HWd1.out]; exact (heap_setCell_other _ _ _ _ (by exact Nat.succ_ne_self pb)).trans hRb
    subst hv1
    clear ho hg HO hPne hBn hRb HSRC HONE HR5
    go_wp2_with fail
    rw [← HWd1.out]
    clear cP fP hP
    refine wp_region_inv 11 (fun i' v W => match i' with
      | 0 => ∃ g0, v = .slice (some ⟨g0, 0, none⟩) 0 0 ∧ w.heap.size ≤ g0 ∧ W.heap[g0]? = some (.cells #[] 26)
      | 1 => v = .pointer (some ⟨pb, 3, none⟩)
      | 2 => v = .slice (some ⟨ga, 0, none⟩) n ca
      | 3 => v = .int .i64 (i : Int)
      | 4 => v = .slice (some ⟨ga, 0, none⟩) i ca
      | 5 => W.ownsRow w.heap.size 26 1 v ((la.map (Value.int .u64)).take i).length ((la.map (Value.int .u64)).take i)
      | 6 => v = .pointer (some ⟨pb, 3, none⟩)
      | 7 => v = .slice (some ⟨ga, 0, none⟩) n ca
      | 8 => v = .int .i64 (i : Int)
      | 9 => v = .int .i64 ((i + 1 : Nat) : Int)
      | 10 => v = .slice (some ⟨ga, offS ca (i + 1), none⟩) (n - (i + 1)) (ca - (i + 1))
      | _ => False) (by kernel_rfl) (by kernel_rfl) (by kernel_rfl) [some 18, some 19, some 20, some 21, some 22, some 23, some 24, some 25, some 26, some 27, some 28] (by kernel_rfl) ?mono2 ?hop2 ?tail2
    case mono2 =>
      intro i' v W W' h hb
      match i', h with
      | 0, ⟨g0, h1, h2, h3⟩ => exact ⟨g0, h1, h2, (hb.block _ (lt_of_heapT h3)).trans h3⟩
      | 1, h => exact h
      | 2, h => exact h
      | 3, h => exact h
      | 4, h => exact h
      | 5, h => exact ownsRow_below h hb
      | 6, h => exact h
      | 7, h => exact h
      | 8, h => exact h
      | 9, h => exact h
      | 10, h => exact h
      | k + 11, h => exact h
    case hop2 =>
      intro i' o hi' ho a W hB hs hd
      have hBw : Below w.heap.size w W := HBd1.out.trans (hB.mono HBd1.out.size)
      have hsrcW : W.ownsRow 0 26 1 (.slice (some ⟨ga, 0, none⟩) n ca) n (la.map (Value.int .u64)) := by
        have := ownsRow_below HA.out hBw
        rw [show (la.map (Value.int .u64)).length = n from by rw [List.length_map]; exact HLL.out] at this
        exact this
      match i', hi', ho, hd with
      | 0, _, ho, hd =>
        obtain rfl := Option.some.inj ho
        exact f_build0 (.inr ⟨rfl, rfl⟩) rfl ⟨_, rfl, ⟨W.heap.size, rfl, hBw.size, heap_alloc_new W _⟩, (Below.refl _ W).alloc (Nat.le_refl _) _⟩
      | 1, _, ho, hd =>
        obtain rfl := Option.some.inj ho
        exact f_fldR 3 (by decide) rfl ((hs 2 (by kernel_rfl)).trans rfl) ⟨_, rfl, rfl, Below.refl _ _⟩
      | 2, _, ho, hd =>
        obtain rfl := Option.some.inj ho
        exact f_loadS (.inr rfl) rfl (hd 1 19 (by kernel_rfl) (by kernel_rfl)) (by rw [cell_blkT ((hB.block _ (lt_of_heapT HPd1.out)).trans HPd1.out)]; rfl) ⟨_, rfl, rfl, Below.refl _ _⟩
      | 3, _, ho, hd =>
        obtain rfl := Option.some.inj ho
        exact f_move rfl ((hs 1 (by kernel_rfl)).trans rfl) ⟨_, rfl, rfl, Below.refl _ _⟩
      | 4, _, ho, hd =>
        obtain rfl := Option.some.inj ho
        exact f_sliceTo (.inr rfl) rfl (hd 2 20 (by kernel_rfl) (by kernel_rfl)) (hd 3 21 (by kernel_rfl) (by kernel_rfl)) (by omega) (by assumption) ⟨_, rfl, rfl, Below.refl _ _⟩
      | 5, _, ho, hd =>
        obtain rfl := Option.some.inj ho
        obtain ⟨g0, h1, h2, h3⟩ := hd 0 18 (by kernel_rfl) (by kernel_rfl)
        refine f_append0 Try.underlying28 infoU rfl rfl (news := (la.map (Value.int .u64)).take i) h1 (hd 4 22 (by kernel_rfl) (by kernel_rfl)) (by simp; rw [HLL.out]; omega) ?_ ?_ (by omega) h3 w.heap.size h2 ?_
        · intro j u hu
          refine ⟨_, rfl, ?_⟩
          have hj := (List.getElem?_eq_some_iff.1 hu).1
          simp at hj
          rw [List.getElem?_take_of_lt (by omega)] at hu
          have := World.ownsRow.cellAt hsrcW j (by omega)
          rw [hu] at this
          rw [addT, Nat.zero_add]
          exact this
        · intro u hu
          obtain ⟨q, _, rfl⟩ := List.mem_map.1 (List.mem_of_mem_take hu)
          rfl
        · intro v2 w' ho hb
          exact ⟨_, rfl, ho, hb⟩
      | 6, _, ho, hd =>
        obtain rfl := Option.some.inj ho
        exact f_fldR 3 (by decide) rfl ((hs 2 (by kernel_rfl)).trans rfl) ⟨_, rfl, rfl, Below.refl _ _⟩
      | 7, _, ho, hd =>
        obtain rfl := Option.some.inj ho
        exact f_loadS (.inr rfl) rfl (hd 6 24 (by kernel_rfl) (by kernel_rfl)) (by rw [cell_blkT ((hB.block _ (lt_of_heapT HPd1.out)).trans HPd1.out)]; rfl) ⟨_, rfl, rfl, Below.refl _ _⟩
      | 8, _, ho, hd =>
        obtain rfl := Option.some.inj ho
        exact f_move rfl ((hs 1 (by kernel_rfl)).trans rfl) ⟨_, rfl, rfl, Below.refl _ _⟩
      | 9, _, ho, hd =>
        obtain rfl := Option.some.inj ho
        exact f_addOne rfl (hd 8 26 (by kernel_rfl) (by kernel_rfl)) (by omega) ⟨_, rfl, rfl, Below.refl _ _⟩
      | 10, _, ho, hd =>
        obtain rfl := Option.some.inj ho
        exact f_sliceFrom (.inr rfl) rfl (hd 7 25 (by kernel_rfl) (by kernel_rfl)) (hd 9 27 (by kernel_rfl) (by kernel_rfl)) (by omega) (by assumption) (by assumption) ⟨_, rfl, rfl, Below.refl _ _⟩
      | k + 11, hi', _, _ => exact absurd hi' (by omega)
    case tail2 =>
      intro vs W hB hR
      have r5 : W.ownsRow w.heap.size 26 1 (vs 5) ((la.map (Value.int .u64)).take i).length ((la.map (Value.int .u64)).take i) := hR 5 (by decide)
      have r10 : vs 10 = .slice (some ⟨ga, offS ca (i + 1), none⟩) (n - (i + 1)) (ca - (i + 1)) := hR 10 (by decide)
      have hBw : Below w.heap.size w W := HBd1.out.trans (hB.mono HBd1.out.size)
      have hsrcW : W.ownsRow 0 26 1 (.slice (some ⟨ga, 0, none⟩) n ca) n (la.map (Value.int .u64)) := by
        have := ownsRow_below HA.out hBw
        rw [show (la.map (Value.int .u64)).length = n from by rw [List.length_map]; exact HLL.out] at this
        exact this
      have HPW : Hid (W.heap[pb]? = some (.cells #[.int .u64 now, .int .i64 most, .slice ao1 NN1 c1, .slice (some ⟨ga, 0, none⟩) n ca] 30)) := (hB.block _ (lt_of_heapT HPd1.out)).trans HPd1.out
      have HRW : Hid (W.heap[pb + 1]? = some (.cells #[.int .u64 0, .int .i64 0, .slice none 0 0, .slice none 0 0] 30)) := (hB.block _ (lt_of_heapT HRd1.out)).trans HRd1.out
      have HLEN : Hid ((la.map (Value.int .u64)).length = n) := by show (la.map (Value.int .u64)).length = n; rw [List.length_map]; exact HLL.out
      have HSRC : Hid (∀ j u, ((la.map (Value.int .u64)).drop (i + 1))[j]? = some u → W.cell? ((⟨ga, offS ca (i + 1), none⟩ : Addr).add j) = some u) := by
        intro j u hu
        have hj := (List.getElem?_eq_some_iff.1 hu).1
        rw [List.length_drop, HLEN.out] at hj
        rw [List.getElem?_drop] at hu
        have := World.ownsRow.cellAt hsrcW (i + 1 + j) (by omega)
        rw [hu] at this
        rw [offS, if_neg (by omega), addT]
        exact this
      have hbs : w.heap.size ≤ W.heap.size := hBw.size
      have htl : ((la.map (Value.int .u64)).take i).length = i := by rw [List.length_take, HLEN.out]; omega
      have hdl : ((la.map (Value.int .u64)).drop (i + 1)).length = n - (i + 1) := by rw [List.length_drop, HLEN.out]
      have HBW : Hid (Below w.heap.size w W) := hBw
      have HQB : Hid (Below w1d.heap.size w1d W) := hB
      have HONE : Hid (∀ u ∈ (la.map (Value.int .u64)).drop (i + 1), u.oneCell' = true) := by
        intro u hu
        obtain ⟨q, _, rfl⟩ := List.mem_map.1 (List.mem_of_mem_drop hu)
        rfl
      have HR5 : Hid (W.ownsRow w.heap.size 26 1 (vs 5) ((la.map (Value.int .u64)).take i).length ((la.map (Value.int .u64)).take i)) := r5
      clear hB hR hsrcW hBw r5
      simp only [putL, put_lit, List.setIfInBounds_toArray, List.set_cons_succ, List.set_cons_zero, List.drop_succ_cons, List.drop_zero]
      rw [r10]
      go_wp2_with (at_builtin; refine append_srcC _ rfl (.tmp 23) (.tmp 28) 28 26 (.int .u64 0) 8 Try.underlying28 infoU rfl rfl w.heap.size _ _ rfl HR5.out _ _ _ _ rfl hdl HSRC.out HONE.out (by rw [htl, hdl]; omega) (by rw [htl, hdl]; omega) hbs ?_)
      intro v2 w3 ho hg
      have HO : Hid (w3.ownsRow w.heap.size 26 1 v2 ((la.eraseIdx i).map (Value.int .u64)).length ((la.eraseIdx i).map (Value.int .u64))) := by
        show w3.ownsRow w.heap.size 26 1 v2 ((la.eraseIdx i).map (Value.int .u64)).length ((la.eraseIdx i).map (Value.int .u64))
        rw [← eraseIdx_mapT, ← eraseIdx_tk, List.length_append, htl, hdl]
        exact ho
      have hPne : ∀ (q : Nat) (cs : Array Value), W.heap[q]? = some (.cells cs 30) → w3.heap[q]? = some (.cells cs 30) := fun q cs hq => (hg.grown.block q (lt_of_heapT hq) (fun e => by
        rcases HR5.out.2 with ⟨e0, _⟩ | ⟨g0, cap0, cur0, e0, _, hg0, _⟩
        · rw [e0] at e; cases e
        · rw [e0] at e
          simp [Value.ownBlock] at e
          rw [← e, hq] at hg0
          simp at hg0)).trans hq
      have hP := hPne _ _ HPW.out
      have hRb := hPne _ _ HRW.out
      have cP : w3.cell? ⟨pb, 3, none⟩ = some (.slice (some ⟨ga, 0, none⟩) n ca) := by rw [cell_blkT hP]; rfl
      have fP : w3.frozen? ⟨pb, 3, none⟩ = false := frozen_blkT hP
      obtain ⟨ao2, c2, hv2⟩ := ownsRow_len HO.out
      obtain ⟨NN2, HNN2⟩ : ∃ N, Hid (N = ((la.eraseIdx i).map (Value.int .u64)).length) := ⟨_, rfl⟩
      rw [← HNN2.out] at hv2
      have hBn : Below w.heap.size w w3 := HBW.out.trans ((hg.toBelow hbs (fun q hq => (World.ownsRow.lt HR5.out q hq).1)))
      obtain ⟨w2d, HWd2⟩ : ∃ wd, Hid (wd = w3.setCell ⟨pb, 3, none⟩ v2) := ⟨_, rfl⟩
      have HBd2 : Hid (Below w.heap.size w w2d) := by rw [HWd2.out]; exact hBn.setCell (p := ⟨pb, 3, none⟩) hpw v2
      have HOd2 : Hid (w2d.ownsRow w.heap.size 26 1 v2 ((la.eraseIdx i).map (Value.int .u64)).length ((la.eraseIdx i).map (Value.int .u64))) := by
        rw [HWd2.out]
        refine ownsRow_keep HO.out (fun q hq => heap_setCell_other _ _ _ _ (fun e => ?_))
        have e' : q = pb := e
        rcases HO.out.2 with ⟨e0, _⟩ | ⟨g0, cap0, cur0, e0, _, hg0, _⟩
        · rw [e0] at hq; cases hq
        · rw [e0] at hq
          simp [Value.ownBlock] at hq
          rw [hq, e', hP] at hg0
          simp at hg0
      have HPd2 : Hid (w2d.heap[pb]? = some (.cells #[.int .u64 now, .int .i64 most, .slice ao1 NN1 c1, v2] 30)) := by
        rw [HWd2.out, heap_setCell_same _ _ _ _ _ _ hP]; rfl
      have HRd2 : Hid (w2d.heap[pb + 1]? = some (.cells #[.int .u64 0, .int .i64 0, .slice none 0 0, .slice none 0 0] 30)) := by
        rw [HWd2.out]; exact (heap_setCell_other _ _ _ _ (by exact Nat.succ_ne_self pb)).trans hRb
      have HOI : Hid (w2d.ownsRow w.heap.size 3 1 (.slice ao1 NN1 c1) ((li.eraseIdx i).map (Value.int .i64)).length ((li.eraseIdx i).map (Value.int .i64))) := by
        have h0 := ownsRow_below HOd1.out HQB.out
        have hty : ∀ q, (Value.slice ao1 NN1 c1).ownBlock = some q → ∃ cs, W.heap[q]? = some (.cells cs 3) := fun q hq => by
          rcases h0.2 with ⟨e0, _⟩ | ⟨g0, cap0, cur0, e0, _, hg0, _⟩
          · rw [e0] at hq; cases hq
          · rw [e0] at hq
            simp [Value.ownBlock] at hq
            exact ⟨cur0, by rw [← hq]; exact hg0⟩
        have h1 : w3.ownsRow w.heap.size 3 1 (.slice ao1 NN1 c1) ((li.eraseIdx i).map (Value.int .i64)).length ((li.eraseIdx i).map (Value.int .i64)) := ownsRow_keep h0 (fun q hq => hg.grown.block q (World.ownsRow.lt h0 q hq).2 (fun e => by
          obtain ⟨cs, hcs⟩ := hty q hq
          rcases HR5.out.2 with ⟨e0, _⟩ | ⟨g0, cap0, cur0, e0, _, hg0, _⟩
          · rw [e0] at e; cases e
          · rw [e0] at e
            simp [Value.ownBlock] at e
            rw [← e, hcs] at hg0
            simp at hg0))
        rw [HWd2.out]
        refine ownsRow_keep h1 (fun q hq => heap_setCell_other _ _ _ _ (fun e => ?_))
        have e' : q = pb := e
        obtain ⟨cs, hcs⟩ := hty q hq
        rw [e', HPW.out] at hcs
        simp at hcs
      subst hv2
      have HFIN : Hid (∀ w4, Below w.heap.size w w4 → (∀ q, q ≠ pb + 1 → w4.heap[q]? = w2d.heap[q]?) → ∃ vi' va', Ending.returned (refV now most (.slice ao1 NN1 c1) (.slice ao2 NN2 c2)) = .returned (refV now most vi' va') ∧ RowI w4 vi' (li.eraseIdx i) ∧ RowU w4 va' (la.eraseIdx i) ∧ Below w.heap.size w w4 ∧ (∀ k, vi'.ownBlock = some k → w.heap.size ≤ k) ∧ (∀ k, va'.ownBlock = some k → w.heap.size ≤ k)) := by
        intro w4 hb4 hk4
        have hI4 := ownsRow_keep HOI.out (fun q hq => hk4 q (fun e => by
          rcases HOI.out.2 with ⟨e0, _⟩ | ⟨g0, cap0, cur0, e0, _, hg0, _⟩
          · rw [e0] at hq; cases hq
          · rw [e0] at hq
            simp [Value.ownBlock] at hq
            rw [hq, e, HRd2.out] at hg0
            simp at hg0))
        have hA4 := ownsRow_keep HOd2.out (fun q hq => hk4 q (fun e => by
          rcases HOd2.out.2 with ⟨e0, _⟩ | ⟨g0, cap0, cur0, e0, _, hg0, _⟩
          · rw [e0] at hq; cases hq
          · rw [e0] at hq
            simp [Value.ownBlock] at hq
            rw [hq, e, HRd2.out] at hg0
            simp at hg0))
        exact ⟨_, _, rfl, ⟨hI4.1, by
          rcases hI4.2 with h | ⟨g0, cap0, cur0, e0, _, r⟩
          · exact .inl h
          · exact .inr ⟨g0, cap0, cur0, e0, Nat.zero_le _, r⟩⟩, ⟨hA4.1, by
          rcases hA4.2 with h | ⟨g0, cap0, cur0, e0, _, r⟩
          · exact .inl h
          · exact .inr ⟨g0, cap0, cur0, e0, Nat.zero_le _, r⟩⟩, hb4, fun k hk => (World.ownsRow.lt hI4 k hk).1, fun k hk => (World.ownsRow.lt hA4 k hk).1⟩
      have d0 : w2d.cell? ⟨pb, 0, none⟩ = some (.int .u64 now) := by rw [cell_blkT HPd2.out]; rfl
      have d1 : w2d.cell? ⟨pb, 1, none⟩ = some (.int .i64 most) := by rw [cell_blkT HPd2.out]; rfl
      have d2 : w2d.cell? ⟨pb, 2, none⟩ = some (.slice ao1 NN1 c1) := by rw [cell_blkT HPd2.out]; rfl
      have d3 : w2d.cell? ⟨pb, 3, none⟩ = some (.slice ao2 NN2 c2) := by rw [cell_blkT HPd2.out]; rfl
      have q0 : w2d.cell? ⟨pb + 1, 0, none⟩ = some (.int .u64 0) := by rw [cell_blkT HRd2.out]; rfl
      have q1 : w2d.cell? ⟨pb + 1, 1, none⟩ = some (.int .i64 0) := by rw [cell_blkT HRd2.out]; rfl
      have q2 : w2d.cell? ⟨pb + 1, 2, none⟩ = some (.slice none 0 0) := by rw [cell_blkT HRd2.out]; rfl
      have q3 : w2d.cell? ⟨pb + 1, 3, none⟩ = some (.slice none 0 0) := by rw [cell_blkT HRd2.out]; rfl
      have f0 : ∀ k, w2d.frozen? ⟨pb + 1, k, none⟩ = false := fun k => frozen_blkT HRd2.out
      clear ho hg HO hPne hBn hRb HSRC HONE HR5
      go_upto_region 3 with fail
      rw [← HWd2.out]
      clear cP fP hP
      go_wp2
      obtain ⟨w4, HW4⟩ : ∃ w4, Hid (w4 = (((w2d.setCell ⟨pb + 1, 0, none⟩ (.int .u64 now)).setCell ⟨pb + 1, 1, none⟩ (.int .i64 most)).setCell ⟨pb + 1, 2, none⟩ (.slice ao1 NN1 c1)).setCell ⟨pb + 1, 3, none⟩ (.slice ao2 NN2 c2)) := ⟨_, rfl⟩
      rw [← HW4.out]
      have hw4 : w4.heap[pb + 1]? = some (.cells #[.int .u64 now, .int .i64 most, .slice ao1 NN1 c1, .slice ao2 NN2 c2] 30) := by
        rw [HW4.out, heap_setCell_same _ _ _ _ _ _ (heap_setCell_same _ _ _ _ _ _ (heap_setCell_same _ _ _ _ _ _ (heap_setCell_same _ _ _ _ _ _ HRd2.out)))]
        rfl
      have g0 : w4.cell? ⟨pb + 1, 0, none⟩ = some (.int .u64 now) := by rw [cell_blkT hw4]; rfl
      have g1 : w4.cell? ⟨pb + 1, 1, none⟩ = some (.int .i64 most) := by rw [cell_blkT hw4]; rfl
      have g2 : w4.cell? ⟨pb + 1, 2, none⟩ = some (.slice ao1 NN1 c1) := by rw [cell_blkT hw4]; rfl
      have g3 : w4.cell? ⟨pb + 1, 3, none⟩ = some (.slice ao2 NN2 c2) := by rw [cell_blkT hw4]; rfl
      refine bodyPost_ret (v := refV now most (.slice ao1 NN1 c1) (.slice ao2 NN2 c2)) (by simp [results, Try.results24, go_sem, refV, g0, g1, g2, g3]) rfl ?_
      refine HFIN.out w4 ?_ ?_
      · rw [HW4.out]
        exact (((HBd2.out.setCell (p := ⟨pb + 1, 0, none⟩) (Nat.le_succ_of_le hpw) _).setCell (p := ⟨pb + 1, 1, none⟩) (Nat.le_succ_of_le hpw) _).setCell (p := ⟨pb + 1, 2, none⟩) (Nat.le_succ_of_le hpw) _).setCell (p := ⟨pb + 1, 3, none⟩) (Nat.le_succ_of_le hpw) _
      · intro q hq
        rw [HW4.out, heap_setCell_other _ _ _ _ (by exact hq), heap_setCell_other _ _ _ _ (by exact hq), heap_setCell_other _ _ _ _ (by exact hq), heap_setCell_other _ _ _ _ (by exact hq)]
end Go.Proofs.Ytedhjdkhfndinaa
