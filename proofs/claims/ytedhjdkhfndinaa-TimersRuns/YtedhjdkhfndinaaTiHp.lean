/- Layer 14 (timers): container/heap's Push, Pop, Remove. -/
import Derived.Test.YtedhjdkhfndinaaTiPush
namespace Go.Proofs.Ytedhjdkhfndinaa
open Go.RowKit
set_option linter.unusedVariables false

theorem HpAll.push {L : List Tm} (h : HpAll L L.length) (x : Tm) : HpUp (L ++ [x]) (L.length + 1) L.length := by
  constructor
  · intro k k0 kn kne a b ha hb
    have hp := par_lt k0
    rw [List.getElem?_append_left (by omega)] at ha hb
    exact h k k0 (by omega) a b ha hb
  · intro k k0 kn kp
    have hp := par_lt k0
    omega
theorem HpAll.dn {L : List Tm} {n i : Nat} {x y : Tm} (h : HpAll L (n + 1)) (hx : L[i]? = some x) (hy : L[n]? = some y) (hi : i ≤ n) : HpDn (swapL L i n x y) n i i := by
  constructor
  · intro k k0 kn kp kk a b ha hb
    have hp := par_lt k0
    have hki : k ≠ i := by rcases kk with h | h; exact h; exact absurd rfl h
    rw [swap_at hx hy kp (by omega)] at ha
    rw [swap_at hx hy hki (by omega)] at hb
    exact h k k0 (by omega) a b ha hb
  · intro k k0 kn kp i0 a b ha hb
    have hp := par_lt k0
    have hpi := par_lt i0
    rw [swap_at hx hy (by omega) (by omega)] at ha
    rw [swap_at hx hy (by omega) (by omega)] at hb
    exact (h i i0 (by omega) a x ha hx).trans (h k k0 (by omega) x b (kp ▸ hx) hb)
theorem split_last {M : List Tm} {n : Nat} {x : Tm} (hl : M.length = n + 1) (hx : M[n]? = some x) : ∃ A, M = A ++ [x] ∧ A.length = n := by
  refine ⟨M.take n, ?_, by simp; omega⟩
  have h := List.take_append_drop n M
  have h2 : M.drop n = [x] := by
    apply List.ext_getElem?
    intro k
    rw [List.getElem?_drop]
    rcases Nat.eq_zero_or_pos k with rfl | hk
    · simpa using hx
    · rw [List.getElem?_eq_none (by omega), List.getElem?_eq_none (by simp; omega)]
  rw [← h2]; exact h.symm
theorem HpAll.cut {A : List Tm} {x : Tm} {n : Nat} (h : HpAll (A ++ [x]) n) (hn : A.length = n) : HpAll A A.length := by
  intro k k0 kn a b ha hb
  have hp := par_lt k0
  refine h k k0 (by omega) a b ?_ ?_
  · rw [List.getElem?_append_left (by omega)]; exact ha
  · rw [List.getElem?_append_left (by omega)]; exact hb

theorem HpI.blk {w : World} {wb n : Nat} {v : Value} {L M : List Tm} {wr : World} {cs : Array Value} (h : HpI w wb n v L M wr) (hP : PnAt w v L) (hb : w.heap[wb]? = some (.cells cs 60)) : wr.heap[wb]? = some (.cells cs 60) :=
  (h.frm.block wb (lt_of_heapT hb) (not_FT hP hb)).trans hb

set_option maxRecDepth 100000 in
set_option maxHeartbeats 1000000 in
theorem hpush_calls (wb p0 : Nat) (v : Value) (L : List Tm) (x : Tm) (cs : Array Value) (w : World) (hb : w.heap[wb]? = some (.cells cs 60)) (hc : cs[3]? = some v) (h : PnAt w v L) (hh : HpAll L L.length)
    (hx : w.heap[x.b]? = some (.cells (tcell x p0) 64)) (hne : ∀ y ∈ L, y.b ≠ x.b) (hl : (L.length + 1) * 8 ≤ 140737488355328) :
    Calls Try.prog 23 #[.iface 66 (.pointer (some ⟨wb, 3, none⟩)), .iface 61 (ptrT x)] w fun e w' => e = .returned (.tuple #[]) ∧ ∃ v' M, PnAt w' v' M ∧ M.Perm (L ++ [x]) ∧ HpAll M M.length ∧
      w'.heap[wb]? = some (.cells (cs.setIfInBounds 3 v') 60) ∧
      Frm (fun k => k = wb ∨ k = x.b ∨ FT v L k) w w' ∧ (∀ k, v'.ownBlock = some k → v.ownBlock = some k ∨ w.heap.size ≤ k) := by
  have HL := pushM_calls wb p0 v L x cs w hb hc h hx hne hl
  have HC : Hid (cs[3]? = some v) := hc
  have HU : Hid (HpUp (L ++ [x]) (L.length + 1) L.length) := hh.push x
  have HWB : Hid (wb < w.heap.size) := lt_of_heapT hb
  have hmt := meth_push w wb
  clear hb hc h hh hx hne
  go_enter Try.func23, Try.ntmps23
  go_wp2_with fail
  refine HL.mono ?_
  clear HL hmt
  rintro e w1 ⟨rfl, v1, hp1, hb1, hf1, hv1⟩
  obtain ⟨ao, cap, rfl, hml⟩ := hp1.len
  have hsz : 3 < cs.size := (Array.getElem?_eq_some_iff.1 HC.out).1
  have c1 : w1.cell? ⟨wb, 3, none⟩ = some (.slice ao (L ++ [x]).length cap) := by rw [cell_blkT hb1]; simp [hsz]
  have hll : (L ++ [x]).length = L.length + 1 := by simp
  have HU1 := up_calls wb (L.length + 1) L.length _ (L ++ [x]) w1 c1 hp1 (not_FT hp1 hb1) (by omega) (by omega) (by omega) HU.out
  have hmt := meth_len w1 wb _ c1
  rw [hll] at hmt hml HU1
  have HLn := len_calls ao (L.length + 1) cap w1 hml
  have HB : Hid (PnAt w1 (.slice ao (L ++ [x]).length cap) (L ++ [x]) ∧ w1.heap[wb]? = some (.cells (cs.setIfInBounds 3 (.slice ao (L ++ [x]).length cap)) 60) ∧ Frm (fun k => k = wb ∨ k = x.b ∨ FT v L k) w w1 ∧ (∀ k, (Value.slice ao (L ++ [x]).length cap).ownBlock = some k → v.ownBlock = some k ∨ w.heap.size ≤ k)) := ⟨hp1, hb1, hf1, hv1⟩
  clear hp1 hb1 hf1 hv1 c1 hll
  go_wp2_with fail
  refine HLn.mono ?_
  clear HLn hmt
  rintro e w2 ⟨rfl, rfl⟩
  have ew : wrap64 (((L.length + 1 : Nat) : Int) - 1) = (L.length : Int) := by unfold wrap64; omega
  have ew2 : (((L.length + 1 : Nat) : Int) - 1) = (L.length : Int) := by omega
  go_wp2_with fail
  try rw [ew2]
  refine HU1.mono ?_
  clear HU1
  rintro e w3 ⟨rfl, M, hI, hA⟩
  have HE : Hid (∃ v' M, PnAt w3 v' M ∧ M.Perm (L ++ [x]) ∧ HpAll M M.length ∧
      w3.heap[wb]? = some (.cells (cs.setIfInBounds 3 v') 60) ∧
      Frm (fun k => k = wb ∨ k = x.b ∨ FT v L k) w w3 ∧ (∀ k, v'.ownBlock = some k → v.ownBlock = some k ∨ w.heap.size ≤ k)) := by
    obtain ⟨hp1, hb1, hf1, hv1⟩ := HB.out
    have hll : (L ++ [x]).length = L.length + 1 := by simp
    rw [hll] at hp1 hb1 hv1
    refine ⟨_, M, hI.pn, hI.perm, by rw [hI.len, hll]; exact hA, hI.blk hp1 hb1, ?_, hv1⟩
    have h2 : Frm (fun k => (k = wb ∨ k = x.b ∨ FT v L k) ∨ w.heap.size ≤ k) w2 w3 := hI.frm.weaken (fun k _ hk => by
      rcases hk with hk | ⟨y, hy, rfl⟩
      · rcases hv1 k hk with h | h
        · exact .inl (.inr (.inr (.inl h)))
        · exact .inr h
      · rcases List.mem_append.1 hy with hy | hy
        · exact .inl (.inr (.inr (.inr ⟨y, hy, rfl⟩)))
        · rw [List.mem_singleton.1 hy]; exact .inl (.inr (.inl rfl)))
    exact ((hf1.weaken (fun k _ hk => .inl hk)).trans h2).weaken (fun k hk h => by rcases h with h | h; exact h; omega)
  clear hI hA HB
  go_wp2
  go_end0
  exact ⟨rfl, HE.out⟩

theorem Frm.pop {w w1 w2 : World} {v : Value} {L M : List Tm} {wb : Nat} {x : Tm} (hf : Frm (FT v L) w w1) (hM : ∀ y, y ∈ M → y ∈ L) (h2 : Frm (fun k => k = wb ∨ v.ownBlock = some k) w1 w2) : Frm (fun k => k = wb ∨ FT v L k) w w2 :=
  (hf.weaken (fun k _ h => .inr h)).trans (h2.weaken (fun k _ h => by rcases h with h | h; exact .inl h; exact .inr (.inl h)))

set_option maxRecDepth 100000 in
set_option maxHeartbeats 1000000 in
theorem hpop_calls (wb n : Nat) (v : Value) (L : List Tm) (x : Tm) (cs : Array Value) (w : World) (hb : w.heap[wb]? = some (.cells cs 60)) (hc : cs[3]? = some v) (h : PnAt w v L) (hh : HpAll L L.length)
    (hn : L.length = n + 1) (hx : L[0]? = some x) (hl : n + 1 ≤ 140737488355328) :
    Calls Try.prog 31 #[.iface 66 (.pointer (some ⟨wb, 3, none⟩))] w fun e w' => e = .returned (.iface 61 (ptrT x)) ∧ ∃ v' M, PnAt w' v' M ∧ (M ++ [x]).Perm L ∧ HpAll M M.length ∧
      w'.heap[wb]? = some (.cells (cs.setIfInBounds 3 v') 60) ∧
      Frm (fun k => k = wb ∨ FT v L k) w w' ∧ (∀ k, v'.ownBlock = some k → v.ownBlock = some k) ∧ w'.heap.size = w.heap.size ∧ ∃ p, w'.heap[x.b]? = some (.cells (tcell x p) 64) := by
  obtain ⟨y, hy⟩ : ∃ y, L[n]? = some y := ⟨_, List.getElem?_eq_getElem (by omega)⟩
  have HSw := swap_calls v L 0 n x y w h hx hy
  have c0 : w.cell? ⟨wb, 3, none⟩ = some v := by rw [cell_blkT hb]; exact hc
  obtain ⟨ao, cap, rfl, hml⟩ := h.len
  have hmt := meth_len w wb _ c0
  have hmt2 := meth_swap w wb _ c0
  have HLn := len_calls ao L.length cap w hml
  have HI0 : Hid (HpI w wb (n + 1) (.slice ao L.length cap) L L w) := ⟨c0, h, List.Perm.refl _, fun _ _ => rfl, Frm.refl _ _, rfl⟩
  have HB : Hid (w.heap[wb]? = some (.cells cs 60) ∧ cs[3]? = some (.slice ao L.length cap) ∧ PnAt w (.slice ao L.length cap) L ∧ HpAll L (n + 1) ∧ L[0]? = some x ∧ L[n]? = some y ∧ L.length = n + 1) := ⟨hb, hc, h, hn ▸ hh, hx, hy, hn⟩
  obtain ⟨N, HN⟩ : ∃ N, Hid (N = L.length) := ⟨_, rfl⟩
  rw [← HN.out] at hmt hmt2 HLn HSw
  have hNn : N = n + 1 := by rw [HN.out]; exact hn
  subst hNn
  clear hb hc h hh hx hy c0
  go_enter Try.func31, Try.ntmps31
  go_wp2_with fail
  refine HLn.mono ?_
  clear HLn hmt
  rintro e w0 ⟨rfl, rfl⟩
  have ew : wrap64 (((n + 1 : Nat) : Int) - 1) = (n : Int) := by unfold wrap64; omega
  have ew2 : (((n + 1 : Nat) : Int) - 1) = (n : Int) := by omega
  go_wp2_with fail
  try rw [ew2]
  refine HSw.mono ?_
  clear HSw hmt2
  rintro e w1 ⟨rfl, hp1, hf1, hs1⟩
  rw [HN.out] at hp1 hf1
  have HI1 : Hid (HpI w0 wb (n + 1) (.slice ao L.length cap) L (swapL L 0 n x y) w1) := HI0.out.swap HB.out.2.2.2.2.1 HB.out.2.2.2.2.2.1 (by omega) (by omega) (not_FT HB.out.2.2.1 HB.out.1) hp1 hf1 hs1
  clear hp1 hf1 hs1 HI0
  have HB1 : Hid (w1.heap[wb]? = some (.cells cs 60)) := HI1.out.blk HB.out.2.2.1 HB.out.1
  have HDn := down_calls wb n 0 _ (swapL L 0 n x y) w1 HI1.out.cell HI1.out.pn (not_FT HI1.out.pn HB1.out) (by rw [swapL_length]; omega) (by omega) (by omega) (HB.out.2.2.2.1.dn HB.out.2.2.2.2.1 HB.out.2.2.2.2.2.1 (by omega))
  go_wp2_with fail
  refine HDn.mono ?_
  clear HDn
  rintro e w2 ⟨M1, b, rfl, hI2, hb1, hb2⟩
  have hA : HpAll M1 n := by cases b; exact (hb2 rfl).top; exact hb1 rfl
  have hM1 : M1[n]? = some x := by rw [hI2.rest n (Nat.le_refl _)]; exact swap_at2 HB.out.2.2.2.2.1 HB.out.2.2.2.2.2.1
  obtain ⟨A, rfl, hAl⟩ := split_last (by rw [hI2.len, swapL_length]; exact hn) hM1
  have hB2 : w2.heap[wb]? = some (.cells cs 60) := hI2.blk HI1.out.pn HB1.out
  have HPp := popM_calls wb _ A x cs w2 hB2 HB.out.2.1 hI2.pn (by omega)
  have hmt := meth_pop w2 wb
  have HF2 : Hid (Frm (FT (.slice ao L.length cap) L) w0 w2 ∧ w2.heap.size = w0.heap.size ∧ (A ++ [x]).Perm L ∧ HpAll A A.length ∧ w2.heap[x.b]? = some (.cells (tcell x A.length) 64) ∧ x.b ≠ wb ∧ (Value.slice ao L.length cap).ownBlock ≠ some x.b) := by
    have hgx : (A ++ [x])[A.length]? = some x := by simp
    refine ⟨HI1.out.frm.trans ?_, hI2.size.trans HI1.out.size, hI2.perm.trans HI1.out.perm, hA.cut hAl, hI2.pn.tms _ x hgx, fun e => not_FT hI2.pn hB2 (.inr ⟨x, List.mem_of_getElem? hgx, e⟩), hI2.pn.apart (List.mem_of_getElem? hgx)⟩
    have := hI2.frm
    rw [FT.perm HI1.out.perm] at this
    exact this
  clear hI2 hb1 hb2 hA hM1 hB2 HI1 HB1
  go_wp2_with fail
  refine HPp.mono ?_
  clear HPp hmt
  rintro e w3 ⟨rfl, v3, hp3, hb3, hf3, hv3, hs3⟩
  have HE : Hid (∃ v' M, PnAt w3 v' M ∧ (M ++ [x]).Perm L ∧ HpAll M M.length ∧
      w3.heap[wb]? = some (.cells (cs.setIfInBounds 3 v') 60) ∧
      Frm (fun k => k = wb ∨ FT (.slice ao L.length cap) L k) w0 w3 ∧ (∀ k, v'.ownBlock = some k → (Value.slice ao L.length cap).ownBlock = some k) ∧ w3.heap.size = w0.heap.size ∧ ∃ p, w3.heap[x.b]? = some (.cells (tcell x p) 64)) :=
    ⟨v3, A, hp3, HF2.out.2.2.1, HF2.out.2.2.2.1, hb3, (HF2.out.1.weaken (fun k _ h => .inr h)).trans (hf3.weaken (fun k _ h => by rcases h with h | h; exact .inl h; exact .inr (.inl h))), hv3, hs3.trans HF2.out.2.1, _, (hf3.block _ (lt_of_heapT HF2.out.2.2.2.2.1) (fun h => by rcases h with h | h; exact HF2.out.2.2.2.2.2.1 h; exact HF2.out.2.2.2.2.2.2 h)).trans HF2.out.2.2.2.2.1⟩
  clear hp3 hb3 hf3 hv3 hs3 HF2
  unfold ptrT
  go_wp2
  go_ret
  exact ⟨rfl, HE.out⟩
end Go.Proofs.Ytedhjdkhfndinaa
