/- Layer 14 (timers): the document's Set (by gen_tirset.py). -/
import Derived.Test.YtedhjdkhfndinaaTiWout
namespace Go.Proofs.Ytedhjdkhfndinaa
open Go.RowKit Go.MapKept
set_option linter.unusedVariables false

theorem RowI.of {w : World} {B : Nat} {v : Value} {l : List Int} (h : w.ownsRow B 3 1 v (l.map (Value.int .i64)).length (l.map (Value.int .i64))) : RowI w v l := ⟨h.1, by
  rcases h.2 with h | ⟨g0, cap0, cur0, e0, _, r⟩
  · exact .inl h
  · exact .inr ⟨g0, cap0, cur0, e0, Nat.zero_le _, r⟩⟩
theorem RowU.of {w : World} {B : Nat} {v : Value} {l : List Int} (h : w.ownsRow B 26 1 v (l.map (Value.int .u64)).length (l.map (Value.int .u64))) : RowU w v l := ⟨h.1, by
  rcases h.2 with h | ⟨g0, cap0, cur0, e0, _, r⟩
  · exact .inl h
  · exact .inr ⟨g0, cap0, cur0, e0, Nat.zero_le _, r⟩⟩
theorem ownsRow_ty {w : World} {B : Nat} {e : TypeId} {v : Value} {n : Nat} {l : List Value} (h : w.ownsRow B e 1 v n l) {q : Nat} (hq : v.ownBlock = some q) : ∃ cs, w.heap[q]? = some (.cells cs e) := by
  rcases h.2 with ⟨rfl, _⟩ | ⟨g0, cap0, cur0, rfl, _, hg0, _⟩
  · cases hq
  · simp [Value.ownBlock] at hq
    exact ⟨cur0, by rw [← hq]; exact hg0⟩
theorem ne_ty {w : World} {q p : Nat} {e t : TypeId} {cs : Array Value} (h : ∃ cs, w.heap[q]? = some (.cells cs e)) (hp : w.heap[p]? = some (.cells cs t)) (hne : e ≠ t) : q ≠ p := by
  rintro rfl
  obtain ⟨c2, h2⟩ := h
  rw [hp] at h2
  simp at h2
  exact hne h2.2.symm
theorem one_int (l : List Int) : ∀ u ∈ l.map (Value.int .i64), u.oneCell' = true := fun u hu => by
  obtain ⟨x, _, rfl⟩ := List.mem_map.1 hu
  rfl
theorem one_u64 (l : List Int) : ∀ u ∈ l.map (Value.int .u64), u.oneCell' = true := fun u hu => by
  obtain ⟨x, _, rfl⟩ := List.mem_map.1 hu
  rfl

/-- What a Set of the document's answers. -/
def RSetW (w : World) (now most : Int) (vi va : Value) (li la : List Int) (id at' : Int) (e : Ending) (w' : World) : Prop :=
  ∃ vi' va' li' la' er, e = .returned (.tuple #[refV now most vi' va', .int .i64 er]) ∧ RowI w' vi' li' ∧ RowU w' va' la' ∧ Below w.heap.size w w' ∧
    ((er = 0 ∧ id ∉ li ∧ (li.length : Int) < most ∧ li' = li ++ [id] ∧ la' = la ++ [at'] ∧ (∀ k, vi'.ownBlock = some k → w.heap.size ≤ k) ∧ (∀ k, va'.ownBlock = some k → w.heap.size ≤ k)) ∨
     (er = 141 ∧ id ∈ li ∧ li' = li ∧ la' = la ∧ vi' = vi ∧ va' = va) ∨ (er = 140 ∧ id ∉ li ∧ most ≤ (li.length : Int) ∧ li' = li ∧ la' = la ∧ vi' = vi ∧ va' = va))

set_option maxRecDepth 100000 in
set_option maxHeartbeats 2000000 in
theorem rset_calls (now most : Int) (vi va : Value) (li la : List Int) (id at' : Int) (w : World) (hl : (li.length + 1) * 8 ≤ 140737488355328) (hll : la.length = li.length) (hi : RowI w vi li) (ha : RowU w va la) :
    Calls Try.prog 10 #[refV now most vi va, .int .i64 id, .int .u64 at'] w (RSetW w now most vi va li la id at') := by
  obtain ⟨aoi, ci, rfl, hlci, hcmi, hcelli⟩ := hi.shape
  obtain ⟨aoa, ca, rfl, hlca, hcma, _⟩ := ha.shape
  have HI : Hid (RowI w (.slice aoi li.length ci) li) := hi
  have HA : Hid (RowU w (.slice aoa la.length ca) la) := ha
  have HC : Hid (∀ k (hk : k < li.length), ∃ g, aoi = some ⟨g, 0, none⟩ ∧ w.cell? ⟨g, k, none⟩ = some (.int .i64 li[k])) := hcelli
  rw [hll] at hlca HA ⊢
  obtain ⟨n, Hn⟩ : ∃ n, Hid (n = li.length) := ⟨_, rfl⟩
  have HLL : Hid (la.length = n) := hll.trans Hn.out.symm
  rw [← Hn.out] at hl hlci hlca HI HA ⊢
  clear hi ha hcelli hll
  obtain ⟨w1, HW1⟩ : ∃ w1, Hid (w1 = (w.alloc (.cells #[.int .u64 now, .int .i64 most, .slice aoi n ci, .slice aoa n ca] 30)).alloc (.cells #[.int .u64 0, .int .i64 0, .slice none 0 0, .slice none 0 0] 30)) := ⟨_, rfl⟩
  obtain ⟨pb, Hpb⟩ : ∃ pb, Hid (pb = w.heap.size) := ⟨_, rfl⟩
  have HB1 : Hid (Below w.heap.size w w1) := by rw [HW1.out]; exact ((Below.refl _ w).alloc (Nat.le_refl _) _).alloc (by simp [World.size_alloc]) _
  have HP1 : Hid (w1.heap[pb]? = some (.cells #[.int .u64 now, .int .i64 most, .slice aoi n ci, .slice aoa n ca] 30)) := by
    rw [HW1.out, Hpb.out, Below.heap_alloc _ _ _ (by simp [World.size_alloc])]; exact heap_alloc_new w _
  have HR1 : Hid (w1.heap[pb + 1]? = some (.cells #[.int .u64 0, .int .i64 0, .slice none 0 0, .slice none 0 0] 30)) := by
    rw [HW1.out, Hpb.out]
    have := heap_alloc_new (w.alloc (.cells #[.int .u64 now, .int .i64 most, .slice aoi n ci, .slice aoa n ca] 30)) (.cells #[.int .u64 0, .int .i64 0, .slice none 0 0, .slice none 0 0] 30)
    simp only [World.size_alloc] at this
    exact this
  have hpw : w.heap.size ≤ pb := Nat.le_of_eq Hpb.out.symm
  have hpb1 : w.heap.size + 1 = pb + 1 := by rw [Hpb.out]
  have p0 : w1.cell? ⟨pb, 0, none⟩ = some (.int .u64 now) := by rw [cell_blkT HP1.out]; rfl
  have p1 : w1.cell? ⟨pb, 1, none⟩ = some (.int .i64 most) := by rw [cell_blkT HP1.out]; rfl
  have p2 : w1.cell? ⟨pb, 2, none⟩ = some (.slice aoi n ci) := by rw [cell_blkT HP1.out]; rfl
  have p3 : w1.cell? ⟨pb, 3, none⟩ = some (.slice aoa n ca) := by rw [cell_blkT HP1.out]; rfl
  go_enter Try.func10, Try.ntmps10
  unfold refV
  go_upto_region 2 with fail
  rw [← HW1.out, ← Hpb.out]
  go_loopw [9, 13] (fun _ i wr => ∃ k : Nat, k ≤ n ∧ i = .int .i64 (k : Int) ∧ Hid (∀ j (h : j < li.length), j < k → li[j] ≠ id) ∧ wr = w1) (fun _ i _ => n - (intOf i).toNat)
  case atStart => exact ⟨0, Nat.zero_le _, rfl, fun _ _ h => absurd h (Nat.not_lt_zero _), rfl⟩
  case round =>
    obtain ⟨k, hk, rfl, HS, rfl⟩ := hrel
    by_cases hlt : k < n
    · have k1 : k < li.length := by rw [← Hn.out]; exact hlt
      obtain ⟨g, rfl, hc0⟩ := HC.out k k1
      obtain ⟨x, Hx⟩ : ∃ x, Hid (x = li[k]'k1) := ⟨_, rfl⟩
      rw [← Hx.out] at hc0
      have hc : wr.cell? ⟨g, k, none⟩ = some (.int .i64 x) := by
        have hlt' : g < w.heap.size := by
          unfold World.cell? at hc0
          split at hc0
          · rename_i hq; exact lt_of_heapT hq
          · cases hc0
        exact (HB1.out.cell (p := ⟨g, k, none⟩) hlt').trans hc0
      clear hc0
      by_cases he : x = id
      · subst he
        have hqq : (x == x) = true := by simp
        have HIN : Hid (x ∈ li) := by rw [Hx.out]; exact List.getElem_mem k1
        have d0 : wr.cell? ⟨pb, 0, none⟩ = some (.int .u64 now) := by rw [cell_blkT HP1.out]; rfl
        have d1 : wr.cell? ⟨pb, 1, none⟩ = some (.int .i64 most) := by rw [cell_blkT HP1.out]; rfl
        have d2 : wr.cell? ⟨pb, 2, none⟩ = some (.slice (some ⟨g, 0, none⟩) n ci) := by rw [cell_blkT HP1.out]; rfl
        have d3 : wr.cell? ⟨pb, 3, none⟩ = some (.slice aoa n ca) := by rw [cell_blkT HP1.out]; rfl
        have q0 : wr.cell? ⟨pb + 1, 0, none⟩ = some (.int .u64 0) := by rw [cell_blkT HR1.out]; rfl
        have q1 : wr.cell? ⟨pb + 1, 1, none⟩ = some (.int .i64 0) := by rw [cell_blkT HR1.out]; rfl
        have q2 : wr.cell? ⟨pb + 1, 2, none⟩ = some (.slice none 0 0) := by rw [cell_blkT HR1.out]; rfl
        have q3 : wr.cell? ⟨pb + 1, 3, none⟩ = some (.slice none 0 0) := by rw [cell_blkT HR1.out]; rfl
        have f0 : ∀ k, wr.frozen? ⟨pb + 1, k, none⟩ = false := fun k => frozen_blkT HR1.out
        go_wp2
        obtain ⟨w4, HW4⟩ : ∃ w4, Hid (w4 = (((wr.setCell ⟨pb + 1, 0, none⟩ (.int .u64 now)).setCell ⟨pb + 1, 1, none⟩ (.int .i64 most)).setCell ⟨pb + 1, 2, none⟩ (.slice (some ⟨g, 0, none⟩) n ci)).setCell ⟨pb + 1, 3, none⟩ (.slice aoa n ca)) := ⟨_, rfl⟩
        rw [← HW4.out]
        have hw4 : w4.heap[pb + 1]? = some (.cells #[.int .u64 now, .int .i64 most, .slice (some ⟨g, 0, none⟩) n ci, .slice aoa n ca] 30) := by
          rw [HW4.out, heap_setCell_same _ _ _ _ _ _ (heap_setCell_same _ _ _ _ _ _ (heap_setCell_same _ _ _ _ _ _ (heap_setCell_same _ _ _ _ _ _ HR1.out)))]
          rfl
        have g0 : w4.cell? ⟨pb + 1, 0, none⟩ = some (.int .u64 now) := by rw [cell_blkT hw4]; rfl
        have g1 : w4.cell? ⟨pb + 1, 1, none⟩ = some (.int .i64 most) := by rw [cell_blkT hw4]; rfl
        have g2 : w4.cell? ⟨pb + 1, 2, none⟩ = some (.slice (some ⟨g, 0, none⟩) n ci) := by rw [cell_blkT hw4]; rfl
        have g3 : w4.cell? ⟨pb + 1, 3, none⟩ = some (.slice aoa n ca) := by rw [cell_blkT hw4]; rfl
        have hb4 : Below w.heap.size w w4 := by
          rw [HW4.out]
          exact (((HB1.out.setCell (p := ⟨pb + 1, 0, none⟩) (Nat.le_succ_of_le hpw) _).setCell (p := ⟨pb + 1, 1, none⟩) (Nat.le_succ_of_le hpw) _).setCell (p := ⟨pb + 1, 2, none⟩) (Nat.le_succ_of_le hpw) _).setCell (p := ⟨pb + 1, 3, none⟩) (Nat.le_succ_of_le hpw) _
        have hk4 : ∀ q, q ≠ pb + 1 → w4.heap[q]? = wr.heap[q]? := by
          intro q hq
          rw [HW4.out, heap_setCell_other _ _ _ _ (by exact hq), heap_setCell_other _ _ _ _ (by exact hq), heap_setCell_other _ _ _ _ (by exact hq), heap_setCell_other _ _ _ _ (by exact hq)]
        refine bodyPost_ret (v := .tuple #[refV now most (.slice (some ⟨g, 0, none⟩) n ci) (.slice aoa n ca), .int .i64 141]) (by simp [results, Try.results10, go_sem, refV, g0, g1, g2, g3]) rfl ?_
        refine ⟨_, _, li, la, 141, rfl, ?_, ?_, hb4, .inr (.inl ⟨rfl, HIN.out, rfl, rfl, rfl, rfl⟩)⟩
        · exact ownsRow_below HI.out hb4
        · exact ownsRow_below HA.out hb4
      · have hqq : (x == id) = false := by simpa using he
        have HS2 : Hid (∀ j (h : j < li.length), j < k + 1 → li[j] ≠ id) := by
          intro j h1 h2
          by_cases hj : j = k
          · subst hj
            rw [← Hx.out]; exact he
          · exact HS.out j h1 (by omega)
        clear Hx HS
        go_wp2
        go_roundw
        case rel => exact ⟨k + 1, by omega, by go_num, HS2, by trivial⟩
        case measure => simp [intOf]; omega
    · have hkn : k = n := by omega
      subst hkn
      have HNI : Hid (id ∉ li) := by
        intro hm
        obtain ⟨j, hj, he⟩ := List.getElem_of_mem hm
        exact HS.out j hj (by rw [Hn.out]; exact hj) he
      clear HS
      by_cases hmo : most ≤ (k : Int)
      · skip
        have d0 : wr.cell? ⟨pb, 0, none⟩ = some (.int .u64 now) := by rw [cell_blkT HP1.out]; rfl
        have d1 : wr.cell? ⟨pb, 1, none⟩ = some (.int .i64 most) := by rw [cell_blkT HP1.out]; rfl
        have d2 : wr.cell? ⟨pb, 2, none⟩ = some (.slice aoi k ci) := by rw [cell_blkT HP1.out]; rfl
        have d3 : wr.cell? ⟨pb, 3, none⟩ = some (.slice aoa k ca) := by rw [cell_blkT HP1.out]; rfl
        have q0 : wr.cell? ⟨pb + 1, 0, none⟩ = some (.int .u64 0) := by rw [cell_blkT HR1.out]; rfl
        have q1 : wr.cell? ⟨pb + 1, 1, none⟩ = some (.int .i64 0) := by rw [cell_blkT HR1.out]; rfl
        have q2 : wr.cell? ⟨pb + 1, 2, none⟩ = some (.slice none 0 0) := by rw [cell_blkT HR1.out]; rfl
        have q3 : wr.cell? ⟨pb + 1, 3, none⟩ = some (.slice none 0 0) := by rw [cell_blkT HR1.out]; rfl
        have f0 : ∀ k, wr.frozen? ⟨pb + 1, k, none⟩ = false := fun k => frozen_blkT HR1.out
        go_wp2
        obtain ⟨w4, HW4⟩ : ∃ w4, Hid (w4 = (((wr.setCell ⟨pb + 1, 0, none⟩ (.int .u64 now)).setCell ⟨pb + 1, 1, none⟩ (.int .i64 most)).setCell ⟨pb + 1, 2, none⟩ (.slice aoi k ci)).setCell ⟨pb + 1, 3, none⟩ (.slice aoa k ca)) := ⟨_, rfl⟩
        rw [← HW4.out]
        have hw4 : w4.heap[pb + 1]? = some (.cells #[.int .u64 now, .int .i64 most, .slice aoi k ci, .slice aoa k ca] 30) := by
          rw [HW4.out, heap_setCell_same _ _ _ _ _ _ (heap_setCell_same _ _ _ _ _ _ (heap_setCell_same _ _ _ _ _ _ (heap_setCell_same _ _ _ _ _ _ HR1.out)))]
          rfl
        have g0 : w4.cell? ⟨pb + 1, 0, none⟩ = some (.int .u64 now) := by rw [cell_blkT hw4]; rfl
        have g1 : w4.cell? ⟨pb + 1, 1, none⟩ = some (.int .i64 most) := by rw [cell_blkT hw4]; rfl
        have g2 : w4.cell? ⟨pb + 1, 2, none⟩ = some (.slice aoi k ci) := by rw [cell_blkT hw4]; rfl
        have g3 : w4.cell? ⟨pb + 1, 3, none⟩ = some (.slice aoa k ca) := by rw [cell_blkT hw4]; rfl
        have hb4 : Below w.heap.size w w4 := by
          rw [HW4.out]
          exact (((HB1.out.setCell (p := ⟨pb + 1, 0, none⟩) (Nat.le_succ_of_le hpw) _).setCell (p := ⟨pb + 1, 1, none⟩) (Nat.le_succ_of_le hpw) _).setCell (p := ⟨pb + 1, 2, none⟩) (Nat.le_succ_of_le hpw) _).setCell (p := ⟨pb + 1, 3, none⟩) (Nat.le_succ_of_le hpw) _
        have hk4 : ∀ q, q ≠ pb + 1 → w4.heap[q]? = wr.heap[q]? := by
          intro q hq
          rw [HW4.out, heap_setCell_other _ _ _ _ (by exact hq), heap_setCell_other _ _ _ _ (by exact hq), heap_setCell_other _ _ _ _ (by exact hq), heap_setCell_other _ _ _ _ (by exact hq)]
        refine bodyPost_ret (v := .tuple #[refV now most (.slice aoi k ci) (.slice aoa k ca), .int .i64 140]) (by simp [results, Try.results10, go_sem, refV, g0, g1, g2, g3]) rfl ?_
        refine ⟨_, _, li, la, 140, rfl, ?_, ?_, hb4, .inr (.inr ⟨rfl, HNI.out, by rw [← Hn.out]; exact hmo, rfl, rfl, rfl, rfl⟩)⟩
        · exact ownsRow_below HI.out hb4
        · exact ownsRow_below HA.out hb4
      · have hmo' : (k : Int) < most := by omega
        have hli : (li.map (Value.int .i64)).length = k := by rw [List.length_map]; exact Hn.out.symm
        have hla : (la.map (Value.int .u64)).length = k := by rw [List.length_map]; exact HLL.out
        obtain ⟨wE1, HWE1⟩ : ∃ wE, Hid (wE = wr.alloc (.cells #[] 3)) := ⟨_, rfl⟩
        have HBE1 : Hid (Below wr.heap.size wr wE1) := by rw [HWE1.out]; exact (Below.refl _ _).alloc (Nat.le_refl _) _
        have HBF1 : Hid (Below w.heap.size w wE1) := HB1.out.trans (HBE1.out.mono HB1.out.size)
        have HOE1 : Hid (wE1.ownsRow w.heap.size 3 1 (.slice (some ⟨wr.heap.size, 0, none⟩) 0 0) ([] : List Value).length []) := by
          rw [HWE1.out]
          exact ⟨rfl, .inr ⟨wr.heap.size, 0, #[], rfl, HB1.out.size, heap_alloc_new _ _, Nat.le_refl _, by decide, rfl, rfl⟩⟩
        have HSE1 : Hid (wE1.ownsRow 0 3 1 (.slice aoi k ci) (li.map (Value.int .i64)).length (li.map (Value.int .i64))) := ownsRow_below HI.out HBF1.out
        have HPE1 : Hid (wE1.heap[pb]? = some (.cells #[.int .u64 now, .int .i64 most, .slice aoi k ci, .slice aoa k ca] 30) ∧ wE1.heap[pb + 1]? = some (.cells #[.int .u64 0, .int .i64 0, .slice none 0 0, .slice none 0 0] 30)) := ⟨(HBE1.out.block _ (lt_of_heapT HP1.out)).trans HP1.out, (HBE1.out.block _ (lt_of_heapT HR1.out)).trans HR1.out⟩
        have cE1 : (wr.alloc (.cells #[] 3)).cell? ⟨pb, 2, none⟩ = some (.slice aoi k ci) := by rw [← HWE1.out, cell_blkT HPE1.out.1]; rfl
        have hsE1 : w.heap.size ≤ wE1.heap.size := HBF1.out.size
        go_wp2_with (at_builtin; rw [← HWE1.out]; refine append_srcT _ rfl (.tmp 29) (.tmp 31) 27 3 (.int .i64 0) 8 Try.underlying27 infoI rfl rfl w.heap.size _ [] rfl HOE1.out 0 _ (li.map (Value.int .i64)) rfl HSE1.out (one_int li) (by simp only [List.length_nil, hli]; omega) (by simp only [List.length_nil, hli]; omega) hsE1 ?_)
        intro u1 wF1 ho hg
        have HOF1 : Hid (wF1.ownsRow w.heap.size 3 1 u1 (li.map (Value.int .i64)).length (li.map (Value.int .i64))) := by
          show wF1.ownsRow w.heap.size 3 1 u1 (li.map (Value.int .i64)).length (li.map (Value.int .i64))
          rw [hli]
          simpa using ho
        have HPF1 : Hid (∀ (q : Nat) (cs : Array Value) (t : TypeId), 3 ≠ t → wE1.heap[q]? = some (.cells cs t) → wF1.heap[q]? = some (.cells cs t)) := fun q cs t hne hq => (hg.grown.block q (lt_of_heapT hq) (fun e => ne_ty (ownsRow_ty HOE1.out e.symm) hq hne rfl)).trans hq
        have HBG1 : Hid (Below w.heap.size w wF1) := HBF1.out.trans (hg.toBelow hsE1 (fun q hq => (World.ownsRow.lt HOE1.out q hq).1))
        have hsF1 : w.heap.size ≤ wF1.heap.size := HBG1.out.size
        clear ho hg
        obtain ⟨aF1, cF1, hu1⟩ := ownsRow_len HOF1.out
        rw [hli] at hu1
        subst hu1
        go_wp2_with (at_builtin; refine append_valT _ rfl (.tmp 32) (.tmp 34) 27 3 (.int .i64 0) 8 Try.underlying27 infoI rfl rfl w.heap.size _ (li.map (Value.int .i64)) rfl (.int .i64 id) rfl _ rfl (by simp) HOF1.out (by rw [hli]; omega) (by rw [hli]; omega) hsF1 ?_)
        intro v1 wG1 ho hg
        have HOG1 : Hid (wG1.ownsRow w.heap.size 3 1 v1 ((li ++ [id]).map (Value.int .i64)).length ((li ++ [id]).map (Value.int .i64))) := by
          show wG1.ownsRow w.heap.size 3 1 v1 ((li ++ [id]).map (Value.int .i64)).length ((li ++ [id]).map (Value.int .i64))
          rw [List.map_append, List.length_append, hli]
          simpa using ho
        have HPG1 : Hid (∀ (q : Nat) (cs : Array Value) (t : TypeId), 3 ≠ t → wE1.heap[q]? = some (.cells cs t) → wG1.heap[q]? = some (.cells cs t)) := fun q cs t hne hq => by
          have hq2 := HPF1.out q cs t hne hq
          exact (hg.grown.block q (lt_of_heapT hq2) (fun e => ne_ty (ownsRow_ty HOF1.out e.symm) hq2 hne rfl)).trans hq2
        have HBH1 : Hid (Below w.heap.size w wG1) := HBG1.out.trans (hg.toBelow hsF1 (fun q hq => (World.ownsRow.lt HOF1.out q hq).1))
        clear ho hg
        have hP1 := HPG1.out _ _ _ (by decide) HPE1.out.1
        have cG1 : wG1.cell? ⟨pb, 2, none⟩ = some (.slice aoi k ci) := by rw [cell_blkT hP1]; rfl
        have fG1 : wG1.frozen? ⟨pb, 2, none⟩ = false := frozen_blkT hP1
        obtain ⟨ao1, c1, hv1⟩ := ownsRow_len HOG1.out
        obtain ⟨NN1, HNN1⟩ : ∃ N, Hid (N = ((li ++ [id]).map (Value.int .i64)).length) := ⟨_, rfl⟩
        rw [← HNN1.out] at hv1
        subst hv1
        obtain ⟨wd1, HWd1⟩ : ∃ wd, Hid (wd = wG1.setCell ⟨pb, 2, none⟩ (.slice ao1 NN1 c1)) := ⟨_, rfl⟩
        have HBd1 : Hid (Below w.heap.size w wd1) := by rw [HWd1.out]; exact HBH1.out.setCell (p := ⟨pb, 2, none⟩) hpw _
        have HPd1 : Hid (wd1.heap[pb]? = some (.cells #[.int .u64 now, .int .i64 most, .slice ao1 NN1 c1, .slice aoa k ca] 30)) := by
          rw [HWd1.out, heap_setCell_same _ _ _ _ _ _ hP1]; rfl
        have HKd1 : Hid (∀ (q : Nat) (cs : Array Value) (t : TypeId), 3 ≠ t → q ≠ pb → wE1.heap[q]? = some (.cells cs t) → wd1.heap[q]? = some (.cells cs t)) := fun q cs t hne hqp hq => by
          rw [HWd1.out]; exact (heap_setCell_other _ _ _ _ (by exact hqp)).trans (HPG1.out q cs t hne hq)
        have HRd1 : Hid (wd1.heap[pb + 1]? = some (.cells #[.int .u64 0, .int .i64 0, .slice none 0 0, .slice none 0 0] 30)) := HKd1.out _ _ _ (by decide) (Nat.succ_ne_self pb) HPE1.out.2
        have HOd1 : Hid (wd1.ownsRow w.heap.size 3 1 (.slice ao1 NN1 c1) ((li ++ [id]).map (Value.int .i64)).length ((li ++ [id]).map (Value.int .i64))) := by
          rw [HWd1.out]
          exact ownsRow_keep HOG1.out (fun q hq => heap_setCell_other _ _ _ _ (ne_ty (ownsRow_ty HOG1.out hq) hP1 (by decide)))
        clear hP1
        clear p0 p1 p2 p3
        go_upto_region 10 with fail
        rw [← HWd1.out]
        clear cE1 cG1 fG1
        obtain ⟨wE2, HWE2⟩ : ∃ wE, Hid (wE = wd1.alloc (.cells #[] 26)) := ⟨_, rfl⟩
        have HBE2 : Hid (Below wd1.heap.size wd1 wE2) := by rw [HWE2.out]; exact (Below.refl _ _).alloc (Nat.le_refl _) _
        have HBF2 : Hid (Below w.heap.size w wE2) := HBd1.out.trans (HBE2.out.mono HBd1.out.size)
        have HOE2 : Hid (wE2.ownsRow w.heap.size 26 1 (.slice (some ⟨wd1.heap.size, 0, none⟩) 0 0) ([] : List Value).length []) := by
          rw [HWE2.out]
          exact ⟨rfl, .inr ⟨wd1.heap.size, 0, #[], rfl, HBd1.out.size, heap_alloc_new _ _, Nat.le_refl _, by decide, rfl, rfl⟩⟩
        have HSE2 : Hid (wE2.ownsRow 0 26 1 (.slice aoa k ca) (la.map (Value.int .u64)).length (la.map (Value.int .u64))) := ownsRow_below HA.out HBF2.out
        have HPE2 : Hid (wE2.heap[pb]? = some (.cells #[.int .u64 now, .int .i64 most, .slice ao1 NN1 c1, .slice aoa k ca] 30) ∧ wE2.heap[pb + 1]? = some (.cells #[.int .u64 0, .int .i64 0, .slice none 0 0, .slice none 0 0] 30)) := ⟨(HBE2.out.block _ (lt_of_heapT HPd1.out)).trans HPd1.out, (HBE2.out.block _ (lt_of_heapT HRd1.out)).trans HRd1.out⟩
        have cE2 : (wd1.alloc (.cells #[] 26)).cell? ⟨pb, 3, none⟩ = some (.slice aoa k ca) := by rw [← HWE2.out, cell_blkT HPE2.out.1]; rfl
        have hsE2 : w.heap.size ≤ wE2.heap.size := HBF2.out.size
        go_wp2_with (at_builtin; rw [← HWE2.out]; refine append_srcT _ rfl (.tmp 37) (.tmp 39) 28 26 (.int .u64 0) 8 Try.underlying28 infoU rfl rfl w.heap.size _ [] rfl HOE2.out 0 _ (la.map (Value.int .u64)) rfl HSE2.out (one_u64 la) (by simp only [List.length_nil, hla]; omega) (by simp only [List.length_nil, hla]; omega) hsE2 ?_)
        intro u2 wF2 ho hg
        have HOF2 : Hid (wF2.ownsRow w.heap.size 26 1 u2 (la.map (Value.int .u64)).length (la.map (Value.int .u64))) := by
          show wF2.ownsRow w.heap.size 26 1 u2 (la.map (Value.int .u64)).length (la.map (Value.int .u64))
          rw [hla]
          simpa using ho
        have HPF2 : Hid (∀ (q : Nat) (cs : Array Value) (t : TypeId), 26 ≠ t → wE2.heap[q]? = some (.cells cs t) → wF2.heap[q]? = some (.cells cs t)) := fun q cs t hne hq => (hg.grown.block q (lt_of_heapT hq) (fun e => ne_ty (ownsRow_ty HOE2.out e.symm) hq hne rfl)).trans hq
        have HBG2 : Hid (Below w.heap.size w wF2) := HBF2.out.trans (hg.toBelow hsE2 (fun q hq => (World.ownsRow.lt HOE2.out q hq).1))
        have hsF2 : w.heap.size ≤ wF2.heap.size := HBG2.out.size
        clear ho hg
        obtain ⟨aF2, cF2, hu2⟩ := ownsRow_len HOF2.out
        rw [hla] at hu2
        subst hu2
        go_wp2_with (at_builtin; refine append_valT _ rfl (.tmp 40) (.tmp 42) 28 26 (.int .u64 0) 8 Try.underlying28 infoU rfl rfl w.heap.size _ (la.map (Value.int .u64)) rfl (.int .u64 at') rfl _ rfl (by simp) HOF2.out (by rw [hla]; omega) (by rw [hla]; omega) hsF2 ?_)
        intro v2 wG2 ho hg
        have HOG2 : Hid (wG2.ownsRow w.heap.size 26 1 v2 ((la ++ [at']).map (Value.int .u64)).length ((la ++ [at']).map (Value.int .u64))) := by
          show wG2.ownsRow w.heap.size 26 1 v2 ((la ++ [at']).map (Value.int .u64)).length ((la ++ [at']).map (Value.int .u64))
          rw [List.map_append, List.length_append, hla]
          simpa using ho
        have HPG2 : Hid (∀ (q : Nat) (cs : Array Value) (t : TypeId), 26 ≠ t → wE2.heap[q]? = some (.cells cs t) → wG2.heap[q]? = some (.cells cs t)) := fun q cs t hne hq => by
          have hq2 := HPF2.out q cs t hne hq
          exact (hg.grown.block q (lt_of_heapT hq2) (fun e => ne_ty (ownsRow_ty HOF2.out e.symm) hq2 hne rfl)).trans hq2
        have HBH2 : Hid (Below w.heap.size w wG2) := HBG2.out.trans (hg.toBelow hsF2 (fun q hq => (World.ownsRow.lt HOF2.out q hq).1))
        clear ho hg
        have hP2 := HPG2.out _ _ _ (by decide) HPE2.out.1
        have cG2 : wG2.cell? ⟨pb, 3, none⟩ = some (.slice aoa k ca) := by rw [cell_blkT hP2]; rfl
        have fG2 : wG2.frozen? ⟨pb, 3, none⟩ = false := frozen_blkT hP2
        obtain ⟨ao2, c2, hv2⟩ := ownsRow_len HOG2.out
        obtain ⟨NN2, HNN2⟩ : ∃ N, Hid (N = ((la ++ [at']).map (Value.int .u64)).length) := ⟨_, rfl⟩
        rw [← HNN2.out] at hv2
        subst hv2
        obtain ⟨wd2, HWd2⟩ : ∃ wd, Hid (wd = wG2.setCell ⟨pb, 3, none⟩ (.slice ao2 NN2 c2)) := ⟨_, rfl⟩
        have HBd2 : Hid (Below w.heap.size w wd2) := by rw [HWd2.out]; exact HBH2.out.setCell (p := ⟨pb, 3, none⟩) hpw _
        have HPd2 : Hid (wd2.heap[pb]? = some (.cells #[.int .u64 now, .int .i64 most, .slice ao1 NN1 c1, .slice ao2 NN2 c2] 30)) := by
          rw [HWd2.out, heap_setCell_same _ _ _ _ _ _ hP2]; rfl
        have HKd2 : Hid (∀ (q : Nat) (cs : Array Value) (t : TypeId), 26 ≠ t → q ≠ pb → wE2.heap[q]? = some (.cells cs t) → wd2.heap[q]? = some (.cells cs t)) := fun q cs t hne hqp hq => by
          rw [HWd2.out]; exact (heap_setCell_other _ _ _ _ (by exact hqp)).trans (HPG2.out q cs t hne hq)
        have HRd2 : Hid (wd2.heap[pb + 1]? = some (.cells #[.int .u64 0, .int .i64 0, .slice none 0 0, .slice none 0 0] 30)) := HKd2.out _ _ _ (by decide) (Nat.succ_ne_self pb) HPE2.out.2
        have HOd2 : Hid (wd2.ownsRow w.heap.size 26 1 (.slice ao2 NN2 c2) ((la ++ [at']).map (Value.int .u64)).length ((la ++ [at']).map (Value.int .u64))) := by
          rw [HWd2.out]
          exact ownsRow_keep HOG2.out (fun q hq => heap_setCell_other _ _ _ _ (ne_ty (ownsRow_ty HOG2.out hq) hP2 (by decide)))
        clear hP2
        have HOI2 : Hid (wd2.ownsRow w.heap.size 3 1 (.slice ao1 NN1 c1) ((li ++ [id]).map (Value.int .i64)).length ((li ++ [id]).map (Value.int .i64))) := by
          have h0 := ownsRow_below HOd1.out HBE2.out
          refine ownsRow_keep h0 (fun q hq => ?_)
          obtain ⟨cs, hcs⟩ := ownsRow_ty h0 hq
          rw [hcs]
          exact HKd2.out q cs _ (by decide) (ne_ty ⟨cs, hcs⟩ HPE2.out.1 (by decide)) hcs
        go_upto_region 11 with fail
        rw [← HWd2.out]
        clear cE2 cG2 fG2
        have d0 : wd2.cell? ⟨pb, 0, none⟩ = some (.int .u64 now) := by rw [cell_blkT HPd2.out]; rfl
        have d1 : wd2.cell? ⟨pb, 1, none⟩ = some (.int .i64 most) := by rw [cell_blkT HPd2.out]; rfl
        have d2 : wd2.cell? ⟨pb, 2, none⟩ = some (.slice ao1 NN1 c1) := by rw [cell_blkT HPd2.out]; rfl
        have d3 : wd2.cell? ⟨pb, 3, none⟩ = some (.slice ao2 NN2 c2) := by rw [cell_blkT HPd2.out]; rfl
        have q0 : wd2.cell? ⟨pb + 1, 0, none⟩ = some (.int .u64 0) := by rw [cell_blkT HRd2.out]; rfl
        have q1 : wd2.cell? ⟨pb + 1, 1, none⟩ = some (.int .i64 0) := by rw [cell_blkT HRd2.out]; rfl
        have q2 : wd2.cell? ⟨pb + 1, 2, none⟩ = some (.slice none 0 0) := by rw [cell_blkT HRd2.out]; rfl
        have q3 : wd2.cell? ⟨pb + 1, 3, none⟩ = some (.slice none 0 0) := by rw [cell_blkT HRd2.out]; rfl
        have f0 : ∀ k, wd2.frozen? ⟨pb + 1, k, none⟩ = false := fun k => frozen_blkT HRd2.out
        go_wp2
        obtain ⟨w4, HW4⟩ : ∃ w4, Hid (w4 = (((wd2.setCell ⟨pb + 1, 0, none⟩ (.int .u64 now)).setCell ⟨pb + 1, 1, none⟩ (.int .i64 most)).setCell ⟨pb + 1, 2, none⟩ (.slice ao1 NN1 c1)).setCell ⟨pb + 1, 3, none⟩ (.slice ao2 NN2 c2)) := ⟨_, rfl⟩
        rw [← HW4.out]
        have hw4 : w4.heap[pb + 1]? = some (.cells #[.int .u64 now, .int .i64 most, .slice ao1 NN1 c1, .slice ao2 NN2 c2] 30) := by
          rw [HW4.out, heap_setCell_same _ _ _ _ _ _ (heap_setCell_same _ _ _ _ _ _ (heap_setCell_same _ _ _ _ _ _ (heap_setCell_same _ _ _ _ _ _ HRd2.out)))]
          rfl
        have g0 : w4.cell? ⟨pb + 1, 0, none⟩ = some (.int .u64 now) := by rw [cell_blkT hw4]; rfl
        have g1 : w4.cell? ⟨pb + 1, 1, none⟩ = some (.int .i64 most) := by rw [cell_blkT hw4]; rfl
        have g2 : w4.cell? ⟨pb + 1, 2, none⟩ = some (.slice ao1 NN1 c1) := by rw [cell_blkT hw4]; rfl
        have g3 : w4.cell? ⟨pb + 1, 3, none⟩ = some (.slice ao2 NN2 c2) := by rw [cell_blkT hw4]; rfl
        have hb4 : Below w.heap.size w w4 := by
          rw [HW4.out]
          exact (((HBd2.out.setCell (p := ⟨pb + 1, 0, none⟩) (Nat.le_succ_of_le hpw) _).setCell (p := ⟨pb + 1, 1, none⟩) (Nat.le_succ_of_le hpw) _).setCell (p := ⟨pb + 1, 2, none⟩) (Nat.le_succ_of_le hpw) _).setCell (p := ⟨pb + 1, 3, none⟩) (Nat.le_succ_of_le hpw) _
        have hk4 : ∀ q, q ≠ pb + 1 → w4.heap[q]? = wd2.heap[q]? := by
          intro q hq
          rw [HW4.out, heap_setCell_other _ _ _ _ (by exact hq), heap_setCell_other _ _ _ _ (by exact hq), heap_setCell_other _ _ _ _ (by exact hq), heap_setCell_other _ _ _ _ (by exact hq)]
        refine bodyPost_ret (v := .tuple #[refV now most (.slice ao1 NN1 c1) (.slice ao2 NN2 c2), .int .i64 0]) (by simp [results, Try.results10, go_sem, refV, g0, g1, g2, g3]) rfl ?_
        have hI4 := ownsRow_keep HOI2.out (fun q hq => hk4 q (ne_ty (ownsRow_ty HOI2.out hq) HRd2.out (by decide)))
        have hA4 := ownsRow_keep HOd2.out (fun q hq => hk4 q (ne_ty (ownsRow_ty HOd2.out hq) HRd2.out (by decide)))
        exact ⟨_, _, li ++ [id], la ++ [at'], 0, rfl, RowI.of hI4, RowU.of hA4, hb4, .inl ⟨rfl, HNI.out, by rw [← Hn.out]; exact hmo', rfl, rfl, fun q hq => (World.ownsRow.lt hI4 q hq).1, fun q hq => (World.ownsRow.lt hA4 q hq).1⟩⟩

/-- What a Stop of the document's answers. -/
def RStopW (w : World) (now most : Int) (vi va : Value) (li la : List Int) (id : Int) (e : Ending) (w' : World) : Prop :=
  ∃ vi' va' li' la' b, e = .returned (.tuple #[refV now most vi' va', .bool b]) ∧ RowI w' vi' li' ∧ RowU w' va' la' ∧ Below w.heap.size w w' ∧
    ((b = true ∧ ∃ i, li[i]? = some id ∧ li' = li.eraseIdx i ∧ la' = la.eraseIdx i ∧ (∀ k, vi'.ownBlock = some k → w.heap.size ≤ k) ∧ (∀ k, va'.ownBlock = some k → w.heap.size ≤ k)) ∨
     (b = false ∧ id ∉ li ∧ li' = li ∧ la' = la ∧ vi' = vi ∧ va' = va))

set_option maxRecDepth 100000 in
set_option maxHeartbeats 2000000 in
theorem rstop_calls (now most : Int) (vi va : Value) (li la : List Int) (id : Int) (w : World) (hl : li.length * 8 ≤ 140737488355328) (hll : la.length = li.length) (hi : RowI w vi li) (ha : RowU w va la) :
    Calls Try.prog 12 #[refV now most vi va, .int .i64 id] w (RStopW w now most vi va li la id) := by
  obtain ⟨aoi, ci, rfl, hlci, hcmi, hcelli⟩ := hi.shape
  obtain ⟨aoa, ca, rfl, hlca, hcma, _⟩ := ha.shape
  have HI : Hid (RowI w (.slice aoi li.length ci) li) := hi
  have HA : Hid (RowU w (.slice aoa la.length ca) la) := ha
  have HC : Hid (∀ k (hk : k < li.length), ∃ g, aoi = some ⟨g, 0, none⟩ ∧ w.cell? ⟨g, k, none⟩ = some (.int .i64 li[k])) := hcelli
  rw [hll] at hlca HA ⊢
  obtain ⟨n, Hn⟩ : ∃ n, Hid (n = li.length) := ⟨_, rfl⟩
  have HLL : Hid (la.length = n) := hll.trans Hn.out.symm
  rw [← Hn.out] at hl hlci hlca HI HA ⊢
  clear hi ha hcelli hll
  obtain ⟨w1, HW1⟩ : ∃ w1, Hid (w1 = (w.alloc (.cells #[.int .u64 now, .int .i64 most, .slice aoi n ci, .slice aoa n ca] 30)).alloc (.cells #[.int .u64 0, .int .i64 0, .slice none 0 0, .slice none 0 0] 30)) := ⟨_, rfl⟩
  obtain ⟨pb, Hpb⟩ : ∃ pb, Hid (pb = w.heap.size) := ⟨_, rfl⟩
  have HB1 : Hid (Below w.heap.size w w1) := by rw [HW1.out]; exact ((Below.refl _ w).alloc (Nat.le_refl _) _).alloc (by simp [World.size_alloc]) _
  have HP1 : Hid (w1.heap[pb]? = some (.cells #[.int .u64 now, .int .i64 most, .slice aoi n ci, .slice aoa n ca] 30)) := by
    rw [HW1.out, Hpb.out, Below.heap_alloc _ _ _ (by simp [World.size_alloc])]; exact heap_alloc_new w _
  have HR1 : Hid (w1.heap[pb + 1]? = some (.cells #[.int .u64 0, .int .i64 0, .slice none 0 0, .slice none 0 0] 30)) := by
    rw [HW1.out, Hpb.out]
    have := heap_alloc_new (w.alloc (.cells #[.int .u64 now, .int .i64 most, .slice aoi n ci, .slice aoa n ca] 30)) (.cells #[.int .u64 0, .int .i64 0, .slice none 0 0, .slice none 0 0] 30)
    simp only [World.size_alloc] at this
    exact this
  have hpw : w.heap.size ≤ pb := Nat.le_of_eq Hpb.out.symm
  have hpb1 : w.heap.size + 1 = pb + 1 := by rw [Hpb.out]
  have p0 : w1.cell? ⟨pb, 0, none⟩ = some (.int .u64 now) := by rw [cell_blkT HP1.out]; rfl
  have p1 : w1.cell? ⟨pb, 1, none⟩ = some (.int .i64 most) := by rw [cell_blkT HP1.out]; rfl
  have p2 : w1.cell? ⟨pb, 2, none⟩ = some (.slice aoi n ci) := by rw [cell_blkT HP1.out]; rfl
  have p3 : w1.cell? ⟨pb, 3, none⟩ = some (.slice aoa n ca) := by rw [cell_blkT HP1.out]; rfl
  go_enter Try.func12, Try.ntmps12
  unfold refV
  go_upto_region 2 with fail
  rw [← HW1.out, ← Hpb.out]
  go_loopw [6, 7, 11] (fun _ _ i wr => ∃ k : Nat, k ≤ n ∧ i = .int .i64 (k : Int) ∧ Hid (∀ j (h : j < li.length), j < k → li[j] ≠ id) ∧ wr = w1) (fun _ _ i _ => n - (intOf i).toNat)
  case atStart => exact ⟨0, Nat.zero_le _, rfl, fun _ _ h => absurd h (Nat.not_lt_zero _), rfl⟩
  case round =>
    obtain ⟨k, hk, rfl, HS, rfl⟩ := hrel
    by_cases hlt : k < n
    · have k1 : k < li.length := by rw [← Hn.out]; exact hlt
      obtain ⟨g, rfl, hc0⟩ := HC.out k k1
      obtain ⟨x, Hx⟩ : ∃ x, Hid (x = li[k]'k1) := ⟨_, rfl⟩
      rw [← Hx.out] at hc0
      have hc : wr.cell? ⟨g, k, none⟩ = some (.int .i64 x) := by
        have hlt' : g < w.heap.size := by
          unfold World.cell? at hc0
          split at hc0
          · rename_i hq; exact lt_of_heapT hq
          · cases hc0
        exact (HB1.out.cell (p := ⟨g, k, none⟩) hlt').trans hc0
      clear hc0
      by_cases he : x = id
      · subst he
        have hqq : (x == x) = true := by simp
        have HIN : Hid (li[k]? = some x) := by rw [Hx.out]; exact List.getElem?_eq_getElem k1
        have HWo := rwithout_calls now most (.slice (some ⟨g, 0, none⟩) n ci) (.slice aoa n ca) li la k wr (by rw [← Hn.out]; exact hl) (HLL.out.trans Hn.out) (ownsRow_below HI.out HB1.out) (ownsRow_below HA.out HB1.out) k1
        unfold refV at HWo
        go_wp2_with fail
        refine HWo.mono ?_
        clear HWo
        rintro e w2 ⟨vi2, va2, rfl, hI2, hA2, hb2, hn2, hm2⟩
        have HB2 : Hid (Below w.heap.size w w2) := HB1.out.trans (hb2.mono HB1.out.size)
        have HR2 : Hid (w2.heap[pb + 1]? = some (.cells #[.int .u64 0, .int .i64 0, .slice none 0 0, .slice none 0 0] 30)) := (hb2.block _ (lt_of_heapT HR1.out)).trans HR1.out
        have HW2 : Hid (RowI w2 vi2 (li.eraseIdx k) ∧ RowU w2 va2 (la.eraseIdx k) ∧ (∀ q, vi2.ownBlock = some q → wr.heap.size ≤ q) ∧ (∀ q, va2.ownBlock = some q → wr.heap.size ≤ q)) := ⟨hI2, hA2, hn2, hm2⟩
        obtain ⟨ai2, ci2, hvi2⟩ := ownsRow_len hI2
        obtain ⟨aa2, ca2, hva2⟩ := ownsRow_len hA2
        obtain ⟨N1, HN1⟩ : ∃ N, Hid (N = ((li.eraseIdx k).map (Value.int .i64)).length) := ⟨_, rfl⟩
        obtain ⟨N2, HN2⟩ : ∃ N, Hid (N = ((la.eraseIdx k).map (Value.int .u64)).length) := ⟨_, rfl⟩
        rw [← HN1.out] at hvi2
        rw [← HN2.out] at hva2
        subst hvi2 hva2
        clear hI2 hA2 hb2 hn2 hm2
        have q0 : w2.cell? ⟨pb + 1, 0, none⟩ = some (.int .u64 0) := by rw [cell_blkT HR2.out]; rfl
        have q1 : w2.cell? ⟨pb + 1, 1, none⟩ = some (.int .i64 0) := by rw [cell_blkT HR2.out]; rfl
        have q2 : w2.cell? ⟨pb + 1, 2, none⟩ = some (.slice none 0 0) := by rw [cell_blkT HR2.out]; rfl
        have q3 : w2.cell? ⟨pb + 1, 3, none⟩ = some (.slice none 0 0) := by rw [cell_blkT HR2.out]; rfl
        have f0 : ∀ k, w2.frozen? ⟨pb + 1, k, none⟩ = false := fun k => frozen_blkT HR2.out
        go_wp2
        obtain ⟨w4, HW4⟩ : ∃ w4, Hid (w4 = (((w2.setCell ⟨pb + 1, 0, none⟩ (.int .u64 now)).setCell ⟨pb + 1, 1, none⟩ (.int .i64 most)).setCell ⟨pb + 1, 2, none⟩ (.slice ai2 N1 ci2)).setCell ⟨pb + 1, 3, none⟩ (.slice aa2 N2 ca2)) := ⟨_, rfl⟩
        rw [← HW4.out]
        have hw4 : w4.heap[pb + 1]? = some (.cells #[.int .u64 now, .int .i64 most, .slice ai2 N1 ci2, .slice aa2 N2 ca2] 30) := by
          rw [HW4.out, heap_setCell_same _ _ _ _ _ _ (heap_setCell_same _ _ _ _ _ _ (heap_setCell_same _ _ _ _ _ _ (heap_setCell_same _ _ _ _ _ _ HR2.out)))]
          rfl
        have g0 : w4.cell? ⟨pb + 1, 0, none⟩ = some (.int .u64 now) := by rw [cell_blkT hw4]; rfl
        have g1 : w4.cell? ⟨pb + 1, 1, none⟩ = some (.int .i64 most) := by rw [cell_blkT hw4]; rfl
        have g2 : w4.cell? ⟨pb + 1, 2, none⟩ = some (.slice ai2 N1 ci2) := by rw [cell_blkT hw4]; rfl
        have g3 : w4.cell? ⟨pb + 1, 3, none⟩ = some (.slice aa2 N2 ca2) := by rw [cell_blkT hw4]; rfl
        have hb4 : Below w.heap.size w w4 := by
          rw [HW4.out]
          exact (((HB2.out.setCell (p := ⟨pb + 1, 0, none⟩) (Nat.le_succ_of_le hpw) _).setCell (p := ⟨pb + 1, 1, none⟩) (Nat.le_succ_of_le hpw) _).setCell (p := ⟨pb + 1, 2, none⟩) (Nat.le_succ_of_le hpw) _).setCell (p := ⟨pb + 1, 3, none⟩) (Nat.le_succ_of_le hpw) _
        have hk4 : ∀ q, q ≠ pb + 1 → w4.heap[q]? = w2.heap[q]? := by
          intro q hq
          rw [HW4.out, heap_setCell_other _ _ _ _ (by exact hq), heap_setCell_other _ _ _ _ (by exact hq), heap_setCell_other _ _ _ _ (by exact hq), heap_setCell_other _ _ _ _ (by exact hq)]
        refine bodyPost_ret (v := .tuple #[refV now most (.slice ai2 N1 ci2) (.slice aa2 N2 ca2), .bool true]) (by simp [results, Try.results12, go_sem, refV, g0, g1, g2, g3]) rfl ?_
        have hI4 := ownsRow_keep HW2.out.1 (fun q hq => hk4 q (ne_ty (ownsRow_ty HW2.out.1 hq) HR2.out (by decide)))
        have hA4 := ownsRow_keep HW2.out.2.1 (fun q hq => hk4 q (ne_ty (ownsRow_ty HW2.out.2.1 hq) HR2.out (by decide)))
        exact ⟨_, _, _, _, true, rfl, hI4, hA4, hb4, .inl ⟨rfl, k, HIN.out, rfl, rfl, fun q hq => Nat.le_trans HB1.out.size (HW2.out.2.2.1 q hq), fun q hq => Nat.le_trans HB1.out.size (HW2.out.2.2.2 q hq)⟩⟩
      · have hqq : (x == id) = false := by simpa using he
        have HS2 : Hid (∀ j (h : j < li.length), j < k + 1 → li[j] ≠ id) := by
          intro j h1 h2
          by_cases hj : j = k
          · subst hj
            rw [← Hx.out]; exact he
          · exact HS.out j h1 (by omega)
        clear Hx HS
        go_wp2
        go_roundw
        case rel => exact ⟨k + 1, by omega, by go_num, HS2, by trivial⟩
        case measure => simp [intOf]; omega
    · have hkn : k = n := by omega
      subst hkn
      have HNI : Hid (id ∉ li) := by
        intro hm
        obtain ⟨j, hj, he⟩ := List.getElem_of_mem hm
        exact HS.out j hj (by rw [Hn.out]; exact hj) he
      clear HS
      have d0 : wr.cell? ⟨pb, 0, none⟩ = some (.int .u64 now) := by rw [cell_blkT HP1.out]; rfl
      have d1 : wr.cell? ⟨pb, 1, none⟩ = some (.int .i64 most) := by rw [cell_blkT HP1.out]; rfl
      have d2 : wr.cell? ⟨pb, 2, none⟩ = some (.slice aoi k ci) := by rw [cell_blkT HP1.out]; rfl
      have d3 : wr.cell? ⟨pb, 3, none⟩ = some (.slice aoa k ca) := by rw [cell_blkT HP1.out]; rfl
      have q0 : wr.cell? ⟨pb + 1, 0, none⟩ = some (.int .u64 0) := by rw [cell_blkT HR1.out]; rfl
      have q1 : wr.cell? ⟨pb + 1, 1, none⟩ = some (.int .i64 0) := by rw [cell_blkT HR1.out]; rfl
      have q2 : wr.cell? ⟨pb + 1, 2, none⟩ = some (.slice none 0 0) := by rw [cell_blkT HR1.out]; rfl
      have q3 : wr.cell? ⟨pb + 1, 3, none⟩ = some (.slice none 0 0) := by rw [cell_blkT HR1.out]; rfl
      have f0 : ∀ k, wr.frozen? ⟨pb + 1, k, none⟩ = false := fun k => frozen_blkT HR1.out
      go_wp2
      obtain ⟨w4, HW4⟩ : ∃ w4, Hid (w4 = (((wr.setCell ⟨pb + 1, 0, none⟩ (.int .u64 now)).setCell ⟨pb + 1, 1, none⟩ (.int .i64 most)).setCell ⟨pb + 1, 2, none⟩ (.slice aoi k ci)).setCell ⟨pb + 1, 3, none⟩ (.slice aoa k ca)) := ⟨_, rfl⟩
      rw [← HW4.out]
      have hw4 : w4.heap[pb + 1]? = some (.cells #[.int .u64 now, .int .i64 most, .slice aoi k ci, .slice aoa k ca] 30) := by
        rw [HW4.out, heap_setCell_same _ _ _ _ _ _ (heap_setCell_same _ _ _ _ _ _ (heap_setCell_same _ _ _ _ _ _ (heap_setCell_same _ _ _ _ _ _ HR1.out)))]
        rfl
      have g0 : w4.cell? ⟨pb + 1, 0, none⟩ = some (.int .u64 now) := by rw [cell_blkT hw4]; rfl
      have g1 : w4.cell? ⟨pb + 1, 1, none⟩ = some (.int .i64 most) := by rw [cell_blkT hw4]; rfl
      have g2 : w4.cell? ⟨pb + 1, 2, none⟩ = some (.slice aoi k ci) := by rw [cell_blkT hw4]; rfl
      have g3 : w4.cell? ⟨pb + 1, 3, none⟩ = some (.slice aoa k ca) := by rw [cell_blkT hw4]; rfl
      have hb4 : Below w.heap.size w w4 := by
        rw [HW4.out]
        exact (((HB1.out.setCell (p := ⟨pb + 1, 0, none⟩) (Nat.le_succ_of_le hpw) _).setCell (p := ⟨pb + 1, 1, none⟩) (Nat.le_succ_of_le hpw) _).setCell (p := ⟨pb + 1, 2, none⟩) (Nat.le_succ_of_le hpw) _).setCell (p := ⟨pb + 1, 3, none⟩) (Nat.le_succ_of_le hpw) _
      have hk4 : ∀ q, q ≠ pb + 1 → w4.heap[q]? = wr.heap[q]? := by
        intro q hq
        rw [HW4.out, heap_setCell_other _ _ _ _ (by exact hq), heap_setCell_other _ _ _ _ (by exact hq), heap_setCell_other _ _ _ _ (by exact hq), heap_setCell_other _ _ _ _ (by exact hq)]
      refine bodyPost_ret (v := .tuple #[refV now most (.slice aoi k ci) (.slice aoa k ca), .bool false]) (by simp [results, Try.results12, go_sem, refV, g0, g1, g2, g3]) rfl ?_
      refine ⟨_, _, li, la, false, rfl, ?_, ?_, hb4, .inr ⟨rfl, HNI.out, rfl, rfl, rfl, rfl⟩⟩
      · exact ownsRow_below HI.out hb4
      · exact ownsRow_below HA.out hb4
end Go.Proofs.Ytedhjdkhfndinaa
