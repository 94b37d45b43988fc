/- Layer 14 (timers): the document's Advance (by gen_tiradv.py). -/
import Derived.Test.YtedhjdkhfndinaaTiRSet
namespace Go.Proofs.Ytedhjdkhfndinaa
open Go.RowKit Go.MapKept
set_option linter.unusedVariables false

/-- The timers stand in the order of their setting. -/
def Rising (D : List Tm) : Prop := D.Pairwise (fun x y => x.turn < y.turn)
theorem Least.le {D : List Tm} {j : Nat} (hr : Rising D) (h : Least (D.map (·.tm)) D.length (j : Int)) : ∃ x, D[j]? = some x ∧ ∀ y ∈ D, leT x y := by
  rcases h with ⟨_, h0⟩ | ⟨j', e, hjk, t, ht, h1, h2⟩
  · omega
  · have : j = j' := by omega
    subst this
    have hx : D[j]? = some D[j] := List.getElem?_eq_getElem hjk
    have htx : D[j].tm = t := by
      rw [List.getElem?_map, hx] at ht
      exact Option.some.inj ht
    refine ⟨D[j], hx, fun y hy => ?_⟩
    obtain ⟨q, hq, rfl⟩ := List.getElem_of_mem hy
    have hyq : (D.map (·.tm))[q]? = some D[q].tm := by rw [List.getElem?_map, List.getElem?_eq_getElem hq]; rfl
    rw [leT_iff]
    rcases Nat.lt_trichotomy q j with hlt | he | hgt
    · have := h2 q _ hlt hyq
      omega
    · subst he
      omega
    · have h3 := h1 q _ hq hyq
      have h4 := (List.pairwise_iff_getElem.1 hr) j q hjk hq hgt
      omega
theorem Rising.sub {D D' : List Tm} (h : Rising D) (hs : D'.Sublist D) : Rising D' := List.Pairwise.sublist hs h

/-- What stands between two rounds. -/
structure RAdvI (w : World) (pb : Nat) (to most : Int) (D0 : List Tm) (vi0 va0 : Value) (out vi va : Value) (fs D : List Tm) (wr : World) : Prop where
  P : wr.heap[pb]? = some (.cells #[.int .u64 to, .int .i64 most, vi, va] 30)
  R : wr.heap[pb + 1]? = some (.cells #[.int .u64 0, .int .i64 0, .slice none 0 0, .slice none 0 0] 30)
  B : Below w.heap.size w wr
  I : RowI wr vi (D.map (·.id))
  A : RowU wr va (D.map (·.tm))
  O : wr.ownsRow w.heap.size 3 1 out (fs.map idV).length (fs.map idV)
  sep : ∀ k, out.ownBlock = some k → vi.ownBlock ≠ some k
  nI : ∀ k, vi.ownBlock = some k → vi0.ownBlock = some k ∨ w.heap.size ≤ k
  nA : ∀ k, va.ownBlock = some k → va0.ownBlock = some k ∨ w.heap.size ≤ k
  perm : (fs ++ D).Perm D0
  sort : fs.Pairwise leT
  due : ∀ x ∈ fs, x.tm ≤ to
  cross : ∀ x ∈ fs, ∀ y ∈ D, leT x y
  sub : D.Sublist D0
/-- What an Advance of the document's leaves that is taken. -/
def RAdvW (w : World) (to most : Int) (vi0 va0 : Value) (D0 : List Tm) (e : Ending) (w' : World) : Prop :=
  ∃ vi va out fs D, e = .returned (.tuple #[refV to most vi va, out, .int .i64 0]) ∧ RowI w' vi (D.map (·.id)) ∧ RowU w' va (D.map (·.tm)) ∧ w'.ownsRow w.heap.size 3 1 out (fs.map idV).length (fs.map idV) ∧ Below w.heap.size w w' ∧ Fires to D0 fs D ∧ D.Sublist D0 ∧
    (∀ k, vi.ownBlock = some k → vi0.ownBlock = some k ∨ w.heap.size ≤ k) ∧ (∀ k, va.ownBlock = some k → va0.ownBlock = some k ∨ w.heap.size ≤ k)

set_option maxRecDepth 100000 in
set_option maxHeartbeats 2000000 in
theorem radv_past (now most : Int) (vi va : Value) (li la : List Int) (to : Int) (w : World) (hl : li.length * 8 ≤ 140737488355328) (hll : la.length = li.length) (HRI : RowI w vi li) (HRA : RowU w va la) (hto : to < now) :
    Calls Try.prog 15 #[refV now most vi va, .int .u64 to] w fun e w' => e = .returned (.tuple #[refV now most vi va, .slice none 0 0, .int .i64 142]) ∧ Below w.heap.size w w' := by
  obtain ⟨aoi, ci, rfl, hlci, hcmi, hcelli⟩ := HRI.shape
  obtain ⟨aoa, ca, rfl, hlca, hcma, _⟩ := HRA.shape
  have HI : Hid (RowI w (.slice aoi li.length ci) li) := HRI
  have HA : Hid (RowU w (.slice aoa la.length ca) la) := HRA
  have HC : Hid (∀ k (hk : k < li.length), ∃ g, aoi = some ⟨g, 0, none⟩ ∧ w.cell? ⟨g, k, none⟩ = some (.int .i64 li[k])) := hcelli
  rw [hll] at hlca HA ⊢
  obtain ⟨n, Hn⟩ : ∃ n, Hid (n = li.length) := ⟨_, rfl⟩
  have HLL : Hid (la.length = n) := hll.trans Hn.out.symm
  rw [← Hn.out] at hl hlci hlca HI HA ⊢
  clear hcelli hll
  obtain ⟨w1, HW1⟩ : ∃ w1, Hid (w1 = (w.alloc (.cells #[.int .u64 now, .int .i64 most, .slice aoi n ci, .slice aoa n ca] 30)).alloc (.cells #[.int .u64 0, .int .i64 0, .slice none 0 0, .slice none 0 0] 30)) := ⟨_, rfl⟩
  obtain ⟨pb, Hpb⟩ : ∃ pb, Hid (pb = w.heap.size) := ⟨_, rfl⟩
  have HB1 : Hid (Below w.heap.size w w1) := by rw [HW1.out]; exact ((Below.refl _ w).alloc (Nat.le_refl _) _).alloc (by simp [World.size_alloc]) _
  have HP1 : Hid (w1.heap[pb]? = some (.cells #[.int .u64 now, .int .i64 most, .slice aoi n ci, .slice aoa n ca] 30)) := by
    rw [HW1.out, Hpb.out, Below.heap_alloc _ _ _ (by simp [World.size_alloc])]; exact heap_alloc_new w _
  have HR1 : Hid (w1.heap[pb + 1]? = some (.cells #[.int .u64 0, .int .i64 0, .slice none 0 0, .slice none 0 0] 30)) := by
    rw [HW1.out, Hpb.out]
    have := heap_alloc_new (w.alloc (.cells #[.int .u64 now, .int .i64 most, .slice aoi n ci, .slice aoa n ca] 30)) (.cells #[.int .u64 0, .int .i64 0, .slice none 0 0, .slice none 0 0] 30)
    simp only [World.size_alloc] at this
    exact this
  have hpw : w.heap.size ≤ pb := Nat.le_of_eq Hpb.out.symm
  have hpb1 : w.heap.size + 1 = pb + 1 := by rw [Hpb.out]
  have p0 : w1.cell? ⟨pb, 0, none⟩ = some (.int .u64 now) := by rw [cell_blkT HP1.out]; rfl
  have p1 : w1.cell? ⟨pb, 1, none⟩ = some (.int .i64 most) := by rw [cell_blkT HP1.out]; rfl
  have p2 : w1.cell? ⟨pb, 2, none⟩ = some (.slice aoi n ci) := by rw [cell_blkT HP1.out]; rfl
  have p3 : w1.cell? ⟨pb, 3, none⟩ = some (.slice aoa n ca) := by rw [cell_blkT HP1.out]; rfl
  go_enter Try.func15, Try.ntmps15
  unfold refV
  go_upto_region 1 with fail
  rw [← HW1.out, ← Hpb.out]
  have d0 : w1.cell? ⟨pb, 0, none⟩ = some (.int .u64 now) := by rw [cell_blkT HP1.out]; rfl
  have d1 : w1.cell? ⟨pb, 1, none⟩ = some (.int .i64 most) := by rw [cell_blkT HP1.out]; rfl
  have d2 : w1.cell? ⟨pb, 2, none⟩ = some (.slice aoi n ci) := by rw [cell_blkT HP1.out]; rfl
  have d3 : w1.cell? ⟨pb, 3, none⟩ = some (.slice aoa n ca) := by rw [cell_blkT HP1.out]; rfl
  have q0 : w1.cell? ⟨pb + 1, 0, none⟩ = some (.int .u64 0) := by rw [cell_blkT HR1.out]; rfl
  have q1 : w1.cell? ⟨pb + 1, 1, none⟩ = some (.int .i64 0) := by rw [cell_blkT HR1.out]; rfl
  have q2 : w1.cell? ⟨pb + 1, 2, none⟩ = some (.slice none 0 0) := by rw [cell_blkT HR1.out]; rfl
  have q3 : w1.cell? ⟨pb + 1, 3, none⟩ = some (.slice none 0 0) := by rw [cell_blkT HR1.out]; rfl
  have f0 : ∀ k, w1.frozen? ⟨pb + 1, k, none⟩ = false := fun k => frozen_blkT HR1.out
  go_wp2
  obtain ⟨w4, HW4⟩ : ∃ w4, Hid (w4 = (((w1.setCell ⟨pb + 1, 0, none⟩ (.int .u64 now)).setCell ⟨pb + 1, 1, none⟩ (.int .i64 most)).setCell ⟨pb + 1, 2, none⟩ (.slice aoi n ci)).setCell ⟨pb + 1, 3, none⟩ (.slice aoa n ca)) := ⟨_, rfl⟩
  rw [← HW4.out]
  have hw4 : w4.heap[pb + 1]? = some (.cells #[.int .u64 now, .int .i64 most, .slice aoi n ci, .slice aoa n ca] 30) := by
    rw [HW4.out, heap_setCell_same _ _ _ _ _ _ (heap_setCell_same _ _ _ _ _ _ (heap_setCell_same _ _ _ _ _ _ (heap_setCell_same _ _ _ _ _ _ HR1.out)))]
    rfl
  have g0 : w4.cell? ⟨pb + 1, 0, none⟩ = some (.int .u64 now) := by rw [cell_blkT hw4]; rfl
  have g1 : w4.cell? ⟨pb + 1, 1, none⟩ = some (.int .i64 most) := by rw [cell_blkT hw4]; rfl
  have g2 : w4.cell? ⟨pb + 1, 2, none⟩ = some (.slice aoi n ci) := by rw [cell_blkT hw4]; rfl
  have g3 : w4.cell? ⟨pb + 1, 3, none⟩ = some (.slice aoa n ca) := by rw [cell_blkT hw4]; rfl
  have hb4 : Below w.heap.size w w4 := by
    rw [HW4.out]
    exact (((HB1.out.setCell (p := ⟨pb + 1, 0, none⟩) (Nat.le_succ_of_le hpw) _).setCell (p := ⟨pb + 1, 1, none⟩) (Nat.le_succ_of_le hpw) _).setCell (p := ⟨pb + 1, 2, none⟩) (Nat.le_succ_of_le hpw) _).setCell (p := ⟨pb + 1, 3, none⟩) (Nat.le_succ_of_le hpw) _
  have hk4 : ∀ q, q ≠ pb + 1 → w4.heap[q]? = w1.heap[q]? := by
    intro q hq
    rw [HW4.out, heap_setCell_other _ _ _ _ (by exact hq), heap_setCell_other _ _ _ _ (by exact hq), heap_setCell_other _ _ _ _ (by exact hq), heap_setCell_other _ _ _ _ (by exact hq)]
  refine bodyPost_ret (v := .tuple #[refV now most (.slice aoi n ci) (.slice aoa n ca), .slice none 0 0, .int .i64 142]) (by simp [results, Try.results15, go_sem, refV, g0, g1, g2, g3]) rfl ?_
  exact ⟨rfl, hb4⟩

set_option maxRecDepth 100000 in
set_option maxHeartbeats 2000000 in
theorem radv_ok (now most : Int) (vi0 va0 : Value) (D0 : List Tm) (to : Int) (w : World) (hl : (D0.length + 1) * 8 ≤ 140737488355328) (hrise : Rising D0) (HRI : RowI w vi0 (D0.map (·.id))) (HRA : RowU w va0 (D0.map (·.tm))) (hto : now ≤ to) :
    Calls Try.prog 15 #[refV now most vi0 va0, .int .u64 to] w (RAdvW w to most vi0 va0 D0) := by
  obtain ⟨aoi, ci, hvi0, _⟩ := HRI.shape
  obtain ⟨aoa, ca, hva0, _⟩ := HRA.shape
  rw [List.length_map] at hvi0 hva0
  obtain ⟨n, Hn⟩ : ∃ n, Hid (n = D0.length) := ⟨_, rfl⟩
  rw [← Hn.out] at hvi0 hva0 hl
  have HRISE : Hid (Rising D0) := hrise
  obtain ⟨w1, HW1⟩ : ∃ w1, Hid (w1 = (w.alloc (.cells #[.int .u64 now, .int .i64 most, .slice aoi n ci, .slice aoa n ca] 30)).alloc (.cells #[.int .u64 0, .int .i64 0, .slice none 0 0, .slice none 0 0] 30)) := ⟨_, rfl⟩
  obtain ⟨pb, Hpb⟩ : ∃ pb, Hid (pb = w.heap.size) := ⟨_, rfl⟩
  have HB1 : Hid (Below w.heap.size w w1) := by rw [HW1.out]; exact ((Below.refl _ w).alloc (Nat.le_refl _) _).alloc (by simp [World.size_alloc]) _
  have hP1 : w1.heap[pb]? = some (.cells #[.int .u64 now, .int .i64 most, .slice aoi n ci, .slice aoa n ca] 30) := by
    rw [HW1.out, Hpb.out, Below.heap_alloc _ _ _ (by simp [World.size_alloc])]; exact heap_alloc_new w _
  have HR1 : Hid (w1.heap[pb + 1]? = some (.cells #[.int .u64 0, .int .i64 0, .slice none 0 0, .slice none 0 0] 30)) := by
    rw [HW1.out, Hpb.out]
    have := heap_alloc_new (w.alloc (.cells #[.int .u64 now, .int .i64 most, .slice aoi n ci, .slice aoa n ca] 30)) (.cells #[.int .u64 0, .int .i64 0, .slice none 0 0, .slice none 0 0] 30)
    simp only [World.size_alloc] at this
    exact this
  have hpw : w.heap.size ≤ pb := Nat.le_of_eq Hpb.out.symm
  have hpb1 : w.heap.size + 1 = pb + 1 := by rw [Hpb.out]
  have p0 : w1.cell? ⟨pb, 0, none⟩ = some (.int .u64 now) := by rw [cell_blkT hP1]; rfl
  have f0 : w1.frozen? ⟨pb, 0, none⟩ = false := frozen_blkT hP1
  obtain ⟨w2, HW2⟩ : ∃ w2, Hid (w2 = w1.setCell ⟨pb, 0, none⟩ (.int .u64 to)) := ⟨_, rfl⟩
  have HP2 : Hid (w2.heap[pb]? = some (.cells #[.int .u64 to, .int .i64 most, .slice aoi n ci, .slice aoa n ca] 30)) := by
    rw [HW2.out, heap_setCell_same _ _ _ _ _ _ hP1]; rfl
  have HR2 : Hid (w2.heap[pb + 1]? = some (.cells #[.int .u64 0, .int .i64 0, .slice none 0 0, .slice none 0 0] 30)) := by
    rw [HW2.out]; exact (heap_setCell_other _ _ _ _ (by exact Nat.succ_ne_self pb)).trans HR1.out
  have HB2 : Hid (Below w.heap.size w w2) := by rw [HW2.out]; exact HB1.out.setCell (p := ⟨pb, 0, none⟩) hpw _
  obtain ⟨w3, HW3⟩ : ∃ w3, Hid (w3 = w2.alloc (.cells #[] 3)) := ⟨_, rfl⟩
  have hb23 : Below w2.heap.size w2 w3 := by rw [HW3.out]; exact (Below.refl _ _).alloc (Nat.le_refl _) _
  have HB3 : Hid (Below w.heap.size w w3) := HB2.out.trans (hb23.mono HB2.out.size)
  have hP3 : w3.heap[pb]? = some (.cells #[.int .u64 to, .int .i64 most, .slice aoi n ci, .slice aoa n ca] 30) := (hb23.block _ (lt_of_heapT HP2.out)).trans HP2.out
  have HI3 : Hid (RAdvI w pb to most D0 vi0 va0 (.slice (some ⟨w2.heap.size, 0, none⟩) 0 0) (.slice aoi n ci) (.slice aoa n ca) [] D0 w3) := by
    refine ⟨hP3, (hb23.block _ (lt_of_heapT HR2.out)).trans HR2.out, HB3.out, ?_, ?_, ?_, ?_, ?_, ?_, List.Perm.refl _, .nil, by simp, by simp, List.Sublist.refl _⟩
    · rw [← hvi0]; exact HRI.below HB3.out
    · rw [← hva0]; exact HRA.below HB3.out
    · rw [HW3.out]
      exact ⟨rfl, .inr ⟨w2.heap.size, 0, #[], rfl, HB2.out.size, heap_alloc_new _ _, Nat.le_refl _, by decide, rfl, rfl⟩⟩
    · intro k hk e
      simp [Value.ownBlock] at hk
      rw [← hvi0] at e
      have h1 := (World.ownsRow.lt HRI k e).2
      have h2 := HB2.out.size
      omega
    · intro k hk
      rw [← hvi0] at hk; exact .inl hk
    · intro k hk
      rw [← hva0] at hk; exact .inl hk
  have hla3 : (D0.map (·.tm)).length = n := by rw [List.length_map]; exact Hn.out.symm
  have HLe := rleast_calls to most (.slice aoi n ci) (.slice aoa n ca) (D0.map (·.tm)) w3 (by omega) HI3.out.A ⟨_, _, _, rfl⟩
  rw [hla3] at HLe
  have d0 : w3.cell? ⟨pb, 0, none⟩ = some (.int .u64 to) := by rw [cell_blkT hP3]; rfl
  have d1 : w3.cell? ⟨pb, 1, none⟩ = some (.int .i64 most) := by rw [cell_blkT hP3]; rfl
  have d2 : w3.cell? ⟨pb, 2, none⟩ = some (.slice aoi n ci) := by rw [cell_blkT hP3]; rfl
  have d3 : w3.cell? ⟨pb, 3, none⟩ = some (.slice aoa n ca) := by rw [cell_blkT hP3]; rfl
  have HV0 : Hid (vi0 = .slice aoi n ci ∧ va0 = .slice aoa n ca) := ⟨hvi0, hva0⟩
  have HBASE : Hid (∀ (wr : World), Below w.heap.size w wr → RAdvW w to most vi0 va0 D0 = RAdvW w to most vi0 va0 D0) := fun _ _ => rfl
  obtain ⟨ww, Hww⟩ : ∃ ww : Ending → World → Prop, Hid (ww = RAdvW w to most vi0 va0 D0) := ⟨_, rfl⟩
  rw [← Hww.out]
  rw [hvi0, hva0]
  clear hP1 hP3 hb23 hvi0 hva0 hrise HRI HRA HBASE
  unfold refV at HLe ⊢
  go_enter Try.func15, Try.ntmps15
  go_upto_region 5 with fail
  rw [← HW1.out, ← Hpb.out, ← HW2.out, ← HW3.out]
  have hs2 : w2.heap.size = pb + 1 + 1 := by
    rw [HW2.out, HW1.out, Hpb.out]
    simp [World.size_alloc]
  rw [hs2] at HI3
  go_wp2_with fail
  refine HLe.mono ?_
  clear HLe d0 d1 d2 d3 p0 f0 hs2
  rintro e w4 ⟨i4, rfl, hL4, hb4⟩
  have HI4 : Hid (RAdvI w pb to most D0 vi0 va0 (.slice (some ⟨pb + 1 + 1, 0, none⟩) 0 0) (.slice aoi n ci) (.slice aoa n ca) [] D0 w4) := by
    have h := HI3.out
    exact ⟨(hb4.block _ (lt_of_heapT h.P)).trans h.P, (hb4.block _ (lt_of_heapT h.R)).trans h.R, h.B.trans (hb4.mono h.B.size), h.I.below hb4, h.A.below hb4, ownsRow_below h.O hb4, h.sep, h.nI, h.nA, h.perm, h.sort, h.due, h.cross, h.sub⟩
  have HL4 : Hid (Least (D0.map (·.tm)) D0.length i4) := by rw [← Hn.out]; exact hL4
  clear hL4 hb4 HI3
  go_upto_region 6 with fail
  go_loopw [7, 8] (fun out i wr => ∃ vi va fs D ii, i = .int .i64 ii ∧ Hid (RAdvI w pb to most D0 vi0 va0 out vi va fs D wr) ∧ Hid (Least (D.map (·.tm)) D.length ii)) (fun out _ _ => n - lenV out)
  case atStart => exact ⟨_, _, [], D0, i4, rfl, HI4, HL4⟩
  case round =>
    clear HI4 HL4
    obtain ⟨vi, va, fs, D, ii, rfl, HI, HL⟩ := hrel
    have hlen : fs.length + D.length = n := by have := HI.out.perm.length_eq; rw [List.length_append, ← Hn.out] at this; exact this
    obtain ⟨oo, oc, ho0⟩ := ownsRow_len HI.out.O
    rw [List.length_map] at ho0
    obtain ⟨ai, ci', hvi, _, _, hcI⟩ := HI.out.I.shape
    obtain ⟨aa, ca', hva, _, _, hcA⟩ := HI.out.A.shape
    rw [List.length_map] at hvi hva
    subst ho0 hvi hva
    have HCI : Hid (∀ k (hk : k < (D.map (·.id)).length), ∃ g, ai = some ⟨g, 0, none⟩ ∧ wr.cell? ⟨g, k, none⟩ = some (.int .i64 (D.map (·.id))[k])) := hcI
    have HCA : Hid (∀ k (hk : k < (D.map (·.tm)).length), ∃ g, aa = some ⟨g, 0, none⟩ ∧ wr.cell? ⟨g, k, none⟩ = some (.int .u64 (D.map (·.tm))[k])) := hcA
    have HPr : Hid (wr.heap[pb]? = some (.cells #[.int .u64 to, .int .i64 most, .slice ai D.length ci', .slice aa D.length ca'] 30)) := HI.out.P
    have HRr : Hid (wr.heap[pb + 1]? = some (.cells #[.int .u64 0, .int .i64 0, .slice none 0 0, .slice none 0 0] 30)) := HI.out.R
    have HBr : Hid (Below w.heap.size w wr) := HI.out.B
    have HRS : Hid (Rising D) := HRISE.out.sub HI.out.sub
    clear hcI hcA
    rcases HL.out with ⟨h0, rfl⟩ | ⟨j, rfl, hjD, t, ht, h1, h2⟩
    · have HST : Hid (∀ y ∈ D, to < y.tm) := fun y hy => by
        have : D = [] := List.eq_nil_of_length_eq_zero h0
        rw [this] at hy; cases hy
      clear h0
      have d0 : wr.cell? ⟨pb, 0, none⟩ = some (.int .u64 to) := by rw [cell_blkT HPr.out]; rfl
      have d1 : wr.cell? ⟨pb, 1, none⟩ = some (.int .i64 most) := by rw [cell_blkT HPr.out]; rfl
      have d2 : wr.cell? ⟨pb, 2, none⟩ = some (.slice ai D.length ci') := by rw [cell_blkT HPr.out]; rfl
      have d3 : wr.cell? ⟨pb, 3, none⟩ = some (.slice aa D.length ca') := by rw [cell_blkT HPr.out]; rfl
      have q0 : wr.cell? ⟨pb + 1, 0, none⟩ = some (.int .u64 0) := by rw [cell_blkT HRr.out]; rfl
      have q1 : wr.cell? ⟨pb + 1, 1, none⟩ = some (.int .i64 0) := by rw [cell_blkT HRr.out]; rfl
      have q2 : wr.cell? ⟨pb + 1, 2, none⟩ = some (.slice none 0 0) := by rw [cell_blkT HRr.out]; rfl
      have q3 : wr.cell? ⟨pb + 1, 3, none⟩ = some (.slice none 0 0) := by rw [cell_blkT HRr.out]; rfl
      have f0 : ∀ k, wr.frozen? ⟨pb + 1, k, none⟩ = false := fun k => frozen_blkT HRr.out
      go_wp2
      obtain ⟨w4, HW4⟩ : ∃ w4, Hid (w4 = (((wr.setCell ⟨pb + 1, 0, none⟩ (.int .u64 to)).setCell ⟨pb + 1, 1, none⟩ (.int .i64 most)).setCell ⟨pb + 1, 2, none⟩ (.slice ai D.length ci')).setCell ⟨pb + 1, 3, none⟩ (.slice aa D.length ca')) := ⟨_, rfl⟩
      rw [← HW4.out]
      have hw4 : w4.heap[pb + 1]? = some (.cells #[.int .u64 to, .int .i64 most, .slice ai D.length ci', .slice aa D.length ca'] 30) := by
        rw [HW4.out, heap_setCell_same _ _ _ _ _ _ (heap_setCell_same _ _ _ _ _ _ (heap_setCell_same _ _ _ _ _ _ (heap_setCell_same _ _ _ _ _ _ HRr.out)))]
        rfl
      have g0 : w4.cell? ⟨pb + 1, 0, none⟩ = some (.int .u64 to) := by rw [cell_blkT hw4]; rfl
      have g1 : w4.cell? ⟨pb + 1, 1, none⟩ = some (.int .i64 most) := by rw [cell_blkT hw4]; rfl
      have g2 : w4.cell? ⟨pb + 1, 2, none⟩ = some (.slice ai D.length ci') := by rw [cell_blkT hw4]; rfl
      have g3 : w4.cell? ⟨pb + 1, 3, none⟩ = some (.slice aa D.length ca') := by rw [cell_blkT hw4]; rfl
      have hb4 : Below w.heap.size w w4 := by
        rw [HW4.out]
        exact (((HBr.out.setCell (p := ⟨pb + 1, 0, none⟩) (Nat.le_succ_of_le hpw) _).setCell (p := ⟨pb + 1, 1, none⟩) (Nat.le_succ_of_le hpw) _).setCell (p := ⟨pb + 1, 2, none⟩) (Nat.le_succ_of_le hpw) _).setCell (p := ⟨pb + 1, 3, none⟩) (Nat.le_succ_of_le hpw) _
      have hk4 : ∀ q, q ≠ pb + 1 → w4.heap[q]? = wr.heap[q]? := by
        intro q hq
        rw [HW4.out, heap_setCell_other _ _ _ _ (by exact hq), heap_setCell_other _ _ _ _ (by exact hq), heap_setCell_other _ _ _ _ (by exact hq), heap_setCell_other _ _ _ _ (by exact hq)]
      refine bodyPost_ret (v := .tuple #[refV to most (.slice ai D.length ci') (.slice aa D.length ca'), .slice oo fs.length oc, .int .i64 0]) (by simp [results, Try.results15, go_sem, refV, g0, g1, g2, g3]) rfl ?_
      rw [Hww.out]
      have h := HI.out
      have hI4 := ownsRow_keep h.I (fun q hq => hk4 q (ne_ty (ownsRow_ty h.I hq) HRr.out (by decide)))
      have hA4 := ownsRow_keep h.A (fun q hq => hk4 q (ne_ty (ownsRow_ty h.A hq) HRr.out (by decide)))
      have hO4 := ownsRow_keep h.O (fun q hq => hk4 q (ne_ty (ownsRow_ty h.O hq) HRr.out (by decide)))
      exact ⟨_, _, _, fs, D, rfl, hI4, hA4, hO4, hb4, ⟨h.perm, h.sort, h.due, HST.out⟩, h.sub, h.nI, h.nA⟩
    · obtain ⟨x, hx, hxl⟩ := HL.out.le HRS.out
      have htx : x.tm = t := by
        rw [List.getElem?_map, hx] at ht
        exact Option.some.inj ht
      obtain ⟨ga, rfl, cA⟩ := HCA.out j (by rw [List.length_map]; exact hjD)
      obtain ⟨gi, rfl, cI⟩ := HCI.out j (by rw [List.length_map]; exact hjD)
      have hgx : D[j] = x := (List.getElem?_eq_some_iff.1 hx).2
      rw [List.getElem_map, hgx] at cA cI
      have d3 : wr.cell? ⟨pb, 3, none⟩ = some (.slice (some ⟨ga, 0, none⟩) D.length ca') := by rw [cell_blkT HPr.out]; rfl
      have d2 : wr.cell? ⟨pb, 2, none⟩ = some (.slice (some ⟨gi, 0, none⟩) D.length ci') := by rw [cell_blkT HPr.out]; rfl
      have HXL : Hid (D[j]? = some x ∧ ∀ y ∈ D, leT x y) := ⟨hx, hxl⟩
      clear ht h1 h2 hgx hx hxl htx
      by_cases hq : x.tm ≤ to
      · have hsz : w.heap.size ≤ wr.heap.size := HBr.out.size
        have hlf : (fs.map idV).length = fs.length := List.length_map ..
        go_wp2_with (at_builtin; refine append_valT _ rfl (.tmp 32) (.tmp 38) 27 3 (.int .i64 0) 8 Try.underlying27 infoI rfl rfl w.heap.size _ (fs.map idV) rfl (.int .i64 x.id) rfl _ rfl (by simp) HI.out.O (by rw [hlf]; omega) (by rw [hlf]; omega) hsz ?_)
        intro o5 w5 ho5 hg5
        have HO5 : Hid (w5.ownsRow w.heap.size 3 1 o5 ((fs ++ [x]).map idV).length ((fs ++ [x]).map idV)) := by
          show w5.ownsRow w.heap.size 3 1 o5 ((fs ++ [x]).map idV).length ((fs ++ [x]).map idV)
          rw [List.map_append, List.length_append, hlf]
          simpa [idV] using ho5
        have hK5 : ∀ (q : Nat) (cs : Array Value) (ty : TypeId), 3 ≠ ty → wr.heap[q]? = some (.cells cs ty) → w5.heap[q]? = some (.cells cs ty) := fun q cs ty hne hq => (hg5.grown.block q (lt_of_heapT hq) (fun e => ne_ty (ownsRow_ty HI.out.O e.symm) hq hne rfl)).trans hq
        have HP5 : Hid (w5.heap[pb]? = some (.cells #[.int .u64 to, .int .i64 most, .slice (some ⟨gi, 0, none⟩) D.length ci', .slice (some ⟨ga, 0, none⟩) D.length ca'] 30)) := hK5 _ _ _ (by decide) HPr.out
        have HR5 : Hid (w5.heap[pb + 1]? = some (.cells #[.int .u64 0, .int .i64 0, .slice none 0 0, .slice none 0 0] 30)) := hK5 _ _ _ (by decide) HRr.out
        have HB5 : Hid (Below w.heap.size w w5) := HBr.out.trans (hg5.toBelow hsz (fun q hq => (World.ownsRow.lt HI.out.O q hq).1))
        have HI5 : Hid (RowI w5 (.slice (some ⟨gi, 0, none⟩) D.length ci') (D.map (·.id))) := ownsRow_keep HI.out.I (fun q hq => hg5.grown.block q (World.ownsRow.lt HI.out.I q hq).2 (fun e => HI.out.sep q e.symm hq))
        have HA5 : Hid (RowU w5 (.slice (some ⟨ga, 0, none⟩) D.length ca') (D.map (·.tm))) := ownsRow_keep HI.out.A (fun q hq => by
          obtain ⟨cs, hcs⟩ := ownsRow_ty HI.out.A hq
          rw [hcs]; exact hK5 q cs _ (by decide) hcs)
        obtain ⟨oo5, oc5, hr5⟩ := ownsRow_len HO5.out
        have hlf5 : ((fs ++ [x]).map idV).length = fs.length + 1 := by simp
        rw [hlf5] at hr5
        subst hr5
        clear ho5 hg5 hK5 cA cI d2 d3
        have HWo := rwithout_calls to most (.slice (some ⟨gi, 0, none⟩) D.length ci') (.slice (some ⟨ga, 0, none⟩) D.length ca') (D.map (·.id)) (D.map (·.tm)) j w5 (by rw [List.length_map]; omega) (by rw [List.length_map, List.length_map]) HI5.out HA5.out (by rw [List.length_map]; exact hjD)
        unfold refV at HWo
        have e0 : w5.cell? ⟨pb, 0, none⟩ = some (.int .u64 to) := by rw [cell_blkT HP5.out]; rfl
        have e1 : w5.cell? ⟨pb, 1, none⟩ = some (.int .i64 most) := by rw [cell_blkT HP5.out]; rfl
        have e2 : w5.cell? ⟨pb, 2, none⟩ = some (.slice (some ⟨gi, 0, none⟩) D.length ci') := by rw [cell_blkT HP5.out]; rfl
        have e3 : w5.cell? ⟨pb, 3, none⟩ = some (.slice (some ⟨ga, 0, none⟩) D.length ca') := by rw [cell_blkT HP5.out]; rfl
        go_wp2_with fail
        refine HWo.mono ?_
        clear HWo e0 e1 e2 e3
        rintro e w6 ⟨vi6, va6, rfl, hI6, hA6, hb6, hn6, hm6⟩
        rw [eraseIdx_mapT] at hI6 hA6
        have hP6 : w6.heap[pb]? = some (.cells #[.int .u64 to, .int .i64 most, .slice (some ⟨gi, 0, none⟩) D.length ci', .slice (some ⟨ga, 0, none⟩) D.length ca'] 30) := (hb6.block _ (lt_of_heapT HP5.out)).trans HP5.out
        obtain ⟨a6, c6, hv6⟩ := ownsRow_len hI6
        obtain ⟨b6, k6, hu6⟩ := ownsRow_len hA6
        rw [List.length_map, List.length_map] at hv6 hu6
        obtain ⟨N6, HN6⟩ : ∃ N, Hid (N = (D.eraseIdx j).length) := ⟨_, rfl⟩
        rw [← HN6.out] at hv6 hu6
        have e0 : w6.cell? ⟨pb, 0, none⟩ = some (.int .u64 to) := by rw [cell_blkT hP6]; rfl
        have e1 : w6.cell? ⟨pb, 1, none⟩ = some (.int .i64 most) := by rw [cell_blkT hP6]; rfl
        have e2 : w6.cell? ⟨pb, 2, none⟩ = some (.slice (some ⟨gi, 0, none⟩) D.length ci') := by rw [cell_blkT hP6]; rfl
        have e3 : w6.cell? ⟨pb, 3, none⟩ = some (.slice (some ⟨ga, 0, none⟩) D.length ca') := by rw [cell_blkT hP6]; rfl
        have ef : ∀ k, w6.frozen? ⟨pb, k, none⟩ = false := fun k => frozen_blkT hP6
        obtain ⟨w7, HW7⟩ : ∃ w7, Hid (w7 = (((w6.setCell ⟨pb, 0, none⟩ (.int .u64 to)).setCell ⟨pb, 1, none⟩ (.int .i64 most)).setCell ⟨pb, 2, none⟩ vi6).setCell ⟨pb, 3, none⟩ va6) := ⟨_, rfl⟩
        have hP7 : w7.heap[pb]? = some (.cells #[.int .u64 to, .int .i64 most, vi6, va6] 30) := by
          rw [HW7.out, heap_setCell_same _ _ _ _ _ _ (heap_setCell_same _ _ _ _ _ _ (heap_setCell_same _ _ _ _ _ _ (heap_setCell_same _ _ _ _ _ _ hP6)))]
          rfl
        have hK7 : ∀ q, q ≠ pb → w7.heap[q]? = w6.heap[q]? := by
          intro q hq
          rw [HW7.out, heap_setCell_other _ _ _ _ (by exact hq), heap_setCell_other _ _ _ _ (by exact hq), heap_setCell_other _ _ _ _ (by exact hq), heap_setCell_other _ _ _ _ (by exact hq)]
        have hB6 : Below w.heap.size w w6 := HB5.out.trans (hb6.mono HB5.out.size)
        have hB7 : Below w.heap.size w w7 := by
          rw [HW7.out]
          exact (((hB6.setCell (p := ⟨pb, 0, none⟩) hpw _).setCell (p := ⟨pb, 1, none⟩) hpw _).setCell (p := ⟨pb, 2, none⟩) hpw _).setCell (p := ⟨pb, 3, none⟩) hpw _
        have hO6 := ownsRow_below HO5.out hb6
        have hI7 : RowI w7 vi6 ((D.eraseIdx j).map (·.id)) := ownsRow_keep hI6 (fun q hq => hK7 q (ne_ty (ownsRow_ty hI6 hq) hP6 (by decide)))
        have hA7 : RowU w7 va6 ((D.eraseIdx j).map (·.tm)) := ownsRow_keep hA6 (fun q hq => hK7 q (ne_ty (ownsRow_ty hA6 hq) hP6 (by decide)))
        have hO7 := ownsRow_keep hO6 (fun q hq => hK7 q (ne_ty (ownsRow_ty hO6 hq) hP6 (by decide)))
        have hR7 : w7.heap[pb + 1]? = some (.cells #[.int .u64 0, .int .i64 0, .slice none 0 0, .slice none 0 0] 30) := (hK7 _ (Nat.succ_ne_self pb)).trans ((hb6.block _ (lt_of_heapT HR5.out)).trans HR5.out)
        have hDp : D.Perm (x :: D.eraseIdx j) := eraseIdx_permT D j x HXL.out.1
        have HI7 : Hid (RAdvI w pb to most D0 vi0 va0 (.slice oo5 (fs.length + 1) oc5) vi6 va6 (fs ++ [x]) (D.eraseIdx j) w7) := by
          have h := HI.out
          refine ⟨hP7, hR7, hB7, hI7, hA7, hO7, fun k hk e => ?_, fun k hk => .inr (Nat.le_trans HB5.out.size (hn6 k hk)), fun k hk => .inr (Nat.le_trans HB5.out.size (hm6 k hk)), ?_, ?_, ?_, ?_, (List.eraseIdx_sublist _ _).trans h.sub⟩
          · have h1 := (World.ownsRow.lt HO5.out k hk).2
            have h2 := hn6 k e
            omega
          · refine List.Perm.trans ?_ h.perm
            rw [List.append_assoc]
            exact List.Perm.append_left fs hDp.symm
          · rw [List.pairwise_append]
            exact ⟨h.sort, by simp, fun a ha b hb => by rw [List.mem_singleton.1 hb]; exact h.cross a ha x (hDp.mem_iff.2 (by simp))⟩
          · intro y hy
            rcases List.mem_append.1 hy with hy | hy
            · exact h.due y hy
            · rw [List.mem_singleton.1 hy]; exact hq
          · intro a ha b hb
            have hbD : b ∈ D := hDp.mem_iff.2 (List.mem_cons_of_mem _ hb)
            rcases List.mem_append.1 ha with ha | ha
            · exact h.cross a ha b hbD
            · rw [List.mem_singleton.1 ha]; exact HXL.out.2 b hbD
        have hle8 : (D.eraseIdx j).length ≤ n := by have := List.length_eraseIdx_le D j; omega
        have HLe := rleast_calls to most vi6 va6 ((D.eraseIdx j).map (·.tm)) w7 (by rw [List.length_map]; omega) hA7 ⟨_, _, _, hv6⟩
        unfold refV at HLe
        have g0 : w7.cell? ⟨pb, 0, none⟩ = some (.int .u64 to) := by rw [cell_blkT hP7]; rfl
        have g1 : w7.cell? ⟨pb, 1, none⟩ = some (.int .i64 most) := by rw [cell_blkT hP7]; rfl
        have g2 : w7.cell? ⟨pb, 2, none⟩ = some vi6 := by rw [cell_blkT hP7]; rfl
        have g3 : w7.cell? ⟨pb, 3, none⟩ = some va6 := by rw [cell_blkT hP7]; rfl
        subst hv6 hu6
        clear hI6 hA6 hb6 hn6 hm6 hP6 hP7 hK7 hB6 hB7 hO6 hI7 hA7 hO7 hR7 hDp HI HP5 HR5 HB5 HI5 HA5 HO5 HPr HRr HBr
        go_upto_region 7 with fail
        rw [← HW7.out]
        clear e0 e1 e2 e3 ef
        go_wp2_with fail
        refine HLe.mono ?_
        clear HLe g0 g1 g2 g3
        rintro e w8 ⟨i8, rfl, hL8, hb8⟩
        rw [List.length_map] at hL8
        have HI8 : Hid (RAdvI w pb to most D0 vi0 va0 (.slice oo5 (fs.length + 1) oc5) (.slice a6 N6 c6) (.slice b6 N6 k6) (fs ++ [x]) (D.eraseIdx j) w8) := by
          have h := HI7.out
          exact ⟨(hb8.block _ (lt_of_heapT h.P)).trans h.P, (hb8.block _ (lt_of_heapT h.R)).trans h.R, h.B.trans (hb8.mono h.B.size), h.I.below hb8, h.A.below hb8, ownsRow_below h.O hb8, h.sep, h.nI, h.nA, h.perm, h.sort, h.due, h.cross, h.sub⟩
        have HL8 : Hid (Least ((D.eraseIdx j).map (·.tm)) (D.eraseIdx j).length i8) := hL8
        clear hL8 hb8 HI7
        go_wp2
        refine ⟨⟨_, _, fs ++ [x], D.eraseIdx j, i8, rfl, HI8, HL8⟩, ?_⟩
        simp [lenV]
        omega
      · have HST : Hid (∀ y ∈ D, to < y.tm) := fun y hy => by
          have := HXL.out.2 y hy
          rw [leT_iff] at this
          omega
        have d0 : wr.cell? ⟨pb, 0, none⟩ = some (.int .u64 to) := by rw [cell_blkT HPr.out]; rfl
        have d1 : wr.cell? ⟨pb, 1, none⟩ = some (.int .i64 most) := by rw [cell_blkT HPr.out]; rfl
        have d2 : wr.cell? ⟨pb, 2, none⟩ = some (.slice (some ⟨gi, 0, none⟩) D.length ci') := by rw [cell_blkT HPr.out]; rfl
        have d3 : wr.cell? ⟨pb, 3, none⟩ = some (.slice (some ⟨ga, 0, none⟩) D.length ca') := by rw [cell_blkT HPr.out]; rfl
        have q0 : wr.cell? ⟨pb + 1, 0, none⟩ = some (.int .u64 0) := by rw [cell_blkT HRr.out]; rfl
        have q1 : wr.cell? ⟨pb + 1, 1, none⟩ = some (.int .i64 0) := by rw [cell_blkT HRr.out]; rfl
        have q2 : wr.cell? ⟨pb + 1, 2, none⟩ = some (.slice none 0 0) := by rw [cell_blkT HRr.out]; rfl
        have q3 : wr.cell? ⟨pb + 1, 3, none⟩ = some (.slice none 0 0) := by rw [cell_blkT HRr.out]; rfl
        have f0 : ∀ k, wr.frozen? ⟨pb + 1, k, none⟩ = false := fun k => frozen_blkT HRr.out
        go_wp2
        obtain ⟨w4, HW4⟩ : ∃ w4, Hid (w4 = (((wr.setCell ⟨pb + 1, 0, none⟩ (.int .u64 to)).setCell ⟨pb + 1, 1, none⟩ (.int .i64 most)).setCell ⟨pb + 1, 2, none⟩ (.slice (some ⟨gi, 0, none⟩) D.length ci')).setCell ⟨pb + 1, 3, none⟩ (.slice (some ⟨ga, 0, none⟩) D.length ca')) := ⟨_, rfl⟩
        rw [← HW4.out]
        have hw4 : w4.heap[pb + 1]? = some (.cells #[.int .u64 to, .int .i64 most, .slice (some ⟨gi, 0, none⟩) D.length ci', .slice (some ⟨ga, 0, none⟩) D.length ca'] 30) := by
          rw [HW4.out, heap_setCell_same _ _ _ _ _ _ (heap_setCell_same _ _ _ _ _ _ (heap_setCell_same _ _ _ _ _ _ (heap_setCell_same _ _ _ _ _ _ HRr.out)))]
          rfl
        have g0 : w4.cell? ⟨pb + 1, 0, none⟩ = some (.int .u64 to) := by rw [cell_blkT hw4]; rfl
        have g1 : w4.cell? ⟨pb + 1, 1, none⟩ = some (.int .i64 most) := by rw [cell_blkT hw4]; rfl
        have g2 : w4.cell? ⟨pb + 1, 2, none⟩ = some (.slice (some ⟨gi, 0, none⟩) D.length ci') := by rw [cell_blkT hw4]; rfl
        have g3 : w4.cell? ⟨pb + 1, 3, none⟩ = some (.slice (some ⟨ga, 0, none⟩) D.length ca') := by rw [cell_blkT hw4]; rfl
        have hb4 : Below w.heap.size w w4 := by
          rw [HW4.out]
          exact (((HBr.out.setCell (p := ⟨pb + 1, 0, none⟩) (Nat.le_succ_of_le hpw) _).setCell (p := ⟨pb + 1, 1, none⟩) (Nat.le_succ_of_le hpw) _).setCell (p := ⟨pb + 1, 2, none⟩) (Nat.le_succ_of_le hpw) _).setCell (p := ⟨pb + 1, 3, none⟩) (Nat.le_succ_of_le hpw) _
        have hk4 : ∀ q, q ≠ pb + 1 → w4.heap[q]? = wr.heap[q]? := by
          intro q hq
          rw [HW4.out, heap_setCell_other _ _ _ _ (by exact hq), heap_setCell_other _ _ _ _ (by exact hq), heap_setCell_other _ _ _ _ (by exact hq), heap_setCell_other _ _ _ _ (by exact hq)]
        refine bodyPost_ret (v := .tuple #[refV to most (.slice (some ⟨gi, 0, none⟩) D.length ci') (.slice (some ⟨ga, 0, none⟩) D.length ca'), .slice oo fs.length oc, .int .i64 0]) (by simp [results, Try.results15, go_sem, refV, g0, g1, g2, g3]) rfl ?_
        rw [Hww.out]
        have h := HI.out
        have hI4 := ownsRow_keep h.I (fun q hq => hk4 q (ne_ty (ownsRow_ty h.I hq) HRr.out (by decide)))
        have hA4 := ownsRow_keep h.A (fun q hq => hk4 q (ne_ty (ownsRow_ty h.A hq) HRr.out (by decide)))
        have hO4 := ownsRow_keep h.O (fun q hq => hk4 q (ne_ty (ownsRow_ty h.O hq) HRr.out (by decide)))
        exact ⟨_, _, _, fs, D, rfl, hI4, hA4, hO4, hb4, ⟨h.perm, h.sort, h.due, HST.out⟩, h.sub, h.nI, h.nA⟩
end Go.Proofs.Ytedhjdkhfndinaa
