/- Layer 14 (timers): takeFirst. -/
import Derived.Test.YtedhjdkhfndinaaTiSet
namespace Go.Proofs.Ytedhjdkhfndinaa
open Go.RowKit Go.MapKept
set_option linter.unusedVariables false
variable {S S' : Nat → Prop} {wb mb : Nat} {most now sets : Int} {v : Value} {L : List Tm}

/-- What takeFirst leaves. -/
def TakeW (w : World) (S : Nat → Prop) (wb mb : Nat) (most now sets : Int) (L : List Tm) (x : Tm) (e : Ending) (w' : World) : Prop :=
  ∃ (v' : Value) (L' : List Tm), e = .returned (.int .i64 x.id) ∧ WhAt w' S wb mb most now sets v' L' ∧ (L' ++ [x]).Perm L ∧ Frm S w w' ∧ w'.heap.size = w.heap.size

set_option maxRecDepth 100000 in
set_option maxHeartbeats 1000000 in
theorem take_calls (w : World) (n : Nat) (x : Tm) (h : WhAt w S wb mb most now sets v L) (hn : L.length = n + 1) (hx : L[0]? = some x) (hl : n + 1 ≤ 140737488355328) :
    Calls Try.prog 28 #[.pointer (some ⟨wb, 0, none⟩)] w (TakeW w S wb mb most now sets L x) := by
  have HL := hpop_calls wb n v L x (wCell most now sets v mb) w h.blk rfl h.pn h.hp hn hx hl
  have HH : Hid (WhAt w S wb mb most now sets v L) := h
  have hta := assertT
  clear h hx
  go_enter Try.func28, Try.ntmps28
  go_wp2_with fail
  refine HL.mono ?_
  clear HL
  rintro e w1 ⟨rfl, v1, A, hp1, hpm, hh1, hb1, hf1, hv1, hs1, q, hq1⟩
  unfold ptrT
  have hb1' : w1.heap[wb]? = some (.cells (wCell most now sets v1 mb) 60) := by rw [hb1]; simp [wCell]
  have hFS : Frm S w w1 := hf1.weaken (fun k _ hk => by
    rcases hk with rfl | h | ⟨y, hy, rfl⟩
    · exact HH.out.sw
    · exact HH.out.sv k h
    · exact HH.out.st y hy)
  obtain ⟨M, hM, hMp⟩ := HH.out.mp
  have hM1 : MpAt w1 mb M := hM.same (hf1.block _ hM.lt (by
    rintro (e | e | ⟨y, hy, e⟩)
    · exact hM.ne HH.out.blk e.symm
    · rcases HH.out.pn.pend.2 with ⟨e0, _⟩ | ⟨g, cap', cur, e0, _, hg, _⟩
      · rw [e0] at e; cases e
      · rw [e0] at e
        simp [Value.ownBlock] at e
        exact hM.ne hg e
    · obtain ⟨i, hi⟩ := List.mem_iff_getElem?.1 hy
      exact hM.ne (HH.out.pn.tms i y hi) e))
  have hxM : (x.id, x.b) ∈ M := hMp.mem_iff.2 (List.mem_map.2 ⟨x, hpm.mem_iff.1 (by simp), rfl⟩)
  have hM1d : MpAt w1.drew mb M := hM1.same rfl
  obtain ⟨w2, M2, hdel, hM2, hMq, hF2, hs2⟩ := hM1d.del hxM 0
  have c4 : w1.cell? ⟨wb, 4, none⟩ = some (.map (some mb)) := by rw [cell_blkT hb1']; rfl
  have c0 : w1.cell? ⟨x.b, 0, none⟩ = some (.int .i64 x.id) := by rw [cell_blkT hq1]; rfl
  have n2 : ∀ (b : Nat) cs t, w1.heap[b]? = some (.cells cs t) → w2.heap[b]? = some (.cells cs t) := fun b cs t hb => (hF2.block b (lt_of_heapT (w := w1.drew) hb) (hM1d.ne hb)).trans hb
  have d0 : w2.cell? ⟨x.b, 0, none⟩ = some (.int .i64 x.id) := by rw [cell_blkT (n2 _ _ _ hq1)]; rfl
  have HE : Hid (TakeW w S wb mb most now sets L x (.returned (.int .i64 x.id)) w2) := by
    refine ⟨v1, A, rfl, ⟨n2 _ _ _ hb1', ?_, ⟨M2, hM2, ?_⟩, hh1, HH.out.sw, HH.out.sm, fun k hk => HH.out.sv k (hv1 k hk), fun y hy => HH.out.st y (hpm.mem_iff.1 (List.mem_append_left _ hy)), fun k hk => ?_⟩, hpm, ?_, hs2.trans hs1⟩
    · refine hp1.same (fun k hk => ?_) (fun y hy => ?_)
      · rcases hp1.pend.2 with ⟨e0, _⟩ | ⟨g, cap', cur, e0, _, hg, _⟩
        · rw [e0] at hk; cases hk
        · rw [e0] at hk
          simp [Value.ownBlock] at hk
          rw [← hk, n2 _ _ _ hg, hg]
      · obtain ⟨i, hi⟩ := List.mem_iff_getElem?.1 hy
        rw [n2 _ _ _ (hp1.tms i y hi), hp1.tms i y hi]
    · have h1 : ((x.id, x.b) :: M2).Perm ((A ++ [x]).map idb) := hMq.symm.trans (hMp.trans (hpm.map idb).symm)
      rw [List.map_append] at h1
      exact (h1.trans List.perm_append_comm).cons_inv
    · exact Nat.lt_of_lt_of_le (HH.out.sb k hk) (Nat.le_trans hFS.size hF2.size)
    · exact hFS.drew.trans (hF2.weaken (fun k _ e => by rw [e]; exact HH.out.sm))
  clear hp1 hpm hh1 hb1 hf1 hv1 hs1 hq1 hb1' hFS hM hMp hM1 hxM hM1d hM2 hMq hF2 hs2 n2
  go_wp2_with fail
  go_region
  go_wp2
  go_ret
  exact HE.out
end Go.Proofs.Ytedhjdkhfndinaa
