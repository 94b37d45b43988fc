/- Layer 14 (timers): Set. -/
import Derived.Test.YtedhjdkhfndinaaTiWheel
namespace Go.Proofs.Ytedhjdkhfndinaa
open Go.RowKit Go.MapKept
set_option linter.unusedVariables false
variable {S S' : Nat → Prop} {wb mb : Nat} {most now sets : Int} {v : Value} {L : List Tm}

set_option maxRecDepth 100000 in
theorem set_twice (w : World) (id at' : Int) (h : WhAt w S wb mb most now sets v L) (x : Tm) (hx : x ∈ L) (hi : x.id = id) :
    Calls Try.prog 11 #[.pointer (some ⟨wb, 0, none⟩), .int .i64 id, .int .u64 at'] w fun e w' => e = .returned (.int .i64 141) ∧ w' = w := by
  obtain ⟨M, hM, hp⟩ := h.mp
  have hlk := hM.look (id := id) (b := x.b) (hp.mem_iff.2 (List.mem_map.2 ⟨x, hx, by rw [← hi]; rfl⟩))
  have c : w.cell? ⟨wb, 4, none⟩ = some (.map (some mb)) := by rw [cell_blkT h.blk]; rfl
  clear h hM hp hx hi
  go_enter Try.func11, Try.ntmps11
  go_wp2
  go_ret
  exact ⟨rfl, rfl⟩

set_option maxRecDepth 100000 in
theorem set_full (w : World) (id at' : Int) (h : WhAt w S wb mb most now sets v L) (hi : ∀ x ∈ L, x.id ≠ id) (hm : most ≤ (L.length : Int)) :
    Calls Try.prog 11 #[.pointer (some ⟨wb, 0, none⟩), .int .i64 id, .int .u64 at'] w fun e w' => e = .returned (.int .i64 140) ∧ ∃ n, w' = w.drewN n := by
  obtain ⟨M, hM, hp⟩ := h.mp
  obtain ⟨ao, cap, rfl, hml⟩ := h.pn.len
  have hlk := hM.lookNo (id := id) (h.no hi hp)
  have c : w.cell? ⟨wb, 4, none⟩ = some (.map (some mb)) := by rw [cell_blkT h.blk]; rfl
  have c3 : w.cell? ⟨wb, 3, none⟩ = some (.slice ao L.length cap) := by rw [cell_blkT h.blk]; rfl
  have c0 : w.cell? ⟨wb, 0, none⟩ = some (.int .i64 most) := by rw [cell_blkT h.blk]; rfl
  clear h hM hp hi
  go_enter Try.func11, Try.ntmps11
  go_wp2_with fail
  go_quiet (fail)
  go_wp2
  go_ret
  exact ⟨rfl, _, rfl⟩

/-- What a Set leaves that is taken. -/
def SetW (w : World) (S : Nat → Prop) (wb mb : Nat) (most now sets : Int) (L : List Tm) (id at' : Int) (e : Ending) (w' : World) : Prop :=
  ∃ (v' : Value) (L' : List Tm) (b : Nat) (S' : Nat → Prop), e = .returned (.int .i64 0) ∧ WhAt w' S' wb mb most now (sets + 1) v' L' ∧ L'.Perm (L ++ [⟨id, at', sets + 1, b⟩]) ∧ Frm S w w' ∧ (∀ k, S' k → S k ∨ (w.heap.size ≤ k ∧ k < w'.heap.size))

set_option maxRecDepth 100000 in
set_option maxHeartbeats 1000000 in
theorem set_ok (w : World) (id at' : Int) (h : WhAt w S wb mb most now sets v L) (hi : ∀ x ∈ L, x.id ≠ id) (hm : (L.length : Int) < most) (h0 : 0 ≤ sets) (h1 : sets + 1 ≤ 18446744073709551615) (hl : (L.length + 1) * 8 ≤ 140737488355328) :
    Calls Try.prog 11 #[.pointer (some ⟨wb, 0, none⟩), .int .i64 id, .int .u64 at'] w (SetW w S wb mb most now sets L id at') := by
  obtain ⟨M, hM, hp⟩ := h.mp
  have HNO : Hid (∀ p ∈ M, p.1 ≠ id) := h.no hi hp
  have hlk := hM.lookNo (id := id) HNO.out
  have c : w.cell? ⟨wb, 4, none⟩ = some (.map (some mb)) := by rw [cell_blkT h.blk]; rfl
  obtain ⟨ao, cap, hv, hml⟩ := h.pn.len
  have c3 : w.cell? ⟨wb, 3, none⟩ = some (.slice ao L.length cap) := by rw [cell_blkT h.blk, ← hv]; rfl
  have c0 : w.cell? ⟨wb, 0, none⟩ = some (.int .i64 most) := by rw [cell_blkT h.blk]; rfl
  have HH : Hid (WhAt w S wb mb most now sets v L ∧ MpAt w mb M ∧ M.Perm (L.map idb)) := ⟨h, hM, hp⟩
  clear h hM hp hi
  go_enter Try.func11, Try.ntmps11
  go_wp2_with fail
  go_quiet (fail)
  obtain ⟨w0, HW0⟩ : ∃ w0, Hid (w0 = w.drewN nq) := ⟨_, rfl⟩
  have HF0 : Hid (Frm S w w0 ∧ w0.heap.size = w.heap.size ∧ MpAt w0 mb M ∧ WhAt w0 S wb mb most now sets v L) := by
    rw [HW0.out]
    exact ⟨Frm.ofDraws _ _ _, by simp, HH.out.2.1.same rfl, HH.out.1.draws _⟩
  have HPM : Hid (M.Perm (L.map idb)) := HH.out.2.2
  rw [← HW0.out]
  clear c c3 c0 hlk HW0 HH
  have b0 := HF0.out.2.2.2.blk
  have c2 : w0.cell? ⟨wb, 2, none⟩ = some (.int .u64 sets) := by rw [cell_blkT b0]; rfl
  have f2 : w0.frozen? ⟨wb, 2, none⟩ = false := frozen_blkT b0
  have hw : (sets + 1) % 18446744073709551616 = sets + 1 := by omega
  obtain ⟨w1, HW1⟩ : ∃ w1, Hid (w1 = w0.setCell ⟨wb, 2, none⟩ (.int .u64 (sets + 1))) := ⟨_, rfl⟩
  have b1 : w1.heap[wb]? = some (.cells (wCell most now (sets + 1) v mb) 60) := by
    rw [HW1.out, heap_setCell_same _ _ _ _ _ _ b0]; simp [wCell]
  have d2 : w1.cell? ⟨wb, 2, none⟩ = some (.int .u64 (sets + 1)) := by rw [cell_blkT b1]; rfl
  have HF1 : Hid (Frm S w w1 ∧ w1.heap.size = w.heap.size ∧ MpAt w1 mb M ∧ PnAt w1 v L) := by
    have hW := HF0.out.2.2.2
    rw [HW1.out]
    refine ⟨HF0.out.1.setCell _ _ (.inl hW.sw), by simpa using HF0.out.2.1, HF0.out.2.2.1.same (heap_setCell_other _ _ _ _ (HF0.out.2.2.1.ne b0).symm), hW.pn.same (fun k hk => heap_setCell_other _ _ _ _ (fun e => not_FT hW.pn b0 (.inl (by rw [hk, e])))) (fun x hx => heap_setCell_other _ _ _ _ (fun e => not_FT hW.pn b0 (.inr ⟨x, hx, e⟩)))⟩
  have hs10 : w1.heap.size = w0.heap.size := HF1.out.2.1.trans HF0.out.2.1.symm
  obtain ⟨b, Hb⟩ : ∃ b, Hid (b = w0.heap.size) := ⟨_, rfl⟩
  obtain ⟨w2, HW2⟩ : ∃ w2, Hid (w2 = w1.alloc (.cells (tcell ⟨id, at', sets + 1, b⟩ 0) 64)) := ⟨_, rfl⟩
  have HB2 : Hid (Below w1.heap.size w1 w2) := by rw [HW2.out]; exact (Below.refl _ w1).alloc (Nat.le_refl _) _
  have HX2 : Hid (w2.heap[b]? = some (.cells (tcell ⟨id, at', sets + 1, b⟩ 0) 64)) := by
    rw [HW2.out, Hb.out, ← hs10]
    exact heap_alloc_new w1 _
  have b2 : w2.heap[wb]? = some (.cells (wCell most now (sets + 1) v mb) 60) := (HB2.out.block _ (lt_of_heapT b1)).trans b1
  have HM2 : Hid (MpAt w2 mb M) := HF1.out.2.2.1.same (HB2.out.block _ HF1.out.2.2.1.lt)
  obtain ⟨w3, hup, hM3, hF3, hs3⟩ := HM2.out.upd (b := b) HNO.out
  have c4 : w2.cell? ⟨wb, 4, none⟩ = some (.map (some mb)) := by rw [cell_blkT b2]; rfl
  have b3 : w3.heap[wb]? = some (.cells (wCell most now (sets + 1) v mb) 60) := (hF3.block _ (lt_of_heapT b2) (HM2.out.ne b2)).trans b2
  have HX3 : Hid (w3.heap[b]? = some (.cells (tcell ⟨id, at', sets + 1, b⟩ 0) 64)) := (hF3.block _ (lt_of_heapT HX2.out) (HM2.out.ne HX2.out)).trans HX2.out
  have HP3 : Hid (PnAt w3 v L) := by
    have hp2 := HF1.out.2.2.2.below HB2.out
    refine hp2.frm hF3 (fun k hk => ?_) (fun x hx => ?_)
    · rcases hp2.pend.2 with ⟨e0, _⟩ | ⟨g, cap', cur, e0, _, hg, _⟩
      · rw [e0] at hk; cases hk
      · rw [e0] at hk
        simp [Value.ownBlock] at hk
        rw [← hk]
        exact HM2.out.ne hg
    · obtain ⟨i, hi⟩ := List.mem_iff_getElem?.1 hx
      exact HM2.out.ne (hp2.tms i x hi)
  have HNE : Hid (∀ y ∈ L, y.b ≠ b) := fun y hy e => by
    have := HF1.out.2.2.2.ltb y hy
    rw [e, Hb.out, hs10] at this
    exact Nat.lt_irrefl _ this
  have HL := hpush_calls wb 0 v L ⟨id, at', sets + 1, b⟩ (wCell most now (sets + 1) v mb) w3 b3 rfl HP3.out HF0.out.2.2.2.hp HX3.out HNE.out hl
  have HS3 : Hid (w.heap.size ≤ w3.heap.size ∧ Frm S w w3 ∧ w.heap.size = b) := by
    have hf2 : Frm S w w2 := HF1.out.1.trans (Frm.ofBelow HB2.out S)
    refine ⟨?_, hf2.trans (hF3.weaken (fun k _ e => by rw [e]; exact HF0.out.2.2.2.sm)), by rw [Hb.out]; exact HF0.out.2.1.symm⟩
    rw [hs3]; exact hf2.size
  have HM3 : Hid (MpAt w3 mb (M ++ [(id, b)])) := hM3
  have HB3 : Hid (w3.heap[wb]? = some (.cells (wCell most now (sets + 1) v mb) 60)) := b3
  clear hM3 hF3 hs3 b1 b2 b3 b0
  go_upto_region 8 with fail
  rw [← HW1.out, ← Hb.out]
  unfold tcell at HW2
  dsimp only at HW2
  simp only [Int.cast_ofNat_Int] at HW2
  rw [← HW2.out]
  clear c2 d2 f2
  go_wp2_with fail
  refine HL.mono ?_
  clear HL hup
  rintro e w4 ⟨rfl, v', L', hp4, hperm, hh4, hb4, hf4, hv4⟩
  have HE : Hid (SetW w S wb mb most now sets L id at' (.returned (.int .i64 0)) w4) := by
    have hW := HF0.out.2.2.2
    have hbb := HS3.out.2.2
    refine ⟨v', L', b, fun k => S k ∨ (w.heap.size ≤ k ∧ k < w4.heap.size), rfl, ⟨?_, hp4, ⟨M ++ [(id, b)], ?_, ?_⟩, hh4, .inl hW.sw, .inl hW.sm, ?_, ?_, ?_⟩, hperm, ?_, fun k hk => hk⟩
    · rw [hb4]; simp [wCell]
    · refine HM3.out.same (hf4.block _ HM3.out.lt ?_)
      rintro (e | e | e | ⟨y, hy, e⟩)
      · exact HM3.out.ne HB3.out e.symm
      · exact HM3.out.ne HX3.out e.symm
      · rcases HP3.out.pend.2 with ⟨e0, _⟩ | ⟨g, cap', cur, e0, _, hg, _⟩
        · rw [e0] at e; cases e
        · rw [e0] at e
          simp [Value.ownBlock] at e
          exact HM3.out.ne hg e
      · obtain ⟨i, hi⟩ := List.mem_iff_getElem?.1 hy
        exact HM3.out.ne (HP3.out.tms i y hi) e
    · refine (HPM.out.append_right _).trans ?_
      have := (hperm.map idb).symm
      rw [List.map_append] at this
      exact this
    · intro k hk
      rcases hv4 k hk with h | h
      · exact .inl (hW.sv k h)
      · exact .inr ⟨Nat.le_trans HS3.out.1 h, hp4.lt k hk⟩
    · intro x hx
      rcases List.mem_append.1 (hperm.mem_iff.1 hx) with h | h
      · exact .inl (hW.st x h)
      · rw [List.mem_singleton.1 h]
        exact .inr ⟨Nat.le_of_eq hbb, by rw [← List.mem_singleton.1 h]; exact hp4.ltb x hx⟩
    · rintro k (h | h)
      · exact Nat.lt_of_lt_of_le (hW.sb k h) (by rw [HF0.out.2.1]; exact Nat.le_trans HS3.out.1 hf4.size)
      · exact h.2
    · have h2 : Frm (fun k => S k ∨ w.heap.size ≤ k) w3 w4 := hf4.weaken (fun k _ hk => by
        rcases hk with rfl | rfl | h | ⟨y, hy, rfl⟩
        · exact .inl hW.sw
        · exact .inr (Nat.le_of_eq hbb)
        · exact .inl (hW.sv k h)
        · exact .inl (hW.st y hy))
      exact ((HS3.out.2.1.weaken (fun k _ hk => .inl hk)).trans h2).weaken (fun k hk h => by rcases h with h | h; exact h; omega)
  clear hp4 hperm hh4 hb4 hf4 hv4
  go_wp2
  go_ret
  exact HE.out
end Go.Proofs.Ytedhjdkhfndinaa
