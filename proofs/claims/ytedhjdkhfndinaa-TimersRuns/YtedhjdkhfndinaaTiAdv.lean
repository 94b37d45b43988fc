/- Layer 14 (timers): Advance. -/
import Derived.Test.YtedhjdkhfndinaaTiTake
namespace Go.Proofs.Ytedhjdkhfndinaa
open Go.RowKit Go.MapKept
set_option linter.unusedVariables false
variable {S S' : Nat → Prop} {wb mb : Nat} {most now sets : Int} {v : Value} {L : List Tm}

def idV (x : Tm) : Value := .int .i64 x.id
/-- fs are the timers of L that fire at a time, in their order, R those that stay. -/
structure Fires (now : Int) (L fs R : List Tm) : Prop where
  perm : (fs ++ R).Perm L
  sort : fs.Pairwise leT
  due : ∀ x ∈ fs, x.tm ≤ now
  stay : ∀ x ∈ R, now < x.tm

set_option maxRecDepth 100000 in
theorem adv_past (w : World) (to : Int) (h : WhAt w S wb mb most now sets v L) (hp : to < now) :
    Calls Try.prog 16 #[.pointer (some ⟨wb, 0, none⟩), .int .u64 to] w fun e w' => e = .returned (.tuple #[.slice none 0 0, .int .i64 142]) ∧ w' = w := by
  have c : w.cell? ⟨wb, 1, none⟩ = some (.int .u64 now) := by rw [cell_blkT h.blk]; rfl
  clear h
  go_enter Try.func16, Try.ntmps16
  go_wp2
  go_ret2
  exact ⟨rfl, rfl⟩

theorem infoI : (Try.prog.info? 3).map (fun i => (i.zero, i.size, i.bytes)) = some (some (.int .i64 0), 1, 8) := by kernel_rfl

def lenV : Value → Nat
  | .slice _ n _ => n
  | _ => 0
theorem ownsRow_frm {T : Nat → Prop} {w w' : World} {B : Nat} {e : TypeId} {v : Value} {n : Nat} {l : List Value} (h : w.ownsRow B e 1 v n l) (hf : Frm T w w') (hd : ∀ k, B ≤ k → ¬ T k) : w'.ownsRow B e 1 v n l := by
  refine ⟨h.1, ?_⟩
  rcases h.2 with h0 | ⟨g, cap, cur, rfl, hb, hg, r⟩
  · exact .inl h0
  · exact .inr ⟨g, cap, cur, rfl, hb, (hf.block g (lt_of_heapT hg) (hd g hb)).trans hg, r⟩
theorem ownsRow_len {w : World} {B : Nat} {e : TypeId} {v : Value} {n : Nat} {l : List Value} (h : w.ownsRow B e 1 v n l) : ∃ ao cap, v = .slice ao n cap := by
  rcases h.2 with ⟨rfl, h0⟩ | ⟨g, cap, cur, rfl, _⟩
  · exact ⟨none, 0, by rw [h0]⟩
  · exact ⟨_, _, rfl⟩
theorem Grew.frm {w w' : World} {v v' : Value} (h : Grew w w' v v') : Frm (fun k => v.ownBlock = some k) w w' := ⟨h.grown.os, h.grown.tape, h.grown.output, h.grown.size, fun k hk hn => h.grown.block k hk (fun e => hn e.symm)⟩

/-- What an Advance leaves that is taken. -/
def AdvW (w : World) (S : Nat → Prop) (wb mb : Nat) (most to sets : Int) (L : List Tm) (e : Ending) (w' : World) : Prop :=
  ∃ (r v' : Value) (fs R : List Tm), e = .returned (.tuple #[r, .int .i64 0]) ∧ WhAt w' S wb mb most to sets v' R ∧ Fires to L fs R ∧ w'.ownsRow w.heap.size 3 1 r (fs.map idV).length (fs.map idV) ∧ Frm S w w'
/-- What stands between two rounds. -/
def AdvI (w : World) (S : Nat → Prop) (wb mb : Nat) (most to sets : Int) (L : List Tm) (r : Value) (fs R : List Tm) (wr : World) : Prop :=
  (∃ v, WhAt wr S wb mb most to sets v R) ∧ (fs ++ R).Perm L ∧ fs.Pairwise leT ∧ (∀ x ∈ fs, x.tm ≤ to) ∧ (∀ x ∈ fs, ∀ y ∈ R, leT x y) ∧ wr.ownsRow w.heap.size 3 1 r (fs.map idV).length (fs.map idV) ∧ Frm S w wr

set_option maxRecDepth 100000 in
set_option maxHeartbeats 1000000 in
theorem adv_ok (w : World) (to : Int) (h : WhAt w S wb mb most now sets v L) (hp : now ≤ to) (hl : (L.length + 1) * 8 ≤ 140737488355328) :
    Calls Try.prog 16 #[.pointer (some ⟨wb, 0, none⟩), .int .u64 to] w (AdvW w S wb mb most to sets L) := by
  have c : w.cell? ⟨wb, 1, none⟩ = some (.int .u64 now) := by rw [cell_blkT h.blk]; rfl
  have f : w.frozen? ⟨wb, 1, none⟩ = false := frozen_blkT h.blk
  obtain ⟨w1, HW1⟩ : ∃ w1, Hid (w1 = w.setCell ⟨wb, 1, none⟩ (.int .u64 to)) := ⟨_, rfl⟩
  have HI0 : Hid (AdvI w S wb mb most to sets L (.slice none 0 0) [] L w1) := by
    obtain ⟨M, hM, hMp⟩ := h.mp
    rw [HW1.out]
    refine ⟨⟨v, ⟨?_, ?_, ⟨M, hM.same (heap_setCell_other _ _ _ _ (hM.ne h.blk).symm), hMp⟩, h.hp, h.sw, h.sm, h.sv, h.st, fun k hk => by simpa using h.sb k hk⟩⟩, List.Perm.refl _, .nil, by simp, by simp, World.ownsRow_nil _ _ _ _, (Frm.refl _ w).setCell _ _ (.inl h.sw)⟩
    · rw [heap_setCell_same _ _ _ _ _ _ h.blk]; simp [wCell]
    · exact h.pn.same (fun k hk => heap_setCell_other _ _ _ _ (fun e => not_FT h.pn h.blk (.inl (by rw [hk, e])))) (fun x hx => heap_setCell_other _ _ _ _ (fun e => not_FT h.pn h.blk (.inr ⟨x, hx, e⟩)))
  have HSB : Hid (∀ k, S k → k < w.heap.size) := h.sb
  clear h
  go_enter Try.func16, Try.ntmps16
  go_upto_region 5 with fail
  rw [← HW1.out]
  go_loopw [6] (fun r wr => ∃ fs R, Hid (AdvI w S wb mb most to sets L r fs R wr)) (fun r _ => L.length - lenV r)
  case atStart => exact ⟨[], L, HI0⟩
  case round =>
    clear HI0 c f
    obtain ⟨fs, R, HI⟩ := hrel
    obtain ⟨vr, hvr⟩ := HI.out.1
    have HV : Hid (WhAt wr S wb mb most to sets vr R) := hvr
    have hlen : fs.length + R.length = L.length := by have := HI.out.2.1.length_eq; rw [List.length_append] at this; exact this
    have HDu := wdue_calls wr hvr
    clear hvr
    obtain ⟨ao, cap, hr⟩ := ownsRow_len HI.out.2.2.2.2.2.1
    rw [List.length_map] at hr
    subst hr
    cases R with
    | nil =>
      have hd : dueOf to ([] : List Tm) = false := rfl
      rw [hd] at HDu
      have HE : Hid (AdvW w S wb mb most to sets L (.returned (.tuple #[.slice ao fs.length cap, .int .i64 0])) wr) := by
        obtain ⟨_, h2, h3, h4, h5, h6, h7⟩ := HI.out
        exact ⟨_, vr, fs, [], rfl, HV.out, ⟨h2, h3, h4, by simp⟩, h6, h7⟩
      clear hd HI HV
      go_wp2_with fail
      refine HDu.mono ?_
      clear HDu
      rintro e w2 ⟨rfl, rfl⟩
      go_wp2
      go_ret2
      exact HE.out
    | cons x R =>
      by_cases hq : x.tm ≤ to
      · have hd : dueOf to (x :: R) = true := by simp [dueOf, nextOf, hq]
        rw [hd] at HDu
        have HTk := take_calls (n := R.length) wr x HV.out rfl rfl (by simp at hlen; omega)
        go_wp2_with fail
        refine HDu.mono ?_
        clear HDu hd
        rintro e w2 ⟨rfl, rfl⟩
        go_wp2_with fail
        refine HTk.mono ?_
        clear HTk
        rintro e w3 ⟨v3, R3, rfl, hW3, hpm, hf3, hs3⟩
        have HO3 : Hid (w3.ownsRow w.heap.size 3 1 (.slice ao fs.length cap) (fs.map idV).length (fs.map idV)) := ownsRow_frm HI.out.2.2.2.2.2.1 hf3 (fun k hk hs => by have := HSB.out k hs; omega)
        have HW3 : Hid (WhAt w3 S wb mb most to sets v3 R3 ∧ (R3 ++ [x]).Perm (x :: R) ∧ Frm S w w3) := ⟨hW3, hpm, HI.out.2.2.2.2.2.2.trans hf3⟩
        have hsz : w.heap.size ≤ w3.heap.size := HW3.out.2.2.size
        have hRl : R3.length = R.length := by have := hpm.length_eq; simpa using this
        clear hW3 hpm hf3 hs3
        simp at hlen
        go_wp2_with (at_builtin; refine append_valT _ rfl (.tmp 19) (.tmp 22) 27 3 (.int .i64 0) 8 Try.underlying27 infoI rfl rfl w.heap.size _ (fs.map idV) rfl (.int .i64 x.id) rfl _ rfl (by simp) HO3.out (by simp; omega) (by simp; omega) hsz ?_)
        intro r4 w4 ho4 hg4
        have HE : Hid (AdvI w S wb mb most to sets L r4 (fs ++ [x]) R3 w4) := by
          obtain ⟨_, h2, h3, h4, h5, h6, h7⟩ := HI.out
          obtain ⟨hW3, hpm, hf3⟩ := HW3.out
          have hlst : ∀ y ∈ x :: R, leT x y := WhAt.least HV.out.hp rfl
          have hsub : ∀ y ∈ R3, y ∈ x :: R := fun y hy => hpm.mem_iff.1 (List.mem_append_left _ hy)
          have hdj : ∀ k, S k → ¬ ((Value.slice ao fs.length cap).ownBlock = some k) := fun k hk e => by
            have h1 := HSB.out k hk
            have h2 := (World.ownsRow.lt HO3.out k e).1
            omega
          refine ⟨⟨v3, hW3.frm hg4.frm hdj⟩, ?_, ?_, ?_, ?_, ?_, ?_⟩
          · have : ((fs ++ [x]) ++ R3).Perm (fs ++ (x :: R)) := by
              rw [List.append_assoc]
              exact List.Perm.append_left fs (List.perm_append_comm.trans hpm)
            exact this.trans h2
          · rw [List.pairwise_append]
            exact ⟨h3, by simp, fun a ha b hb => by rw [List.mem_singleton.1 hb]; exact h5 a ha x (by simp)⟩
          · intro y hy
            rcases List.mem_append.1 hy with hy | hy
            · exact h4 y hy
            · rw [List.mem_singleton.1 hy]; exact hq
          · intro a ha b hb
            rcases List.mem_append.1 ha with ha | ha
            · exact h5 a ha b (hsub b hb)
            · rw [List.mem_singleton.1 ha]; exact hlst b (hsub b hb)
          · have e1 : (fs ++ [x]).map idV = fs.map idV ++ [.int .i64 x.id] := by simp [idV]
            rw [e1]
            simpa using ho4
          · exact ⟨hg4.grown.os.trans hf3.os, hg4.grown.tape.trans hf3.tape, hg4.grown.output.trans hf3.output, Nat.le_trans hf3.size hg4.grown.size, fun k hk hn => (hg4.grown.block k (Nat.lt_of_lt_of_le hk hf3.size) (fun e => by
              have h2 := (World.ownsRow.lt HO3.out k e.symm).1
              omega)).trans (hf3.block k hk hn)⟩
        obtain ⟨ao4, cap4, hr4⟩ := ownsRow_len ho4
        have hr5 : r4 = .slice ao4 (fs.length + 1) cap4 := by rw [hr4]
        subst hr5
        clear ho4 hg4 hr4 HI HV HW3 HO3
        go_wp2
        refine ⟨⟨fs ++ [x], R3, HE⟩, ?_⟩
        simp [lenV]
        omega
      · have hd : dueOf to (x :: R) = false := by simp [dueOf, nextOf, hq]
        rw [hd] at HDu
        have HE : Hid (AdvW w S wb mb most to sets L (.returned (.tuple #[.slice ao fs.length cap, .int .i64 0])) wr) := by
          obtain ⟨_, h2, h3, h4, h5, h6, h7⟩ := HI.out
          have hlst : ∀ y ∈ x :: R, leT x y := WhAt.least HV.out.hp rfl
          refine ⟨_, vr, fs, x :: R, rfl, HV.out, ⟨h2, h3, h4, fun y hy => ?_⟩, h6, h7⟩
          have := hlst y hy
          rw [leT_iff] at this
          omega
        clear hd HI HV
        go_wp2_with fail
        refine HDu.mono ?_
        clear HDu
        rintro e w2 ⟨rfl, rfl⟩
        go_wp2
        go_ret2
        exact HE.out
end Go.Proofs.Ytedhjdkhfndinaa
