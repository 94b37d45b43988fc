/- Layer 2 (watch): the contracts of New, Fire, Fired. -/
import Derived.Test.YtpnmkfbdfggnaaaGreatWFire
import Derived.LaidEqlPtr
namespace Go.Proofs.YtpnmkfbdfggnaaaGreat
open Go.RowKit Go.Conc
set_option linter.unusedVariables false

set_option maxRecDepth 100000 in
set_option maxHeartbeats 1600000 in
theorem fire_again (b c : Nat) (w : World) (hw : WAt w b c true) :
    Calls Tryz.prog 151 #[.pointer (some ⟨b, 0, none⟩)] w fun e w' => e = .returned (.bool false) ∧ Touched [] w w' := by
  have hmf : ∀ (fn : Fn) (first cap : Array Value) (w : World), (Instr.makeFunc fn first cap).run Tryz.prog w = .ok (.func fn first cap) w := fun _ _ _ _ => rfl
  have hb := hw.ltb
  obtain ⟨w2, HW2⟩ : ∃ w2, Hid (w2 = (w.alloc (.cells #[.pointer (some ⟨b, 0, none⟩)] 78)).alloc (.cells #[.bool false] 4)) := ⟨_, rfl⟩
  have b3 : w2.heap[w.heap.size + 1]? = some (.cells #[.bool false] 4) := by
    rw [HW2.out]; have := heap_alloc_new (w.alloc (.cells #[.pointer (some ⟨b, 0, none⟩)] 78)) (.cells #[.bool false] 4); simpa only [World.size_alloc] using this
  have t2 : Touched [] w w2 := by rw [HW2.out]; exact ((Touched.refl _ w).alloc _).alloc _
  have hw2 : WAt w2 b c true := hw.touched t2 (by simp) (by simp)
  have c3 : w2.cell? ⟨w.heap.size + 1, 0, none⟩ = some (.bool false) := by rw [cell_of_blk b3]; rfl
  have k1 : w2.cell? ⟨b, 1, none⟩ = some (.int .u32 1) := by rw [cell_of_blk hw2.blk]; rfl
  have HT : Hid (Touched [] w w2) := t2
  clear t2 b3 hw hw2
  go_enter Tryz.func151, Tryz.ntmps151
  go_wp2_with (go_at_call 163; rw [← HW2.out]; refine (do_done ⟨b, 1, none⟩ _ w2 k1).mono ?_; rintro e w' ⟨rfl, rfl⟩)
  go_ret
  exact ⟨rfl, HT.out⟩

/-- Fire: true at the first time; behind it the watch is fired; nothing else is written. -/
theorem fire_calls (b c : Nat) (f : Bool) (w : World) (hw : WAt w b c f) :
    Calls Tryz.prog 151 #[.pointer (some ⟨b, 0, none⟩)] w fun e w' => e = .returned (.bool (!f)) ∧ Touched [b, c] w w' ∧ WAt w' b c true := by
  cases f
  · exact fire_first b c w hw
  · refine (fire_again b c w hw).mono ?_
    rintro e w' ⟨rfl, ht⟩
    exact ⟨rfl, ht.weaken (by simp), hw.touched ht (by simp) (by simp)⟩

set_option maxRecDepth 100000 in
theorem fired_no (b c : Nat) (w : World) (k0 : w.cell? ⟨b, 0, none⟩ = some (.chan (some c))) (hc : w.heap[c]? = some (.chan 0 #[] false 0 0 false)) :
    Calls Tryz.prog 34 #[.pointer (some ⟨b, 0, none⟩)] w fun e w' => e = .returned (.bool false) ∧ w' = w := by
  refine calls_of_loneTo fun cs => ?_
  have e : Frame.enter Tryz.prog 34 #[.pointer (some ⟨b, 0, none⟩)] .normal = (base 34).at ⟨#[.pointer (some ⟨b, 0, none⟩), undef, undef, undef, undef, undef, undef, undef, undef, undef], []⟩ [.code (Tryz.f34.body.getD .skip)] := by
    simp [Frame.enter, Frame.at, Tryz.func34, base, Tryz.f34]
  rw [e]
  refine LoneTo.goes (n := 40) ?_
  simp only [Tryz.f34, Option.getD_some]
  s_c stepG_seq
  s_reg
  s_op
  s_c stepG_region_end
  s_c stepG_seq
  s_reg
  s_op
  s_op
  s_op
  s_op
  s_c stepG_region_end
  s_c stepG_seq
  s_reg
  s_stop
  refine LoneTo.step (step_lone_select_default (c := c) (z := .agg #[]) (cap := 0) (s := 0) (r := 0) (tm := false) (stepG_comm (cases := #[rcase c (.agg #[])]) (blocking := false) (shape := .select) (w' := w) rfl rfl (by decide) (by simp [go_sem, execOp, rcase, Act.eval])) hc) ?_
  rw [Frame.finish_at]
  walk_nrm
  refine LoneTo.goes (n := 11) ?_
  s_op
  s_op
  s_c stepG_region_end
  s_c stepG_block
  s_cond false
  s_c stepG_seq
  s_reg
  s_op
  s_c stepG_region_end
  s_c stepG_ret'
  s_stop
  exact LoneTo.done ⟨.returned (.bool false), _, rfl, ⟨rfl, rfl⟩, rfl, rfl, rfl, rfl, _, Tryz.func34, by simp [results, Tryz.f34, Frame.at]⟩

set_option maxRecDepth 100000 in
theorem fired_yes (b c : Nat) (w : World) (k0 : w.cell? ⟨b, 0, none⟩ = some (.chan (some c))) (hc : w.heap[c]? = some (.chan 0 #[] true 0 0 false)) :
    Calls Tryz.prog 34 #[.pointer (some ⟨b, 0, none⟩)] w fun e w' => e = .returned (.bool true) ∧ w' = w := by
  refine calls_of_loneTo fun cs => ?_
  have e : Frame.enter Tryz.prog 34 #[.pointer (some ⟨b, 0, none⟩)] .normal = (base 34).at ⟨#[.pointer (some ⟨b, 0, none⟩), undef, undef, undef, undef, undef, undef, undef, undef, undef], []⟩ [.code (Tryz.f34.body.getD .skip)] := by
    simp [Frame.enter, Frame.at, Tryz.func34, base, Tryz.f34]
  rw [e]
  refine LoneTo.goes (n := 40) ?_
  simp only [Tryz.f34, Option.getD_some]
  s_c stepG_seq
  s_reg
  s_op
  s_c stepG_region_end
  s_c stepG_seq
  s_reg
  s_op
  s_op
  s_op
  s_op
  s_c stepG_region_end
  s_c stepG_seq
  s_reg
  s_stop
  refine LoneTo.step (step_lone_select_recv_shut (c := c) (z := .agg #[]) (cap := 0) (s := 0) (r := 0) (tm := false) (stepG_comm (cases := #[rcase c (.agg #[])]) (blocking := false) (shape := .select) (w' := w) rfl rfl (by decide) (by simp [go_sem, execOp, rcase, Act.eval])) hc) ?_
  rw [Frame.finish_at]
  walk_nrm
  refine LoneTo.goes (n := 11) ?_
  s_op
  s_op
  s_c stepG_region_end
  s_c stepG_block
  s_cond true
  s_c stepG_seq
  s_reg
  s_op
  s_c stepG_region_end
  s_c stepG_ret'
  s_stop
  exact LoneTo.done ⟨.returned (.bool true), _, rfl, ⟨rfl, rfl⟩, rfl, rfl, rfl, rfl, _, Tryz.func34, by simp [results, Tryz.f34, Frame.at]⟩

/-- Fired says whether the watch is fired, and turns nothing. -/
theorem fired_calls (b c : Nat) (f : Bool) (w : World) (hw : WAt w b c f) :
    Calls Tryz.prog 34 #[.pointer (some ⟨b, 0, none⟩)] w fun e w' => e = .returned (.bool f) ∧ w' = w := by
  have k0 : w.cell? ⟨b, 0, none⟩ = some (.chan (some c)) := by rw [cell_of_blk hw.blk]; rfl
  cases f
  · exact fired_no b c w k0 hw.chn
  · exact fired_yes b c w k0 hw.chn

theorem watchInfo : ∃ i, Tryz.prog.info? 159 = some i ∧ i.size = 4 := by
  have h : (Tryz.prog.info? 159).map (·.size) = some 4 := by kernel_rfl
  obtain ⟨i, hi, hb⟩ := Option.map_eq_some_iff.1 h
  exact ⟨i, hi, hb⟩
theorem eqlWatch_same (w : World) (a : Addr) : (binOp .eql 78 (.pointer (some a)) (.pointer (some a))).run Tryz.prog w = .ok (.bool true) w := by
  obtain ⟨i, hi, hb⟩ := watchInfo
  exact run_eql_ptr_same w a Tryz.underlying78 hi
theorem eqlWatch_other {w : World} {b b' c c' : Nat} {f f' : Bool} (h : WAt w b c f) (h' : WAt w b' c' f') (hne : b ≠ b') :
    (binOp .eql 78 (.pointer (some ⟨b, 0, none⟩)) (.pointer (some ⟨b', 0, none⟩))).run Tryz.prog w = .ok (.bool false) w := by
  obtain ⟨i, hi, hb⟩ := watchInfo
  exact run_eql_ptr_other w Tryz.underlying78 hi (by omega) (fun e => hne (by simpa using congrArg Addr.block e)) h.blk h'.blk

end Go.Proofs.YtpnmkfbdfggnaaaGreat
