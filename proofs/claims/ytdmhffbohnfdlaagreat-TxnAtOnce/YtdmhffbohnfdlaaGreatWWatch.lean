import Derived.Test.YtdmhffbohnfdlaaGreatWSync
import Derived.Laws.NewBlocks
import Derived.Conc.LoneCalls
import Derived.Conc.LoneSelect
import Derived.LaidEqlPtr
/- Layer 2 (watch): New, Fire and Fired of a watch, in one goroutine. -/
namespace Go.Proofs.YtdmhffbohnfdlaaGreat
open Go.RowKit
set_option linter.unusedVariables false

set_option maxRecDepth 100000 in
set_option maxHeartbeats 1600000 in
theorem slow_any (b c : Nat) (p1 p3 : Addr) (hp1 : p1.block ≠ b) (hp3 : p3.block ≠ b) (hpc : p3.block ≠ c) (hbc : b ≠ c) (x : Value) (w : World) (h1 : w.cell? p1 = some (.pointer (some ⟨b, 0, none⟩)))
    (h3 : w.cell? p3 = some x) (z3 : w.frozen? p3 = false) (k0 : w.cell? ⟨b, 0, none⟩ = some (.chan (some c))) (hc : w.heap[c]? = some (.chan 0 #[] false 0 0 false))
    (h0 : w.cell? ⟨b, 1, none⟩ = some (.int .u32 0)) (hm : w.cell? ⟨b, 2, none⟩ = some (.int .i32 0))
    (f0 : w.frozen? ⟨b, 1, none⟩ = false) (f1 : w.frozen? ⟨b, 2, none⟩ = false) :
    Calls Tryz.prog 166 #[.pointer (some ⟨b, 1, none⟩), .func (.func 162) #[] #[.pointer (some p1), .pointer (some p3)]] w fun e w' => e = .returned (.tuple #[]) ∧
      w' = (((shut (w.setCell ⟨b, 2, none⟩ (.int .i32 1)) c).setCell p3 (.bool true)).drew.setCell ⟨b, 1, none⟩ (.int .u32 1)).setCell ⟨b, 2, none⟩ (.int .i32 0) := by
  obtain ⟨wl, hwl⟩ : ∃ wl, wl = w.setCell ⟨b, 2, none⟩ (.int .i32 1) := ⟨_, rfl⟩
  have l0 : wl.cell? ⟨b, 1, none⟩ = some (.int .u32 0) := by rw [hwl]; exact (World.cell?_setCell_other _ ⟨b, 2, none⟩ ⟨b, 1, none⟩ _ (by simp)).trans h0
  have lm : wl.cell? ⟨b, 2, none⟩ = some (.int .i32 1) := by rw [hwl]; exact World.cell?_setCell_same w ⟨b, 2, none⟩ _ hm
  have lk : wl.cell? ⟨b, 0, none⟩ = some (.chan (some c)) := by rw [hwl]; exact (World.cell?_setCell_other _ ⟨b, 2, none⟩ ⟨b, 0, none⟩ _ (by simp)).trans k0
  have l1 : wl.cell? p1 = some (.pointer (some ⟨b, 0, none⟩)) := by rw [hwl]; exact (World.cell?_setCell_other _ ⟨b, 2, none⟩ p1 _ (fun h => hp1 (by rw [← h]))).trans h1
  have l3 : wl.cell? p3 = some x := by rw [hwl]; exact (World.cell?_setCell_other _ ⟨b, 2, none⟩ p3 _ (fun h => hp3 (by rw [← h]))).trans h3
  have lz3 : wl.frozen? p3 = false := by rw [hwl]; simp [z3]
  have lf0 : wl.frozen? ⟨b, 1, none⟩ = false := by rw [hwl]; simp [f0]
  have lf1 : wl.frozen? ⟨b, 2, none⟩ = false := by rw [hwl]; simp [f1]
  have lc : wl.heap[c]? = some (.chan 0 #[] false 0 0 false) := by rw [hwl, heap_setCell_other _ _ _ _ (by show c ≠ b; omega)]; exact hc
  have HWL : Hid (wl = w.setCell ⟨b, 2, none⟩ (.int .i32 1)) := hwl
  rw [← hwl]
  clear hwl
  have hl := run_call_load (P := Tryz.prog) Tryz.func167 (by kernel_rfl) (by kernel_rfl) (by kernel_rfl) .u32 (by kernel_rfl) (w := wl) (a := ⟨b, 1, none⟩) (x := 0) l0
  have hnot : ∀ (x : Bool) (w : World), (Op.unary .not (.bool x)).run Tryz.prog w = .ok (.bool (!x)) w := fun _ _ => rfl
  go_enter_defers Tryz.func166, Tryz.ntmps166
  go_wp2_with (first
    | (go_at_call 36; refine (lock_free ⟨b, 2, none⟩ _ hm f1).mono ?_; rintro e w' ⟨rfl, rfl⟩; rw [← HWL.out])
    | (go_at_call 165; go_in)
    | (go_at_call 162; refine (closure_calls b c p1 p3 x wl l1 lk lc l3 lz3 hpc).mono ?_; rintro e w' ⟨rfl, rfl⟩))
  -- the door: two deferred calls, the last laid first
  refine leaves_cons (f := 168) (args := #[.pointer (some ⟨b, 1, none⟩), .bool true]) (by simp) (by simp [go_sem]) ?_
  refine (store_deferred ⟨b, 1, none⟩ (.int .u32 0) .returning _ ?_ ?_).mono ?_
  · exact (World.cell?_setCell_other _ p3 ⟨b, 1, none⟩ _ (fun h => hp3 (by rw [h]))).trans ((shut_cell wl c _ hbc).trans l0)
  · rw [World.frozen?_setCell]; exact (shut_frozen wl c _ hbc).trans lf0
  rintro e u' w'' ⟨rfl, rfl, rfl⟩
  refine leaves_cons (f := 37) (args := #[.pointer (some ⟨b, 2, none⟩)]) (by simp [settle]) (by simp [go_sem]) ?_
  refine (unlock_deferred ⟨b, 2, none⟩ _ _ ?_ ?_).mono ?_
  · refine (World.cell?_setCell_other _ ⟨b, 1, none⟩ ⟨b, 2, none⟩ _ (by simp)).trans ?_
    rw [World.cell?_drew]
    exact (World.cell?_setCell_other _ p3 ⟨b, 2, none⟩ _ (fun h => hp3 (by rw [h]))).trans ((shut_cell wl c _ hbc).trans lm)
  · rw [World.frozen?_setCell]
    show ((shut wl c).setCell p3 (.bool true)).drew.frozen? ⟨b, 2, none⟩ = false
    rw [World.frozen?_drew, World.frozen?_setCell]; exact (shut_frozen wl c _ hbc).trans lf1
  rintro e u' w'' ⟨rfl, rfl, rfl⟩
  simp [Leaves, settle, results, Tryz.results166]

set_option maxRecDepth 100000 in
set_option maxHeartbeats 1600000 in
theorem do_first (b c : Nat) (p1 p3 : Addr) (hp1 : p1.block ≠ b) (hp3 : p3.block ≠ b) (hpc : p3.block ≠ c) (hbc : b ≠ c) (x : Value) (w : World) (h1 : w.cell? p1 = some (.pointer (some ⟨b, 0, none⟩)))
    (h3 : w.cell? p3 = some x) (z3 : w.frozen? p3 = false) (k0 : w.cell? ⟨b, 0, none⟩ = some (.chan (some c))) (hc : w.heap[c]? = some (.chan 0 #[] false 0 0 false))
    (h0 : w.cell? ⟨b, 1, none⟩ = some (.int .u32 0)) (hm : w.cell? ⟨b, 2, none⟩ = some (.int .i32 0))
    (f0 : w.frozen? ⟨b, 1, none⟩ = false) (f1 : w.frozen? ⟨b, 2, none⟩ = false) :
    Calls Tryz.prog 161 #[.pointer (some ⟨b, 1, none⟩), .func (.func 162) #[] #[.pointer (some p1), .pointer (some p3)]] w fun e w' => e = .returned (.tuple #[]) ∧
      w' = (((shut (w.setCell ⟨b, 2, none⟩ (.int .i32 1)) c).setCell p3 (.bool true)).drew.setCell ⟨b, 1, none⟩ (.int .u32 1)).setCell ⟨b, 2, none⟩ (.int .i32 0) := by
  have hl := run_call_load (P := Tryz.prog) Tryz.func167 (by kernel_rfl) (by kernel_rfl) (by kernel_rfl) .u32 (by kernel_rfl) h0
  have hnot : ∀ (x : Bool) (w : World), (Op.unary .not (.bool x)).run Tryz.prog w = .ok (.bool (!x)) w := fun _ _ => rfl
  go_enter Tryz.func161, Tryz.ntmps161
  go_wp2_with (first | (go_at_call 166; refine (slow_any b c p1 p3 hp1 hp3 hpc hbc x _ h1 h3 z3 k0 hc h0 hm f0 f1).mono ?_; rintro e w' ⟨rfl, rfl⟩) | (go_at_call 165; go_in))
  go_end0
  exact ⟨rfl, rfl⟩

theorem do_done (a : Addr) (fv : Value) (w : World) (h0 : w.cell? a = some (.int .u32 1)) :
    Calls Tryz.prog 161 #[.pointer (some a), fv] w fun e w' => e = .returned (.tuple #[]) ∧ w' = w := by
  have hl := run_call_load (P := Tryz.prog) Tryz.func167 (by kernel_rfl) (by kernel_rfl) (by kernel_rfl) .u32 (by kernel_rfl) h0
  have hnot : ∀ (x : Bool) (w : World), (Op.unary .not (.bool x)).run Tryz.prog w = .ok (.bool (!x)) w := fun _ _ => rfl
  go_enter Tryz.func161, Tryz.ntmps161
  go_wp2
  go_end0
  exact ⟨rfl, rfl⟩

set_option maxRecDepth 100000 in
set_option maxHeartbeats 1600000 in
theorem fire_first (b c : Nat) (w : World) (hw : WAt w b c false) :
    Calls Tryz.prog 149 #[.pointer (some ⟨b, 0, none⟩)] w fun e w' => e = .returned (.bool true) ∧ Touched [b, c] w w' ∧ WAt w' b c true := by
  have hmf : ∀ (fn : Fn) (first cap : Array Value) (w : World), (Instr.makeFunc fn first cap).run Tryz.prog w = .ok (.func fn first cap) w := fun _ _ _ _ => rfl
  have hbc : b ≠ c := hw.ne hw
  have hb := hw.ltb
  have hcl := hw.ltc
  -- the world in which Do is called
  obtain ⟨w2, HW2⟩ : ∃ w2, Hid (w2 = (w.alloc (.cells #[.pointer (some ⟨b, 0, none⟩)] 78)).alloc (.cells #[.bool false] 4)) := ⟨_, rfl⟩
  have hs2 : w2.heap.size = w.heap.size + 2 := by rw [HW2.out]; simp [World.size_alloc]
  have b1 : w2.heap[w.heap.size]? = some (.cells #[.pointer (some ⟨b, 0, none⟩)] 78) := by rw [HW2.out, Below.heap_alloc _ _ _ (by simp [World.size_alloc])]; exact heap_alloc_new w _
  have b3 : w2.heap[w.heap.size + 1]? = some (.cells #[.bool false] 4) := by
    rw [HW2.out]; have := heap_alloc_new (w.alloc (.cells #[.pointer (some ⟨b, 0, none⟩)] 78)) (.cells #[.bool false] 4); simpa only [World.size_alloc] using this
  have t2 : Touched [b, c] w w2 := by rw [HW2.out]; exact ((Touched.refl _ w).alloc _).alloc _
  have hw2 : WAt w2 b c false := by
    have : Touched [] w w2 := by rw [HW2.out]; exact ((Touched.refl _ w).alloc _).alloc _
    exact hw.touched this (by simp) (by simp)
  have c1 : w2.cell? ⟨w.heap.size, 0, none⟩ = some (.pointer (some ⟨b, 0, none⟩)) := by rw [cell_of_blk b1]; rfl
  have c3 : w2.cell? ⟨w.heap.size + 1, 0, none⟩ = some (.bool false) := by rw [cell_of_blk b3]; rfl
  have z3 : w2.frozen? ⟨w.heap.size + 1, 0, none⟩ = false := frozen_of_blk b3
  have k0 : w2.cell? ⟨b, 0, none⟩ = some (.chan (some c)) := by rw [cell_of_blk hw2.blk]; rfl
  have k1 : w2.cell? ⟨b, 1, none⟩ = some (.int .u32 0) := by rw [cell_of_blk hw2.blk]; rfl
  have k2 : w2.cell? ⟨b, 2, none⟩ = some (.int .i32 0) := by rw [cell_of_blk hw2.blk]; rfl
  have g1 : w2.frozen? ⟨b, 1, none⟩ = false := frozen_of_blk hw2.blk
  have g2 : w2.frozen? ⟨b, 2, none⟩ = false := frozen_of_blk hw2.blk
  have hc2 := hw2.chn
  -- the world behind Do
  obtain ⟨w3, HW3⟩ : ∃ w3, Hid (w3 = (((shut (w2.setCell ⟨b, 2, none⟩ (.int .i32 1)) c).setCell ⟨w.heap.size + 1, 0, none⟩ (.bool true)).drew.setCell ⟨b, 1, none⟩ (.int .u32 1)).setCell ⟨b, 2, none⟩ (.int .i32 0)) := ⟨_, rfl⟩
  have t3 : Touched [b, c] w w3 := by
    rw [HW3.out]
    exact ((((t2.setCell _ _ (by simp)).shut c (by simp)).setCell _ _ (.inr (by show _ ≤ w.heap.size + 1; omega))).drew.setCell _ _ (by simp)).setCell _ _ (by simp)
  have v3 : w3.cell? ⟨w.heap.size + 1, 0, none⟩ = some (.bool true) := by
    have nb : ∀ i : Nat, (⟨b, i, none⟩ : Addr) ≠ ⟨w.heap.size + 1, 0, none⟩ := fun i h => by have := congrArg Addr.block h; simp at this; omega
    rw [HW3.out, World.cell?_setCell_other _ _ _ _ (nb _), World.cell?_setCell_other _ _ _ _ (nb _), World.cell?_drew]
    refine World.cell?_setCell_same _ _ _ (u := .bool false) ?_
    rw [shut_cell _ _ _ (by show w.heap.size + 1 ≠ c; omega), World.cell?_setCell_other _ _ _ _ (nb _)]
    exact c3
  have hw3 : WAt w3 b c true := by
    rw [HW3.out]
    have e1 := setCell_blk (i := 2) hw2.blk (.int .i32 1)
    have e2 : (shut (w2.setCell ⟨b, 2, none⟩ (.int .i32 1)) c).heap[b]? = _ := (shut_other _ c b hbc).trans e1
    have e3 := (heap_setCell_other (shut (w2.setCell ⟨b, 2, none⟩ (.int .i32 1)) c) ⟨w.heap.size + 1, 0, none⟩ b (.bool true) (by show b ≠ w.heap.size + 1; omega)).trans e2
    have e4 : ((shut (w2.setCell ⟨b, 2, none⟩ (.int .i32 1)) c).setCell ⟨w.heap.size + 1, 0, none⟩ (.bool true)).drew.heap[b]? = _ := e3
    refine ⟨?_, ?_⟩
    · rw [setCell_blk (i := 2) (setCell_blk (i := 1) e4 (.int .u32 1)) (.int .i32 0)]
      simp [wCells]
    · rw [heap_setCell_other _ _ _ _ (by show c ≠ b; omega), heap_setCell_other _ _ _ _ (by show c ≠ b; omega)]
      show ((shut (w2.setCell ⟨b, 2, none⟩ (.int .i32 1)) c).setCell ⟨w.heap.size + 1, 0, none⟩ (.bool true)).heap[c]? = _
      rw [heap_setCell_other _ _ _ _ (by show c ≠ w.heap.size + 1; omega)]
      exact shut_same _ _ (by simp; omega)
  have HT : Hid (Touched [b, c] w w3) := t3
  have HA : Hid (WAt w3 b c true) := hw3
  clear t3 hw3 t2 b1 b3 hw
  go_enter Tryz.func149, Tryz.ntmps149
  go_wp2_with (go_at_call 161; rw [← HW2.out]; refine (do_first b c ⟨w.heap.size, 0, none⟩ ⟨w.heap.size + 1, 0, none⟩ (by simp; omega) (by simp; omega) (by simp; omega) hbc (.bool false) w2 c1 c3 z3 k0 hc2 k1 k2 g1 g2).mono ?_; rintro e w' ⟨rfl, rfl⟩; rw [← HW3.out])
  go_ret
  exact ⟨rfl, HT.out, HA.out⟩
end Go.Proofs.YtdmhffbohnfdlaaGreat

/- Layer 2 (watch): the contracts of New, Fire, Fired. -/
namespace Go.Proofs.YtdmhffbohnfdlaaGreat
open Go.RowKit Go.Conc
set_option linter.unusedVariables false

set_option maxRecDepth 100000 in
set_option maxHeartbeats 1600000 in
theorem fire_again (b c : Nat) (w : World) (hw : WAt w b c true) :
    Calls Tryz.prog 149 #[.pointer (some ⟨b, 0, none⟩)] w fun e w' => e = .returned (.bool false) ∧ Touched [] w w' := by
  have hmf : ∀ (fn : Fn) (first cap : Array Value) (w : World), (Instr.makeFunc fn first cap).run Tryz.prog w = .ok (.func fn first cap) w := fun _ _ _ _ => rfl
  have hb := hw.ltb
  obtain ⟨w2, HW2⟩ : ∃ w2, Hid (w2 = (w.alloc (.cells #[.pointer (some ⟨b, 0, none⟩)] 78)).alloc (.cells #[.bool false] 4)) := ⟨_, rfl⟩
  have b3 : w2.heap[w.heap.size + 1]? = some (.cells #[.bool false] 4) := by
    rw [HW2.out]; have := heap_alloc_new (w.alloc (.cells #[.pointer (some ⟨b, 0, none⟩)] 78)) (.cells #[.bool false] 4); simpa only [World.size_alloc] using this
  have t2 : Touched [] w w2 := by rw [HW2.out]; exact ((Touched.refl _ w).alloc _).alloc _
  have hw2 : WAt w2 b c true := hw.touched t2 (by simp) (by simp)
  have c3 : w2.cell? ⟨w.heap.size + 1, 0, none⟩ = some (.bool false) := by rw [cell_of_blk b3]; rfl
  have k1 : w2.cell? ⟨b, 1, none⟩ = some (.int .u32 1) := by rw [cell_of_blk hw2.blk]; rfl
  have HT : Hid (Touched [] w w2) := t2
  clear t2 b3 hw hw2
  go_enter Tryz.func149, Tryz.ntmps149
  go_wp2_with (go_at_call 161; rw [← HW2.out]; refine (do_done ⟨b, 1, none⟩ _ w2 k1).mono ?_; rintro e w' ⟨rfl, rfl⟩)
  go_ret
  exact ⟨rfl, HT.out⟩

/-- Fire: true at the first time; behind it the watch is fired; nothing else is written. -/
theorem fire_calls (b c : Nat) (f : Bool) (w : World) (hw : WAt w b c f) :
    Calls Tryz.prog 149 #[.pointer (some ⟨b, 0, none⟩)] w fun e w' => e = .returned (.bool (!f)) ∧ Touched [b, c] w w' ∧ WAt w' b c true := by
  cases f
  · exact fire_first b c w hw
  · refine (fire_again b c w hw).mono ?_
    rintro e w' ⟨rfl, ht⟩
    exact ⟨rfl, ht.weaken (by simp), hw.touched ht (by simp) (by simp)⟩

set_option maxRecDepth 100000 in
theorem fired_no (b c : Nat) (w : World) (k0 : w.cell? ⟨b, 0, none⟩ = some (.chan (some c))) (hc : w.heap[c]? = some (.chan 0 #[] false 0 0 false)) :
    Calls Tryz.prog 32 #[.pointer (some ⟨b, 0, none⟩)] w fun e w' => e = .returned (.bool false) ∧ w' = w := by
  refine calls_of_loneTo fun cs => ?_
  have e : Frame.enter Tryz.prog 32 #[.pointer (some ⟨b, 0, none⟩)] .normal = (base 32).at ⟨#[.pointer (some ⟨b, 0, none⟩), undef, undef, undef, undef, undef, undef, undef, undef, undef], []⟩ [.code (Tryz.f32.body.getD .skip)] := by
    simp [Frame.enter, Frame.at, Tryz.func32, base, Tryz.f32]
  rw [e]
  refine LoneTo.goes (n := 40) ?_
  simp only [Tryz.f32, Option.getD_some]
  s_c stepG_seq
  s_reg
  s_op
  s_c stepG_region_end
  s_c stepG_seq
  s_reg
  s_op
  s_op
  s_op
  s_op
  s_c stepG_region_end
  s_c stepG_seq
  s_reg
  s_stop
  refine LoneTo.step (step_lone_select_default (c := c) (z := .agg #[]) (cap := 0) (s := 0) (r := 0) (tm := false) (stepG_comm (cases := #[rcase c (.agg #[])]) (blocking := false) (shape := .select) (w' := w) rfl rfl (by decide) (by simp [go_sem, execOp, rcase, Act.eval])) hc) ?_
  rw [Frame.finish_at]
  walk_nrm
  refine LoneTo.goes (n := 11) ?_
  s_op
  s_op
  s_c stepG_region_end
  s_c stepG_block
  s_cond false
  s_c stepG_seq
  s_reg
  s_op
  s_c stepG_region_end
  s_c stepG_ret'
  s_stop
  exact LoneTo.done ⟨.returned (.bool false), _, rfl, ⟨rfl, rfl⟩, rfl, rfl, rfl, rfl, _, Tryz.func32, by simp [results, Tryz.f32, Frame.at]⟩

set_option maxRecDepth 100000 in
theorem fired_yes (b c : Nat) (w : World) (k0 : w.cell? ⟨b, 0, none⟩ = some (.chan (some c))) (hc : w.heap[c]? = some (.chan 0 #[] true 0 0 false)) :
    Calls Tryz.prog 32 #[.pointer (some ⟨b, 0, none⟩)] w fun e w' => e = .returned (.bool true) ∧ w' = w := by
  refine calls_of_loneTo fun cs => ?_
  have e : Frame.enter Tryz.prog 32 #[.pointer (some ⟨b, 0, none⟩)] .normal = (base 32).at ⟨#[.pointer (some ⟨b, 0, none⟩), undef, undef, undef, undef, undef, undef, undef, undef, undef], []⟩ [.code (Tryz.f32.body.getD .skip)] := by
    simp [Frame.enter, Frame.at, Tryz.func32, base, Tryz.f32]
  rw [e]
  refine LoneTo.goes (n := 40) ?_
  simp only [Tryz.f32, Option.getD_some]
  s_c stepG_seq
  s_reg
  s_op
  s_c stepG_region_end
  s_c stepG_seq
  s_reg
  s_op
  s_op
  s_op
  s_op
  s_c stepG_region_end
  s_c stepG_seq
  s_reg
  s_stop
  refine LoneTo.step (step_lone_select_recv_shut (c := c) (z := .agg #[]) (cap := 0) (s := 0) (r := 0) (tm := false) (stepG_comm (cases := #[rcase c (.agg #[])]) (blocking := false) (shape := .select) (w' := w) rfl rfl (by decide) (by simp [go_sem, execOp, rcase, Act.eval])) hc) ?_
  rw [Frame.finish_at]
  walk_nrm
  refine LoneTo.goes (n := 11) ?_
  s_op
  s_op
  s_c stepG_region_end
  s_c stepG_block
  s_cond true
  s_c stepG_seq
  s_reg
  s_op
  s_c stepG_region_end
  s_c stepG_ret'
  s_stop
  exact LoneTo.done ⟨.returned (.bool true), _, rfl, ⟨rfl, rfl⟩, rfl, rfl, rfl, rfl, _, Tryz.func32, by simp [results, Tryz.f32, Frame.at]⟩

/-- Fired says whether the watch is fired, and turns nothing. -/
theorem fired_calls (b c : Nat) (f : Bool) (w : World) (hw : WAt w b c f) :
    Calls Tryz.prog 32 #[.pointer (some ⟨b, 0, none⟩)] w fun e w' => e = .returned (.bool f) ∧ w' = w := by
  have k0 : w.cell? ⟨b, 0, none⟩ = some (.chan (some c)) := by rw [cell_of_blk hw.blk]; rfl
  cases f
  · exact fired_no b c w k0 hw.chn
  · exact fired_yes b c w k0 hw.chn

theorem watchInfo : ∃ i, Tryz.prog.info? 157 = some i ∧ i.size = 4 := by
  have h : (Tryz.prog.info? 157).map (·.size) = some 4 := by kernel_rfl
  obtain ⟨i, hi, hb⟩ := Option.map_eq_some_iff.1 h
  exact ⟨i, hi, hb⟩
theorem eqlWatch_same (w : World) (a : Addr) : (binOp .eql 78 (.pointer (some a)) (.pointer (some a))).run Tryz.prog w = .ok (.bool true) w := by
  obtain ⟨i, hi, hb⟩ := watchInfo
  exact run_eql_ptr_same w a Tryz.underlying78 hi
theorem eqlWatch_other {w : World} {b b' c c' : Nat} {f f' : Bool} (h : WAt w b c f) (h' : WAt w b' c' f') (hne : b ≠ b') :
    (binOp .eql 78 (.pointer (some ⟨b, 0, none⟩)) (.pointer (some ⟨b', 0, none⟩))).run Tryz.prog w = .ok (.bool false) w := by
  obtain ⟨i, hi, hb⟩ := watchInfo
  exact run_eql_ptr_other w Tryz.underlying78 hi (by omega) (fun e => hne (by simpa using congrArg Addr.block e)) h.blk h'.blk

end Go.Proofs.YtdmhffbohnfdlaaGreat
