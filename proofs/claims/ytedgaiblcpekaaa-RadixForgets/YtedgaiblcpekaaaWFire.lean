/- Layer 2 (watch): New, Fire and Fired of a watch, in one goroutine. -/
import Derived.Test.YtedgaiblcpekaaaWSync
import Derived.Laws.NewBlocks
import Derived.Conc.LoneCalls
import Derived.Conc.LoneSelect
namespace Go.Proofs.Ytedgaiblcpekaaa
open Go.RowKit
set_option linter.unusedVariables false

set_option maxRecDepth 100000 in
set_option maxHeartbeats 1600000 in
theorem slow_any (b c : Nat) (p1 p3 : Addr) (hp1 : p1.block ≠ b) (hp3 : p3.block ≠ b) (hpc : p3.block ≠ c) (hbc : b ≠ c) (x : Value) (w : World) (h1 : w.cell? p1 = some (.pointer (some ⟨b, 0, none⟩)))
    (h3 : w.cell? p3 = some x) (z3 : w.frozen? p3 = false) (k0 : w.cell? ⟨b, 0, none⟩ = some (.chan (some c))) (hc : w.heap[c]? = some (.chan 0 #[] false 0 0 false))
    (h0 : w.cell? ⟨b, 1, none⟩ = some (.int .u32 0)) (hm : w.cell? ⟨b, 2, none⟩ = some (.int .i32 0))
    (f0 : w.frozen? ⟨b, 1, none⟩ = false) (f1 : w.frozen? ⟨b, 2, none⟩ = false) :
    Calls Try.prog 92 #[.pointer (some ⟨b, 1, none⟩), .func (.func 80) #[] #[.pointer (some p1), .pointer (some p3)]] w fun e w' => e = .returned (.tuple #[]) ∧
      w' = (((shut (w.setCell ⟨b, 2, none⟩ (.int .i32 1)) c).setCell p3 (.bool true)).drew.setCell ⟨b, 1, none⟩ (.int .u32 1)).setCell ⟨b, 2, none⟩ (.int .i32 0) := by
  obtain ⟨wl, hwl⟩ : ∃ wl, wl = w.setCell ⟨b, 2, none⟩ (.int .i32 1) := ⟨_, rfl⟩
  have l0 : wl.cell? ⟨b, 1, none⟩ = some (.int .u32 0) := by rw [hwl]; exact (World.cell?_setCell_other _ ⟨b, 2, none⟩ ⟨b, 1, none⟩ _ (by simp)).trans h0
  have lm : wl.cell? ⟨b, 2, none⟩ = some (.int .i32 1) := by rw [hwl]; exact World.cell?_setCell_same w ⟨b, 2, none⟩ _ hm
  have lk : wl.cell? ⟨b, 0, none⟩ = some (.chan (some c)) := by rw [hwl]; exact (World.cell?_setCell_other _ ⟨b, 2, none⟩ ⟨b, 0, none⟩ _ (by simp)).trans k0
  have l1 : wl.cell? p1 = some (.pointer (some ⟨b, 0, none⟩)) := by rw [hwl]; exact (World.cell?_setCell_other _ ⟨b, 2, none⟩ p1 _ (fun h => hp1 (by rw [← h]))).trans h1
  have l3 : wl.cell? p3 = some x := by rw [hwl]; exact (World.cell?_setCell_other _ ⟨b, 2, none⟩ p3 _ (fun h => hp3 (by rw [← h]))).trans h3
  have lz3 : wl.frozen? p3 = false := by rw [hwl]; simp [z3]
  have lf0 : wl.frozen? ⟨b, 1, none⟩ = false := by rw [hwl]; simp [f0]
  have lf1 : wl.frozen? ⟨b, 2, none⟩ = false := by rw [hwl]; simp [f1]
  have lc : wl.heap[c]? = some (.chan 0 #[] false 0 0 false) := by rw [hwl, heap_setCell_other _ _ _ _ (by show c ≠ b; omega)]; exact hc
  have HWL : Hid (wl = w.setCell ⟨b, 2, none⟩ (.int .i32 1)) := hwl
  rw [← hwl]
  clear hwl
  have hl := run_call_load (P := Try.prog) Try.func95 (by kernel_rfl) (by kernel_rfl) (by kernel_rfl) .u32 (by kernel_rfl) (w := wl) (a := ⟨b, 1, none⟩) (x := 0) l0
  have hnot : ∀ (x : Bool) (w : World), (Op.unary .not (.bool x)).run Try.prog w = .ok (.bool (!x)) w := fun _ _ => rfl
  go_enter_defers Try.func92, Try.ntmps92
  go_wp2_with (first
    | (go_at_call 96; refine (lock_free ⟨b, 2, none⟩ _ hm f1).mono ?_; rintro e w' ⟨rfl, rfl⟩; rw [← HWL.out])
    | (go_at_call 91; go_in)
    | (go_at_call 80; refine (closure_calls b c p1 p3 x wl l1 lk lc l3 lz3 hpc).mono ?_; rintro e w' ⟨rfl, rfl⟩))
  -- the door: two deferred calls, the last laid first
  refine leaves_cons (f := 98) (args := #[.pointer (some ⟨b, 1, none⟩), .bool true]) (by simp) (by simp [go_sem]) ?_
  refine (store_deferred ⟨b, 1, none⟩ (.int .u32 0) .returning _ ?_ ?_).mono ?_
  · exact (World.cell?_setCell_other _ p3 ⟨b, 1, none⟩ _ (fun h => hp3 (by rw [h]))).trans ((shut_cell wl c _ hbc).trans l0)
  · rw [World.frozen?_setCell]; exact (shut_frozen wl c _ hbc).trans lf0
  rintro e u' w'' ⟨rfl, rfl, rfl⟩
  refine leaves_cons (f := 97) (args := #[.pointer (some ⟨b, 2, none⟩)]) (by simp [settle]) (by simp [go_sem]) ?_
  refine (unlock_deferred ⟨b, 2, none⟩ _ _ ?_ ?_).mono ?_
  · refine (World.cell?_setCell_other _ ⟨b, 1, none⟩ ⟨b, 2, none⟩ _ (by simp)).trans ?_
    rw [World.cell?_drew]
    exact (World.cell?_setCell_other _ p3 ⟨b, 2, none⟩ _ (fun h => hp3 (by rw [h]))).trans ((shut_cell wl c _ hbc).trans lm)
  · rw [World.frozen?_setCell]
    show ((shut wl c).setCell p3 (.bool true)).drew.frozen? ⟨b, 2, none⟩ = false
    rw [World.frozen?_drew, World.frozen?_setCell]; exact (shut_frozen wl c _ hbc).trans lf1
  rintro e u' w'' ⟨rfl, rfl, rfl⟩
  simp [Leaves, settle, results, Try.results92]

set_option maxRecDepth 100000 in
set_option maxHeartbeats 1600000 in
theorem do_first (b c : Nat) (p1 p3 : Addr) (hp1 : p1.block ≠ b) (hp3 : p3.block ≠ b) (hpc : p3.block ≠ c) (hbc : b ≠ c) (x : Value) (w : World) (h1 : w.cell? p1 = some (.pointer (some ⟨b, 0, none⟩)))
    (h3 : w.cell? p3 = some x) (z3 : w.frozen? p3 = false) (k0 : w.cell? ⟨b, 0, none⟩ = some (.chan (some c))) (hc : w.heap[c]? = some (.chan 0 #[] false 0 0 false))
    (h0 : w.cell? ⟨b, 1, none⟩ = some (.int .u32 0)) (hm : w.cell? ⟨b, 2, none⟩ = some (.int .i32 0))
    (f0 : w.frozen? ⟨b, 1, none⟩ = false) (f1 : w.frozen? ⟨b, 2, none⟩ = false) :
    Calls Try.prog 79 #[.pointer (some ⟨b, 1, none⟩), .func (.func 80) #[] #[.pointer (some p1), .pointer (some p3)]] w fun e w' => e = .returned (.tuple #[]) ∧
      w' = (((shut (w.setCell ⟨b, 2, none⟩ (.int .i32 1)) c).setCell p3 (.bool true)).drew.setCell ⟨b, 1, none⟩ (.int .u32 1)).setCell ⟨b, 2, none⟩ (.int .i32 0) := by
  have hl := run_call_load (P := Try.prog) Try.func95 (by kernel_rfl) (by kernel_rfl) (by kernel_rfl) .u32 (by kernel_rfl) h0
  have hnot : ∀ (x : Bool) (w : World), (Op.unary .not (.bool x)).run Try.prog w = .ok (.bool (!x)) w := fun _ _ => rfl
  go_enter Try.func79, Try.ntmps79
  go_wp2_with (first | (go_at_call 92; refine (slow_any b c p1 p3 hp1 hp3 hpc hbc x _ h1 h3 z3 k0 hc h0 hm f0 f1).mono ?_; rintro e w' ⟨rfl, rfl⟩) | (go_at_call 91; go_in))
  go_end0
  exact ⟨rfl, rfl⟩

theorem do_done (a : Addr) (fv : Value) (w : World) (h0 : w.cell? a = some (.int .u32 1)) :
    Calls Try.prog 79 #[.pointer (some a), fv] w fun e w' => e = .returned (.tuple #[]) ∧ w' = w := by
  have hl := run_call_load (P := Try.prog) Try.func95 (by kernel_rfl) (by kernel_rfl) (by kernel_rfl) .u32 (by kernel_rfl) h0
  have hnot : ∀ (x : Bool) (w : World), (Op.unary .not (.bool x)).run Try.prog w = .ok (.bool (!x)) w := fun _ _ => rfl
  go_enter Try.func79, Try.ntmps79
  go_wp2
  go_end0
  exact ⟨rfl, rfl⟩

/-! ### A watch in memory -/

def wCells (c : Nat) (f : Bool) : Array Value := #[.chan (some c), .int .u32 (if f then 1 else 0), .int .i32 0, .int .u32 0]

/-- The watch at block b, with its channel at block c: is it fired? -/
structure WAt (w : World) (b c : Nat) (f : Bool) : Prop where
  blk : w.heap[b]? = some (.cells (wCells c f) 125)
  chn : w.heap[c]? = some (.chan 0 #[] f 0 0 false)

/-- From w to w' no block was written but those of the list; new ones may have been made. -/
structure Touched (l : List Nat) (w w' : World) : Prop where
  os : w'.os = w.os
  tape : w'.tape = w.tape
  output : w'.output = w.output
  size : w.heap.size ≤ w'.heap.size
  block : ∀ k, k < w.heap.size → k ∉ l → w'.heap[k]? = w.heap[k]?

theorem Touched.refl (l : List Nat) (w : World) : Touched l w w := ⟨rfl, rfl, rfl, Nat.le_refl _, fun _ _ _ => rfl⟩
theorem Touched.trans {l : List Nat} {a b c : World} (h : Touched l a b) (k : Touched l b c) : Touched l a c :=
  ⟨k.os.trans h.os, k.tape.trans h.tape, k.output.trans h.output, Nat.le_trans h.size k.size, fun i hi hl => (k.block i (Nat.lt_of_lt_of_le hi h.size) hl).trans (h.block i hi hl)⟩
theorem Touched.alloc {l : List Nat} {a b : World} (h : Touched l a b) (o : Obj) : Touched l a (b.alloc o) :=
  h.trans ⟨rfl, rfl, rfl, by simp [World.size_alloc], fun k hk _ => Below.heap_alloc _ _ _ hk⟩
theorem Touched.drew {l : List Nat} {a b : World} (h : Touched l a b) : Touched l a b.drew := ⟨h.os, h.tape, h.output, h.size, h.block⟩
theorem Touched.setCell {l : List Nat} {a b : World} (h : Touched l a b) (p : Addr) (v : Value) (hp : p.block ∈ l ∨ a.heap.size ≤ p.block) : Touched l a (b.setCell p v) :=
  ⟨h.os, h.tape, h.output, by simpa using h.size, fun k hk hl => by
    rw [heap_setCell_other _ _ _ _ (fun e => by subst e; rcases hp with hp | hp; exact hl hp; omega)]
    exact h.block k hk hl⟩
theorem Touched.shut {l : List Nat} {a b : World} (h : Touched l a b) (c : Nat) (hc : c ∈ l) : Touched l a (shut b c) :=
  ⟨h.os, h.tape, h.output, by rw [shut_size]; exact h.size, fun k hk hl => by rw [shut_other _ _ _ (fun e => by subst e; exact hl hc)]; exact h.block k hk hl⟩
theorem Touched.toBelow {l : List Nat} {a b : World} (h : Touched l a b) {B : Nat} (hB : B ≤ a.heap.size) (hl : ∀ k ∈ l, B ≤ k) : Below B a b :=
  ⟨h.os, h.tape, h.output, h.size, fun k hk => h.block k (by omega) (fun hm => by have := hl k hm; omega)⟩
theorem Touched.ofBelow {a b : World} (h : Below a.heap.size a b) (l : List Nat) : Touched l a b := ⟨h.os, h.tape, h.output, h.size, fun k hk _ => h.block k hk⟩

theorem lt_of_heap {w : World} {b : Nat} {o : Obj} (h : w.heap[b]? = some o) : b < w.heap.size := by
  rcases Nat.lt_or_ge b w.heap.size with h' | h'
  · exact h'
  · rw [Array.getElem?_eq_none h'] at h; cases h
theorem WAt.ltb {w : World} {b c : Nat} {f : Bool} (h : WAt w b c f) : b < w.heap.size := lt_of_heap h.blk
theorem WAt.ltc {w : World} {b c : Nat} {f : Bool} (h : WAt w b c f) : c < w.heap.size := lt_of_heap h.chn
theorem WAt.ne {w : World} {b c : Nat} {f : Bool} (h : WAt w b c f) {b' c' : Nat} {f' : Bool} (h' : WAt w b' c' f') : b ≠ c' := by
  intro e
  subst e
  have := h.blk.symm.trans h'.chn
  cases this
theorem WAt.chan_eq {w : World} {b c c' : Nat} {f f' : Bool} (h : WAt w b c f) (h' : WAt w b c' f') : c = c' ∧ f = f' := by
  have := h.blk.symm.trans h'.blk
  simp only [Option.some.injEq, Obj.cells.injEq, wCells, Array.mk.injEq, List.cons.injEq, Value.chan.injEq, Value.int.injEq] at this
  refine ⟨this.1.1, ?_⟩
  have h2 := this.1.2.1.2
  cases f <;> cases f' <;> simp at h2 ⊢
theorem WAt.touched {w w' : World} {l : List Nat} {b c : Nat} {f : Bool} (h : WAt w b c f) (ht : Touched l w w') (hb : b ∉ l) (hc : c ∉ l) : WAt w' b c f :=
  ⟨(ht.block b h.ltb hb).trans h.blk, (ht.block c h.ltc hc).trans h.chn⟩
theorem WAt.below {w w' : World} {b c : Nat} {f : Bool} (h : WAt w b c f) (ht : Below w.heap.size w w') : WAt w' b c f :=
  ⟨(ht.block b h.ltb).trans h.blk, (ht.block c h.ltc).trans h.chn⟩
theorem cell_of_blk {w : World} {b i : Nat} {cs : Array Value} {t : TypeId} (h : w.heap[b]? = some (.cells cs t)) : w.cell? ⟨b, i, none⟩ = cs[i]? := by simp [World.cell?, h]
theorem frozen_of_blk {w : World} {b i : Nat} {cs : Array Value} {t : TypeId} (h : w.heap[b]? = some (.cells cs t)) : w.frozen? ⟨b, i, none⟩ = false := by simp [World.frozen?, h]
theorem setCell_blk {w : World} {b i : Nat} {cs : Array Value} {t : TypeId} (h : w.heap[b]? = some (.cells cs t)) (v : Value) : (w.setCell ⟨b, i, none⟩ v).heap[b]? = some (.cells (cs.setIfInBounds i v) t) := heap_setCell_same w b i cs t v h

set_option maxRecDepth 100000 in
set_option maxHeartbeats 1600000 in
theorem fire_first (b c : Nat) (w : World) (hw : WAt w b c false) :
    Calls Try.prog 64 #[.pointer (some ⟨b, 0, none⟩)] w fun e w' => e = .returned (.bool true) ∧ Touched [b, c] w w' ∧ WAt w' b c true := by
  have hmf : ∀ (fn : Fn) (first cap : Array Value) (w : World), (Instr.makeFunc fn first cap).run Try.prog w = .ok (.func fn first cap) w := fun _ _ _ _ => rfl
  have hbc : b ≠ c := hw.ne hw
  have hb := hw.ltb
  have hcl := hw.ltc
  -- the world in which Do is called
  obtain ⟨w2, HW2⟩ : ∃ w2, Hid (w2 = (w.alloc (.cells #[.pointer (some ⟨b, 0, none⟩)] 70)).alloc (.cells #[.bool false] 4)) := ⟨_, rfl⟩
  have hs2 : w2.heap.size = w.heap.size + 2 := by rw [HW2.out]; simp [World.size_alloc]
  have b1 : w2.heap[w.heap.size]? = some (.cells #[.pointer (some ⟨b, 0, none⟩)] 70) := by rw [HW2.out, Below.heap_alloc _ _ _ (by simp [World.size_alloc])]; exact heap_alloc_new w _
  have b3 : w2.heap[w.heap.size + 1]? = some (.cells #[.bool false] 4) := by
    rw [HW2.out]; have := heap_alloc_new (w.alloc (.cells #[.pointer (some ⟨b, 0, none⟩)] 70)) (.cells #[.bool false] 4); simpa only [World.size_alloc] using this
  have t2 : Touched [b, c] w w2 := by rw [HW2.out]; exact ((Touched.refl _ w).alloc _).alloc _
  have hw2 : WAt w2 b c false := by
    have : Touched [] w w2 := by rw [HW2.out]; exact ((Touched.refl _ w).alloc _).alloc _
    exact hw.touched this (by simp) (by simp)
  have c1 : w2.cell? ⟨w.heap.size, 0, none⟩ = some (.pointer (some ⟨b, 0, none⟩)) := by rw [cell_of_blk b1]; rfl
  have c3 : w2.cell? ⟨w.heap.size + 1, 0, none⟩ = some (.bool false) := by rw [cell_of_blk b3]; rfl
  have z3 : w2.frozen? ⟨w.heap.size + 1, 0, none⟩ = false := frozen_of_blk b3
  have k0 : w2.cell? ⟨b, 0, none⟩ = some (.chan (some c)) := by rw [cell_of_blk hw2.blk]; rfl
  have k1 : w2.cell? ⟨b, 1, none⟩ = some (.int .u32 0) := by rw [cell_of_blk hw2.blk]; rfl
  have k2 : w2.cell? ⟨b, 2, none⟩ = some (.int .i32 0) := by rw [cell_of_blk hw2.blk]; rfl
  have g1 : w2.frozen? ⟨b, 1, none⟩ = false := frozen_of_blk hw2.blk
  have g2 : w2.frozen? ⟨b, 2, none⟩ = false := frozen_of_blk hw2.blk
  have hc2 := hw2.chn
  -- the world behind Do
  obtain ⟨w3, HW3⟩ : ∃ w3, Hid (w3 = (((shut (w2.setCell ⟨b, 2, none⟩ (.int .i32 1)) c).setCell ⟨w.heap.size + 1, 0, none⟩ (.bool true)).drew.setCell ⟨b, 1, none⟩ (.int .u32 1)).setCell ⟨b, 2, none⟩ (.int .i32 0)) := ⟨_, rfl⟩
  have t3 : Touched [b, c] w w3 := by
    rw [HW3.out]
    exact ((((t2.setCell _ _ (by simp)).shut c (by simp)).setCell _ _ (.inr (by show _ ≤ w.heap.size + 1; omega))).drew.setCell _ _ (by simp)).setCell _ _ (by simp)
  have v3 : w3.cell? ⟨w.heap.size + 1, 0, none⟩ = some (.bool true) := by
    have nb : ∀ i : Nat, (⟨b, i, none⟩ : Addr) ≠ ⟨w.heap.size + 1, 0, none⟩ := fun i h => by have := congrArg Addr.block h; simp at this; omega
    rw [HW3.out, World.cell?_setCell_other _ _ _ _ (nb _), World.cell?_setCell_other _ _ _ _ (nb _), World.cell?_drew]
    refine World.cell?_setCell_same _ _ _ (u := .bool false) ?_
    rw [shut_cell _ _ _ (by show w.heap.size + 1 ≠ c; omega), World.cell?_setCell_other _ _ _ _ (nb _)]
    exact c3
  have hw3 : WAt w3 b c true := by
    rw [HW3.out]
    have e1 := setCell_blk (i := 2) hw2.blk (.int .i32 1)
    have e2 : (shut (w2.setCell ⟨b, 2, none⟩ (.int .i32 1)) c).heap[b]? = _ := (shut_other _ c b hbc).trans e1
    have e3 := (heap_setCell_other (shut (w2.setCell ⟨b, 2, none⟩ (.int .i32 1)) c) ⟨w.heap.size + 1, 0, none⟩ b (.bool true) (by show b ≠ w.heap.size + 1; omega)).trans e2
    have e4 : ((shut (w2.setCell ⟨b, 2, none⟩ (.int .i32 1)) c).setCell ⟨w.heap.size + 1, 0, none⟩ (.bool true)).drew.heap[b]? = _ := e3
    refine ⟨?_, ?_⟩
    · rw [setCell_blk (i := 2) (setCell_blk (i := 1) e4 (.int .u32 1)) (.int .i32 0)]
      simp [wCells]
    · rw [heap_setCell_other _ _ _ _ (by show c ≠ b; omega), heap_setCell_other _ _ _ _ (by show c ≠ b; omega)]
      show ((shut (w2.setCell ⟨b, 2, none⟩ (.int .i32 1)) c).setCell ⟨w.heap.size + 1, 0, none⟩ (.bool true)).heap[c]? = _
      rw [heap_setCell_other _ _ _ _ (by show c ≠ w.heap.size + 1; omega)]
      exact shut_same _ _ (by simp; omega)
  have HT : Hid (Touched [b, c] w w3) := t3
  have HA : Hid (WAt w3 b c true) := hw3
  clear t3 hw3 t2 b1 b3 hw
  go_enter Try.func64, Try.ntmps64
  go_wp2_with (go_at_call 79; rw [← HW2.out]; refine (do_first b c ⟨w.heap.size, 0, none⟩ ⟨w.heap.size + 1, 0, none⟩ (by simp; omega) (by simp; omega) (by simp; omega) hbc (.bool false) w2 c1 c3 z3 k0 hc2 k1 k2 g1 g2).mono ?_; rintro e w' ⟨rfl, rfl⟩; rw [← HW3.out])
  go_ret
  exact ⟨rfl, HT.out, HA.out⟩
end Go.Proofs.Ytedgaiblcpekaaa
