/- The document's Add for layer 2. -/
import Derived.Test.YtochfkjpbdfddaaWRef
import Derived.Deep.AppendSrc
namespace Go.Proofs.Ytochfkjpbdfddaa
open Go.RowKit
set_option linter.unusedVariables false

theorem two_cells {w : World} {b : Nat} {u v x y : Value} (h0 : w.cell? ⟨b, 0, none⟩ = some u) (h1 : w.cell? ⟨b, 1, none⟩ = some v) :
    ((w.setCell ⟨b, 0, none⟩ x).setCell ⟨b, 1, none⟩ y).cell? ⟨b, 0, none⟩ = some x ∧ ((w.setCell ⟨b, 0, none⟩ x).setCell ⟨b, 1, none⟩ y).cell? ⟨b, 1, none⟩ = some y :=
  ⟨(World.cell?_setCell_other _ ⟨b, 1, none⟩ ⟨b, 0, none⟩ _ (by simp)).trans (World.cell?_setCell_same _ _ _ h0), World.cell?_setCell_same _ _ _ (u := v) ((World.cell?_setCell_other _ ⟨b, 0, none⟩ ⟨b, 1, none⟩ _ (by simp)).trans h1)⟩
theorem OwnV.mono {w : World} {B B' : Nat} {e : TypeId} {v : Value} {l : List Value} (h : OwnV w B e v l) (hB : B' ≤ B) : OwnV w B' e v l := by
  refine ⟨h.1, ?_⟩
  rcases h.2 with h | ⟨g, cap, cur, hv, hb, r⟩
  · exact .inl h
  · exact .inr ⟨g, cap, cur, hv, Nat.le_trans hB hb, r⟩
theorem cells_set : Try.prog.cellsOf 38 = 2 := by kernel_rfl

set_option maxRecDepth 100000 in
set_option maxHeartbeats 800000 in
theorem refAdd_neg (most a : Int) (ao : Option Addr) (n cap : Nat) (w : World) (ha : a < 0) :
    Calls Try.prog 12 #[.agg #[.int .i64 most, .slice ao n cap], .int .i64 a] w fun e w' => e = .returned (.tuple #[.agg #[.int .i64 most, .slice ao n cap], .bool false]) ∧ Below w.heap.size w w' := by
  go_enter Try.func12, Try.ntmps12
  go_wp2
  refine bodyPost_ret (v := .tuple #[.agg #[.int .i64 most, .slice ao n cap], .bool false]) (by simp [results, Try.results12, go_sem]) rfl ⟨rfl, ?_⟩
  exact ((Below.refl _ w).alloc (Nat.le_refl _) _).alloc (by simp [World.size_alloc]) _

set_option maxRecDepth 100000 in
set_option maxHeartbeats 1600000 in
theorem refAdd_held (B : Nat) (most : Int) (ao : Option Addr) (cap a : Nat) (hd : List Nat) (w : World) (hl : hd.length ≤ 9223372036854775807) (hh : OwnV w B 3 (.slice ao hd.length cap) (nums hd)) (hin : a ∈ hd) :
    Calls Try.prog 12 #[.agg #[.int .i64 most, .slice ao hd.length cap], .int .i64 (a : Int)] w fun e w' => e = .returned (.tuple #[.agg #[.int .i64 most, .slice ao hd.length cap], .bool true]) ∧ Below w.heap.size w w' := by
  obtain ⟨w1, HW⟩ : ∃ w1, Hid (w1 = (w.alloc (.cells #[.int .i64 most, .slice ao hd.length cap] 38)).alloc (.cells #[.int .i64 0, .slice none 0 0] 38)) := ⟨_, rfl⟩
  have hT : Touched [] w w1 := by rw [HW.out]; exact ((Touched.refl _ w).alloc _).alloc _
  have b1 : w1.heap[w.heap.size]? = some (.cells #[.int .i64 most, .slice ao hd.length cap] 38) := by rw [HW.out, Below.heap_alloc _ _ _ (by simp [World.size_alloc])]; exact heap_alloc_new w _
  have b2 : w1.heap[w.heap.size + 1]? = some (.cells #[.int .i64 0, .slice none 0 0] 38) := by
    rw [HW.out]; have := heap_alloc_new (w.alloc (.cells #[.int .i64 most, .slice ao hd.length cap] 38)) (.cells #[.int .i64 0, .slice none 0 0] 38); simpa only [World.size_alloc] using this
  have c0 : w1.cell? ⟨w.heap.size, 0, none⟩ = some (.int .i64 most) := by rw [cell_of_blk b1]; rfl
  have c1 : w1.cell? ⟨w.heap.size, 1, none⟩ = some (.slice ao hd.length cap) := by rw [cell_of_blk b1]; rfl
  have d0 : w1.cell? ⟨w.heap.size + 1, 0, none⟩ = some (.int .i64 0) := by rw [cell_of_blk b2]; rfl
  have d1 : w1.cell? ⟨w.heap.size + 1, 1, none⟩ = some (.slice none 0 0) := by rw [cell_of_blk b2]; rfl
  have z0 : w1.frozen? ⟨w.heap.size + 1, 0, none⟩ = false := frozen_of_blk b2
  have z1 : w1.frozen? ⟨w.heap.size + 1, 1, none⟩ = false := frozen_of_blk b2
  have hs1 : w1.heap.size = w.heap.size + 2 := by rw [HW.out]; simp [World.size_alloc]
  have hh1 := hh.touched hT (by simp)
  have HB : Hid (Below w.heap.size w w1) := hT.toBelow (Nat.le_refl _) (by simp)
  have ha0 : ¬ (a : Int) < 0 := by omega
  clear hh hT
  go_enter Try.func12, Try.ntmps12
  go_wp2
  rw [← HW.out]
  go_loopw [15] (fun i wr => ∃ k : Nat, k ≤ hd.length ∧ i = .int .i64 k ∧ Hid (∀ j (hj : j < hd.length), j < k → hd[j] ≠ a) ∧ wr = w1) (fun i _ => hd.length - (intOf i).toNat)
  case atStart => exact ⟨0, Nat.zero_le _, rfl, fun j hj h => by omega, rfl⟩
  case round =>
    obtain ⟨k, hk, rfl, HF, rfl⟩ := hrel
    by_cases hlk : k < hd.length
    · obtain ⟨g, rfl, h0⟩ := hh1.at k (by rw [nums_length]; exact hlk)
      have h0' : wr.cell? ⟨g, k, none⟩ = some (.int .i64 (hd[k] : Int)) := by rw [h0]; simp [nums]
      clear h0
      by_cases he : hd[k] = a
      · rw [he] at h0'
        clear he
        go_wp2
        refine bodyPost_ret (v := .tuple #[.agg #[.int .i64 most, .slice (some ⟨g, 0, none⟩) hd.length cap], .bool true]) (by have := two_cells (x := .int .i64 most) (y := .slice (some ⟨g, 0, none⟩) hd.length cap) d0 d1; simp [results, Try.results12, go_sem, this.1, this.2]) rfl ⟨rfl, ?_⟩
        exact (HB.out.setCell (by show _ ≤ w.heap.size + 1; omega) _).setCell (by show _ ≤ w.heap.size + 1; omega) _
      · have hne : ((hd[k] : Int) == (a : Int)) = false := by simp; omega
        have HE : Hid (hd[k] ≠ a) := he
        clear he
        go_wp2
        go_roundw
        case rel => exact ⟨k + 1, by omega, by go_num, fun j hj h => by
          by_cases hjk : j = k
          · subst hjk; exact HE.out
          · exact HF.out j hj (by omega), trivial⟩
        case measure => simp [intOf]; omega
    · exfalso
      obtain ⟨j, hj, he⟩ := List.getElem_of_mem hin
      exact HF.out j hj (by omega) he

set_option maxRecDepth 100000 in
set_option maxHeartbeats 1600000 in
theorem refAdd_full (B : Nat) (most : Int) (ao : Option Addr) (cap a : Nat) (hd : List Nat) (w : World) (hl : hd.length ≤ 9223372036854775807) (hh : OwnV w B 3 (.slice ao hd.length cap) (nums hd)) (hin : a ∉ hd) (hm : most ≤ (hd.length : Int)) :
    Calls Try.prog 12 #[.agg #[.int .i64 most, .slice ao hd.length cap], .int .i64 (a : Int)] w fun e w' => e = .returned (.tuple #[.agg #[.int .i64 most, .slice ao hd.length cap], .bool false]) ∧ Below w.heap.size w w' := by
  obtain ⟨w1, HW⟩ : ∃ w1, Hid (w1 = (w.alloc (.cells #[.int .i64 most, .slice ao hd.length cap] 38)).alloc (.cells #[.int .i64 0, .slice none 0 0] 38)) := ⟨_, rfl⟩
  have hT : Touched [] w w1 := by rw [HW.out]; exact ((Touched.refl _ w).alloc _).alloc _
  have b1 : w1.heap[w.heap.size]? = some (.cells #[.int .i64 most, .slice ao hd.length cap] 38) := by rw [HW.out, Below.heap_alloc _ _ _ (by simp [World.size_alloc])]; exact heap_alloc_new w _
  have b2 : w1.heap[w.heap.size + 1]? = some (.cells #[.int .i64 0, .slice none 0 0] 38) := by
    rw [HW.out]; have := heap_alloc_new (w.alloc (.cells #[.int .i64 most, .slice ao hd.length cap] 38)) (.cells #[.int .i64 0, .slice none 0 0] 38); simpa only [World.size_alloc] using this
  have c0 : w1.cell? ⟨w.heap.size, 0, none⟩ = some (.int .i64 most) := by rw [cell_of_blk b1]; rfl
  have c1 : w1.cell? ⟨w.heap.size, 1, none⟩ = some (.slice ao hd.length cap) := by rw [cell_of_blk b1]; rfl
  have d0 : w1.cell? ⟨w.heap.size + 1, 0, none⟩ = some (.int .i64 0) := by rw [cell_of_blk b2]; rfl
  have d1 : w1.cell? ⟨w.heap.size + 1, 1, none⟩ = some (.slice none 0 0) := by rw [cell_of_blk b2]; rfl
  have z0 : w1.frozen? ⟨w.heap.size + 1, 0, none⟩ = false := frozen_of_blk b2
  have z1 : w1.frozen? ⟨w.heap.size + 1, 1, none⟩ = false := frozen_of_blk b2
  have hs1 : w1.heap.size = w.heap.size + 2 := by rw [HW.out]; simp [World.size_alloc]
  have hh1 := hh.touched hT (by simp)
  have HB : Hid (Below w.heap.size w w1) := hT.toBelow (Nat.le_refl _) (by simp)
  have ha0 : ¬ (a : Int) < 0 := by omega
  clear hh hT
  go_enter Try.func12, Try.ntmps12
  go_wp2
  rw [← HW.out]
  go_loopw [15] (fun i wr => ∃ k : Nat, k ≤ hd.length ∧ i = .int .i64 k ∧ Hid (∀ j (hj : j < hd.length), j < k → hd[j] ≠ a) ∧ wr = w1) (fun i _ => hd.length - (intOf i).toNat)
  case atStart => exact ⟨0, Nat.zero_le _, rfl, fun j hj h => by omega, rfl⟩
  case round =>
    obtain ⟨k, hk, rfl, HF, rfl⟩ := hrel
    by_cases hlk : k < hd.length
    · obtain ⟨g, rfl, h0⟩ := hh1.at k (by rw [nums_length]; exact hlk)
      have h0' : wr.cell? ⟨g, k, none⟩ = some (.int .i64 (hd[k] : Int)) := by rw [h0]; simp [nums]
      clear h0
      by_cases he : hd[k] = a
      · exact absurd (he ▸ List.getElem_mem hlk) hin
      · have hne : ((hd[k] : Int) == (a : Int)) = false := by simp; omega
        have HE : Hid (hd[k] ≠ a) := he
        clear he
        go_wp2
        go_roundw
        case rel => exact ⟨k + 1, by omega, by go_num, fun j hj h => by
          by_cases hjk : j = k
          · subst hjk; exact HE.out
          · exact HF.out j hj (by omega), trivial⟩
        case measure => simp [intOf]; omega
    · go_wp2
      refine bodyPost_ret (v := .tuple #[.agg #[.int .i64 most, .slice ao hd.length cap], .bool false]) (by have := two_cells (x := .int .i64 most) (y := .slice ao hd.length cap) d0 d1; simp [results, Try.results12, go_sem, this.1, this.2]) rfl ⟨rfl, ?_⟩
      exact (HB.out.setCell (by show _ ≤ w.heap.size + 1; omega) _).setCell (by show _ ≤ w.heap.size + 1; omega) _

theorem wpList_append_nilsrc {w : World} {ops : Array Oper} {rest : List Oper} {o : Oper} {a : Act} {Q : Exit → Act → World → Prop} (hgd : o.guard = none) (s x : Operand) (t e : TypeId)
    (ho : o.op = .call { callee := .builtin .append, args := #[s, x], argTypes := #[t, t] }) (i : TypeInfo) (ht : Try.prog.underlying t = some (.slice e)) (hi : Try.prog.info? e = some i)
    (b : Nat) (hs : a.eval s = .slice (some ⟨b, 0, none⟩) 0 0) (hx : a.eval x = .slice none 0 0) (h : wpList Try.prog ops Q rest (a.put o.dst (.slice (some ⟨b, 0, none⟩) 0 0)) w) : wpList Try.prog ops Q (o :: rest) a w :=
  wpList_plain hgd fun K hK => by
    have hr := run_append_room_src (P := Try.prog) w t t o.type e i ht hi b 0 0 0 (.slice none 0 0) 0 [] (Src.ofNil w ht 0) (by omega) (by simp) (by simp)
    unfold Oper.wp execOp
    simp only [ho, resolve, invoke, builtin, Sem.run_bind, Sem.run_pure, Result.andThen_ok, List.map_toArray, List.map_cons, List.map_nil, hs, hx, hr]
    exact hK _ _ h

structure AddMid (w : World) (N : Nat) (most : Int) : Prop where
  f0 : w.cell? ⟨N, 0, none⟩ = some (.int .i64 most)
  f1 : w.cell? ⟨N + 1, 0, none⟩ = some (.int .i64 0)
  f2 : w.cell? ⟨N + 1, 1, none⟩ = some (.slice none 0 0)
  y1 : w.frozen? ⟨N + 1, 0, none⟩ = false
  y2 : w.frozen? ⟨N + 1, 1, none⟩ = false
theorem AddMid.same {w w' : World} {N : Nat} {most : Int} (h : AddMid w N most) (hs : ∀ k, k < N + 2 → w'.heap[k]? = w.heap[k]?) : AddMid w' N most :=
  ⟨(World.cell?_of_block (hs N (by omega))).trans h.f0, (World.cell?_of_block (hs (N + 1) (by omega))).trans h.f1, (World.cell?_of_block (hs (N + 1) (by omega))).trans h.f2, (World.frozen?_of_block (hs (N + 1) (by omega))).trans h.y1, (World.frozen?_of_block (hs (N + 1) (by omega))).trans h.y2⟩
theorem AddMid.grew {w wA w' : World} {N : Nat} {most : Int} {r : Option Nat} (h : AddMid w N most) (hB : N + 2 ≤ w.heap.size) (hA : ∀ k, k < w.heap.size → wA.heap[k]? = w.heap[k]?) (hz : w.heap.size ≤ wA.heap.size) (hg : wA.grownBy w' r) (hr : ∀ k, k < N + 2 → some k ≠ r) : AddMid w' N most :=
  h.same fun k hk => (hg.block k (by omega) (hr k hk)).trans (hA k (by omega))

theorem tail_facts {w w3 w4 : World} {most : Int} {a g4 cap4 : Nat} {v3 : Value} {hd : List Nat} (M3 : AddMid w3 w.heap.size most) (hB4 : w.heap.size + 2 ≤ w3.heap.size) (NE : ∀ k, k < w.heap.size + 2 → some k ≠ v3.ownBlock)
    (HO3 : OwnV w3 (w.heap.size + 2) 3 v3 (nums hd)) (HBW : Below w.heap.size w w3)
    (ho4 : w4.ownsRow (w.heap.size + 2) 3 1 (Value.slice (some ⟨g4, 0, none⟩) ((nums hd).length + 1) cap4) ((nums hd).length + 1) (nums hd ++ [Value.int IntKind.i64 (a : Int)]))
    (hg4 : (w3.alloc (Obj.cells #[Value.int IntKind.i64 (a : Int)] 3)).drew.grownBy w4 v3.ownBlock) :
    AddMid w4 w.heap.size most ∧ OwnV w4 (w.heap.size + 2) 3 (.slice (some ⟨g4, 0, none⟩) ((nums hd).length + 1) cap4) (nums (hd ++ [a])) ∧ Below w.heap.size w w4 := by
  have hsz : w3.heap.size ≤ (w3.alloc (Obj.cells #[Value.int IntKind.i64 (a : Int)] 3)).drew.heap.size := by
    show w3.heap.size ≤ (w3.alloc (Obj.cells #[Value.int IntKind.i64 (a : Int)] 3)).heap.size
    simp [World.size_alloc]
  refine ⟨M3.grew (wA := (w3.alloc (Obj.cells #[Value.int IntKind.i64 (a : Int)] 3)).drew) hB4 (fun k hk => Below.heap_alloc w3 (.cells #[.int .i64 (a : Int)] 3) k hk) hsz hg4 NE, ?_, ?_⟩
  · rw [nums_append]
    unfold OwnV
    rw [List.length_append]
    exact ho4
  · exact ((HBW.alloc (by omega) (.cells #[.int .i64 (a : Int)] 3)).drew).grown hg4 (by omega) (fun k hk => by have := (HO3.lt k hk).1; omega)

theorem infoInt : (Try.prog.info? 3).map (fun i => (i.zero, i.size, i.bytes)) = some (some (.int .i64 0), 1, 8) := by kernel_rfl

set_option maxRecDepth 100000 in
set_option maxHeartbeats 1600000 in
theorem refAdd_room (B : Nat) (most : Int) (ao : Option Addr) (cap a : Nat) (hd : List Nat) (w : World) (hl : hd.length ≤ 9223372036854775807) (hh : OwnV w B 3 (.slice ao hd.length cap) (nums hd)) (hin : a ∉ hd) (hm : ¬ most ≤ (hd.length : Int)) (hl2 : hd.length + 1 ≤ 17592186044416) :
    Calls Try.prog 12 #[.agg #[.int .i64 most, .slice ao hd.length cap], .int .i64 (a : Int)] w fun e w' => ∃ hv, e = .returned (.tuple #[.agg #[.int .i64 most, hv], .bool true]) ∧ OwnV w' w.heap.size 3 hv (nums (hd ++ [a])) ∧ Below w.heap.size w w' := by
  obtain ⟨w1, HW⟩ : ∃ w1, Hid (w1 = (w.alloc (.cells #[.int .i64 most, .slice ao hd.length cap] 38)).alloc (.cells #[.int .i64 0, .slice none 0 0] 38)) := ⟨_, rfl⟩
  have hT : Touched [] w w1 := by rw [HW.out]; exact ((Touched.refl _ w).alloc _).alloc _
  have b1 : w1.heap[w.heap.size]? = some (.cells #[.int .i64 most, .slice ao hd.length cap] 38) := by rw [HW.out, Below.heap_alloc _ _ _ (by simp [World.size_alloc])]; exact heap_alloc_new w _
  have b2 : w1.heap[w.heap.size + 1]? = some (.cells #[.int .i64 0, .slice none 0 0] 38) := by
    rw [HW.out]; have := heap_alloc_new (w.alloc (.cells #[.int .i64 most, .slice ao hd.length cap] 38)) (.cells #[.int .i64 0, .slice none 0 0] 38); simpa only [World.size_alloc] using this
  have c0 : w1.cell? ⟨w.heap.size, 0, none⟩ = some (.int .i64 most) := by rw [cell_of_blk b1]; rfl
  have c1 : w1.cell? ⟨w.heap.size, 1, none⟩ = some (.slice ao hd.length cap) := by rw [cell_of_blk b1]; rfl
  have d0 : w1.cell? ⟨w.heap.size + 1, 0, none⟩ = some (.int .i64 0) := by rw [cell_of_blk b2]; rfl
  have d1 : w1.cell? ⟨w.heap.size + 1, 1, none⟩ = some (.slice none 0 0) := by rw [cell_of_blk b2]; rfl
  have z0 : w1.frozen? ⟨w.heap.size + 1, 0, none⟩ = false := frozen_of_blk b2
  have z1 : w1.frozen? ⟨w.heap.size + 1, 1, none⟩ = false := frozen_of_blk b2
  have hs1 : w1.heap.size = w.heap.size + 2 := by rw [HW.out]; simp [World.size_alloc]
  have hh1 := hh.touched hT (by simp)
  have HB : Hid (Below w.heap.size w w1) := hT.toBelow (Nat.le_refl _) (by simp)
  have ha0 : ¬ (a : Int) < 0 := by omega
  clear hh hT
  go_enter Try.func12, Try.ntmps12
  go_wp2
  rw [← HW.out]
  go_loopw [15] (fun i wr => ∃ k : Nat, k ≤ hd.length ∧ i = .int .i64 k ∧ Hid (∀ j (hj : j < hd.length), j < k → hd[j] ≠ a) ∧ wr = w1) (fun i _ => hd.length - (intOf i).toNat)
  case atStart => exact ⟨0, Nat.zero_le _, rfl, fun j hj h => by omega, rfl⟩
  case round =>
    obtain ⟨k, hk, rfl, HF, rfl⟩ := hrel
    by_cases hlk : k < hd.length
    · obtain ⟨g, rfl, h0⟩ := hh1.at k (by rw [nums_length]; exact hlk)
      have h0' : wr.cell? ⟨g, k, none⟩ = some (.int .i64 (hd[k] : Int)) := by rw [h0]; simp [nums]
      clear h0
      by_cases he : hd[k] = a
      · exact absurd (he ▸ List.getElem_mem hlk) hin
      · have hne : ((hd[k] : Int) == (a : Int)) = false := by simp; omega
        have HE : Hid (hd[k] ≠ a) := he
        clear he
        go_wp2
        go_roundw
        case rel => exact ⟨k + 1, by omega, by go_num, fun j hj h => by
          by_cases hjk : j = k
          · subst hjk; exact HE.out
          · exact HF.out j hj (by omega), trivial⟩
        case measure => simp [intOf]; omega
    · clear HF
      obtain ⟨i0, hi, hz0, hz1, hz2⟩ := infoOf infoInt
      have ho2 : OwnV (wr.alloc (.cells #[] 3)) (w.heap.size + 2) 3 (.slice (some ⟨w.heap.size + 2, 0, none⟩) 0 0) [] := by
        have := World.ownsRow_lit (base := w.heap.size + 2) (e := 3) (size := 1) wr #[] 0 (by omega) (by unfold maxLen; omega) rfl
        rw [hs1] at this; exact this
      have HNB : Hid (w.heap.size ≤ (wr.alloc (.cells #[] 3)).heap.size) := by show _ ≤ _; simp [World.size_alloc]; omega
      have hh2 := hh1.alloc (.cells #[] 3)
      have hcls : ∀ j u, (nums hd)[j]? = some u → (wr.alloc (.cells #[] 3)).cell? ((ao.getD default).add j) = some u := by
        intro j u hj
        rcases hh2.2 with ⟨he, h0⟩ | ⟨g, cap', cur, he, _⟩
        · rw [nums_length] at h0
          rw [List.eq_nil_of_length_eq_zero h0] at hj
          simp [nums] at hj
        · simp only [Value.slice.injEq] at he
          obtain ⟨rfl, _, rfl⟩ := he
          rw [← nums_length] at hh2
          exact World.ownsRow.cells hh2 (g := g) rfl j u hj
      by_cases hnil : ao = none
      · subst hnil
        have hd0 : hd = [] ∧ cap = 0 := by
          rcases hh1.2 with ⟨he, h0⟩ | ⟨g, cap', cur, he, _⟩
          · rw [nums_length] at h0
            simp at he
            exact ⟨List.eq_nil_of_length_eq_zero h0, he.2⟩
          · simp at he
        obtain ⟨rfl, rfl⟩ := hd0
        simp only [List.length_nil] at *
        go_wp2_with (at_builtin; refine wpList_append_nilsrc rfl (.tmp 32) (.tmp 34) 36 3 rfl i0 Try.underlying36 hi _ rfl rfl ?_)
        obtain ⟨w3, HW3⟩ : ∃ w3, Hid (w3 = wr.alloc (.cells #[] 3)) := ⟨_, rfl⟩
        have hb3 : Below (w.heap.size + 2) (wr.alloc (.cells #[] 3)) w3 := by rw [HW3.out]; exact Below.refl _ _
        obtain ⟨v3, HV3⟩ : ∃ v3, Hid (v3 = Value.slice (some ⟨w.heap.size + 2, 0, none⟩) 0 0) := ⟨_, rfl⟩
        have ho3 : OwnV w3 (w.heap.size + 2) 3 v3 (nums []) := by rw [HW3.out, HV3.out]; exact ho2
        rw [← HW3.out, ← HV3.out]
        have hB3 : w.heap.size ≤ w3.heap.size := Nat.le_trans HNB.out hb3.size
        have f0 : w3.cell? ⟨w.heap.size, 0, none⟩ = some (.int .i64 most) := (hb3.cell (by show w.heap.size < w.heap.size + 2; omega)).trans ((World.cell?_alloc_past _ _ _ (by show w.heap.size < wr.heap.size; omega)).trans c0)
        have f1 : w3.cell? ⟨w.heap.size + 1, 0, none⟩ = some (.int .i64 0) := (hb3.cell (by show w.heap.size + 1 < w.heap.size + 2; omega)).trans ((World.cell?_alloc_past _ _ _ (by show w.heap.size + 1 < wr.heap.size; omega)).trans d0)
        have f2 : w3.cell? ⟨w.heap.size + 1, 1, none⟩ = some (.slice none 0 0) := (hb3.cell (by show w.heap.size + 1 < w.heap.size + 2; omega)).trans ((World.cell?_alloc_past _ _ _ (by show w.heap.size + 1 < wr.heap.size; omega)).trans d1)
        have y1 : w3.frozen? ⟨w.heap.size + 1, 0, none⟩ = false := (hb3.frozen (by show w.heap.size + 1 < w.heap.size + 2; omega)).trans ((World.frozen?_alloc_past _ _ _ (by show w.heap.size + 1 < wr.heap.size; omega)).trans z0)
        have y2 : w3.frozen? ⟨w.heap.size + 1, 1, none⟩ = false := (hb3.frozen (by show w.heap.size + 1 < w.heap.size + 2; omega)).trans ((World.frozen?_alloc_past _ _ _ (by show w.heap.size + 1 < wr.heap.size; omega)).trans z1)
        have HBW : Hid (Below w.heap.size w w3) := (HB.out.alloc (by omega) _).trans (hb3.mono (by omega))
        have HO3 : Hid (OwnV w3 (w.heap.size + 2) 3 v3 (nums [])) := ho3
        have M3 : Hid (AddMid w3 w.heap.size most) := ⟨f0, f1, f2, y1, y2⟩
        have NE : ∀ k, k < w.heap.size + 2 → some k ≠ v3.ownBlock := fun k hk e => by have := (HO3.out.lt k e.symm).1; omega
        have hB4 : w.heap.size + 2 ≤ w3.heap.size := Nat.le_trans (by simp [World.size_alloc]; omega) hb3.size
        clear HW3 HV3 c0 c1 d0 d1 z0 z1 HB hb3 ho3 hh2 hcls ho2 hh1 hs1 b1 b2
        go_wp2
        go_region_held_law (fun w' => w'.cell? ⟨w.heap.size, 0, none⟩ = some (.int .i64 most)) (first | assumption | go_keep)
          (first
            | (refine step_append_lies _ rfl (.tmp 38) (.tmp 40) 36 rfl (w.heap.size + 2) 3 i0 (.int .i64 0) 1 8 Try.underlying36 hi hz0 hz1 hz2 rfl (by decide) v3 (nums []).length (nums []) rfl (HO3.out.alloc _) _ 1 1 [.int .i64 (a : Int)] rfl rfl (cells_new _ _ _) (by simp [Value.oneCell']) (by decide) (by decide) (by decide) (by simp; omega) _ rfl ?_
               intro g4 cap4 w4 ho4 hg4 hat4 hlt4
               have TF := tail_facts M3.out hB4 NE HO3.out HBW.out ho4 hg4
               have q0 := TF.1.f0
               have q1 := TF.1.f1
               have q2 := TF.1.f2
               have q3 := TF.1.y1
               have q4 := TF.1.y2
               have HTF : Hid (_ ∧ _) := TF.2
               clear ho4 hg4 hat4 hlt4 TF))
        go_wp2
        refine bodyPost_ret (v := .tuple #[.agg #[.int .i64 most, .slice (some ⟨g4, 0, none⟩) ((nums []).length + 1) cap4], .bool true]) (by have := two_cells (x := .int .i64 most) (y := .slice (some ⟨g4, 0, none⟩) ((nums []).length + 1) cap4) q1 q2; simp [results, Try.results12, go_sem, this.1, this.2]) rfl ⟨_, rfl, ?_, ?_⟩
        · refine OwnV.mono ?_ (Nat.le_add_right _ 2)
          refine ownsRow_setCell_other (ownsRow_setCell_other HTF.out.1 ?_ _) ?_ _
          · intro e; have := (HTF.out.1.lt _ e).1; simp at this
          · intro e; have := (HTF.out.1.lt _ e).1; simp at this
        · exact (HTF.out.2.setCell (by show _ ≤ w.heap.size + 1; omega) _).setCell (by show _ ≤ w.heap.size + 1; omega) _
      · obtain ⟨g, rfl⟩ : ∃ g, ao = some ⟨g, 0, none⟩ := by
          rcases hh1.2 with ⟨he, h0⟩ | ⟨g, cap', cur, he, _⟩
          · simp at he; exact absurd he.1 hnil
          · simp only [Value.slice.injEq] at he; exact ⟨g, he.1⟩
        simp only [Option.getD_some] at hcls
        go_wp2_with (at_builtin; refine wpList_append_grew _ rfl (.tmp 32) (.tmp 34) 36 rfl (w.heap.size + 2) 3 i0 (.int .i64 0) 1 8 Try.underlying36 hi hz0 hz1 hz2 rfl (by decide) _ 0 [] rfl ho2 ⟨g, 0, none⟩ hd.length cap (nums hd) rfl (by rw [nums_length]; omega) hcls (by intro u hu; obtain ⟨_, _, rfl⟩ := List.mem_map.1 hu; rfl) (by unfold maxLen; omega) (by omega) (by simp [World.size_alloc]; omega) ?_)
        intro v3 w3 ho3 hg3 _
        have hb3 : Below (w.heap.size + 2) (wr.alloc (.cells #[] 3)) w3 := hg3.toBelow (by simp [World.size_alloc]; omega) (by intro k hk; simp [Value.ownBlock] at hk; omega)
        replace ho3 : OwnV w3 (w.heap.size + 2) 3 v3 (nums hd) := by unfold OwnV; rw [nums_length]; simpa using ho3
        clear hg3
        have hB3 : w.heap.size ≤ w3.heap.size := Nat.le_trans HNB.out hb3.size
        have f0 : w3.cell? ⟨w.heap.size, 0, none⟩ = some (.int .i64 most) := (hb3.cell (by show w.heap.size < w.heap.size + 2; omega)).trans ((World.cell?_alloc_past _ _ _ (by show w.heap.size < wr.heap.size; omega)).trans c0)
        have f1 : w3.cell? ⟨w.heap.size + 1, 0, none⟩ = some (.int .i64 0) := (hb3.cell (by show w.heap.size + 1 < w.heap.size + 2; omega)).trans ((World.cell?_alloc_past _ _ _ (by show w.heap.size + 1 < wr.heap.size; omega)).trans d0)
        have f2 : w3.cell? ⟨w.heap.size + 1, 1, none⟩ = some (.slice none 0 0) := (hb3.cell (by show w.heap.size + 1 < w.heap.size + 2; omega)).trans ((World.cell?_alloc_past _ _ _ (by show w.heap.size + 1 < wr.heap.size; omega)).trans d1)
        have y1 : w3.frozen? ⟨w.heap.size + 1, 0, none⟩ = false := (hb3.frozen (by show w.heap.size + 1 < w.heap.size + 2; omega)).trans ((World.frozen?_alloc_past _ _ _ (by show w.heap.size + 1 < wr.heap.size; omega)).trans z0)
        have y2 : w3.frozen? ⟨w.heap.size + 1, 1, none⟩ = false := (hb3.frozen (by show w.heap.size + 1 < w.heap.size + 2; omega)).trans ((World.frozen?_alloc_past _ _ _ (by show w.heap.size + 1 < wr.heap.size; omega)).trans z1)
        have HBW : Hid (Below w.heap.size w w3) := (HB.out.alloc (by omega) _).trans (hb3.mono (by omega))
        have HO3 : Hid (OwnV w3 (w.heap.size + 2) 3 v3 (nums hd)) := ho3
        have M3 : Hid (AddMid w3 w.heap.size most) := ⟨f0, f1, f2, y1, y2⟩
        have NE : ∀ k, k < w.heap.size + 2 → some k ≠ v3.ownBlock := fun k hk e => by have := (HO3.out.lt k e.symm).1; omega
        have hB4 : w.heap.size + 2 ≤ w3.heap.size := Nat.le_trans (by simp [World.size_alloc]; omega) hb3.size
        clear c0 c1 d0 d1 z0 z1 HB hb3 ho3 hh2 hcls ho2 hh1 hs1 b1 b2
        go_wp2
        go_region_held_law (fun w' => w'.cell? ⟨w.heap.size, 0, none⟩ = some (.int .i64 most)) (first | assumption | go_keep)
          (first
            | (refine step_append_lies _ rfl (.tmp 38) (.tmp 40) 36 rfl (w.heap.size + 2) 3 i0 (.int .i64 0) 1 8 Try.underlying36 hi hz0 hz1 hz2 rfl (by decide) v3 (nums hd).length (nums hd) rfl (HO3.out.alloc _) _ 1 1 [.int .i64 (a : Int)] rfl rfl (cells_new _ _ _) (by simp [Value.oneCell']) (by decide) (by rw [nums_length]; unfold maxLen; omega) (by rw [nums_length]; omega) (by simp; omega) _ rfl ?_
               intro g4 cap4 w4 ho4 hg4 hat4 hlt4
               have TF := tail_facts M3.out hB4 NE HO3.out HBW.out ho4 hg4
               have q0 := TF.1.f0
               have q1 := TF.1.f1
               have q2 := TF.1.f2
               have q3 := TF.1.y1
               have q4 := TF.1.y2
               have HTF : Hid (_ ∧ _) := TF.2
               clear ho4 hg4 hat4 hlt4 TF))
        go_wp2
        refine bodyPost_ret (v := .tuple #[.agg #[.int .i64 most, .slice (some ⟨g4, 0, none⟩) ((nums hd).length + 1) cap4], .bool true]) (by have := two_cells (x := .int .i64 most) (y := .slice (some ⟨g4, 0, none⟩) ((nums hd).length + 1) cap4) q1 q2; simp [results, Try.results12, go_sem, this.1, this.2]) rfl ⟨_, rfl, ?_, ?_⟩
        · refine OwnV.mono ?_ (Nat.le_add_right _ 2)
          refine ownsRow_setCell_other (ownsRow_setCell_other HTF.out.1 ?_ _) ?_ _
          · intro e; have := (HTF.out.1.lt _ e).1; simp at this
          · intro e; have := (HTF.out.1.lt _ e).1; simp at this
        · exact (HTF.out.2.setCell (by show _ ≤ w.heap.size + 1; omega) _).setCell (by show _ ≤ w.heap.size + 1; omega) _
end Go.Proofs.Ytochfkjpbdfddaa
