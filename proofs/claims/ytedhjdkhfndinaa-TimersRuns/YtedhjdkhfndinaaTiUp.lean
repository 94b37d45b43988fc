/- Layer 14 (timers): container/heap's up. -/
import Derived.Test.YtedhjdkhfndinaaTiHeap
namespace Go.Proofs.Ytedhjdkhfndinaa
open Go.RowKit
set_option linter.unusedVariables false

theorem meth_len0 (w : World) (a : Addr) : (method 195 66 (.pointer (some a)) "Len").run Try.prog w = ((do let x ← loadVar 58 a; pure (49, x)) : Sem (FuncId × Value)).run Try.prog w := by kernel_rfl
theorem meth_len (w : World) (wb : Nat) (v : Value) (hc : w.cell? ⟨wb, 3, none⟩ = some v) : (method 195 66 (.pointer (some ⟨wb, 3, none⟩)) "Len").run Try.prog w = .ok (49, v) w := by
  rw [meth_len0, Sem.run_bind]
  simp [hc, go_sem]
theorem meth_less0 (w : World) (a : Addr) : (method 195 66 (.pointer (some a)) "Less").run Try.prog w = ((do let x ← loadVar 58 a; pure (50, x)) : Sem (FuncId × Value)).run Try.prog w := by kernel_rfl
theorem meth_less (w : World) (wb : Nat) (v : Value) (hc : w.cell? ⟨wb, 3, none⟩ = some v) : (method 195 66 (.pointer (some ⟨wb, 3, none⟩)) "Less").run Try.prog w = .ok (50, v) w := by
  rw [meth_less0, Sem.run_bind]
  simp [hc, go_sem]
theorem meth_swap0 (w : World) (a : Addr) : (method 195 66 (.pointer (some a)) "Swap").run Try.prog w = ((do let x ← loadVar 58 a; pure (51, x)) : Sem (FuncId × Value)).run Try.prog w := by kernel_rfl
theorem meth_swap (w : World) (wb : Nat) (v : Value) (hc : w.cell? ⟨wb, 3, none⟩ = some v) : (method 195 66 (.pointer (some ⟨wb, 3, none⟩)) "Swap").run Try.prog w = .ok (51, v) w := by
  rw [meth_swap0, Sem.run_bind]
  simp [hc, go_sem]
theorem meth_push (w : World) (wb : Nat) : (method 195 66 (.pointer (some ⟨wb, 3, none⟩)) "Push").run Try.prog w = .ok (53, .pointer (some ⟨wb, 3, none⟩)) w := by kernel_rfl
theorem meth_pop (w : World) (wb : Nat) : (method 195 66 (.pointer (some ⟨wb, 3, none⟩)) "Pop").run Try.prog w = .ok (52, .pointer (some ⟨wb, 3, none⟩)) w := by kernel_rfl

theorem lessX_calls (v : Value) (L : List Tm) (i j : Nat) (x y : Tm) (w : World) (h : PnAt w v L) (hx : L[i]? = some x) (hy : L[j]? = some y) :
    Calls Try.prog 50 #[v, .int .i64 (i : Int), .int .i64 (j : Int)] w fun e w' => e = .returned (.bool (ltT x y)) ∧ ∃ n, w' = w.drewN n := by
  obtain ⟨hi, rfl⟩ := List.getElem?_eq_some_iff.1 hx
  obtain ⟨hj, rfl⟩ := List.getElem?_eq_some_iff.1 hy
  exact less_calls v L i j w h hi hj

/-- What stands between two rounds: the timers M lie in memory, as L did but for their order among the first n. -/
structure HpI (w : World) (wb n : Nat) (v : Value) (L M : List Tm) (wr : World) : Prop where
  cell : wr.cell? ⟨wb, 3, none⟩ = some v
  pn : PnAt wr v M
  perm : M.Perm L
  rest : ∀ q, n ≤ q → M[q]? = L[q]?
  frm : Frm (FT v L) w wr
  size : wr.heap.size = w.heap.size
theorem HpI.draws {w : World} {wb n : Nat} {v : Value} {L M : List Tm} {wr : World} (h : HpI w wb n v L M wr) (m : Nat) : HpI w wb n v L M (wr.drewN m) :=
  ⟨(World.cell?_of_block (w := wr) rfl).trans h.cell, h.pn.below (below_drawsT wr m), h.perm, h.rest, h.frm.trans (Frm.ofDraws _ _ _), by simpa using h.size⟩
theorem FT.perm {v : Value} {L M : List Tm} (h : M.Perm L) : FT v M = FT v L := by
  funext k
  simp only [FT, h.mem_iff]
theorem HpI.swap {w : World} {wb n i j : Nat} {v : Value} {L M : List Tm} {wr w' : World} {x y : Tm} (h : HpI w wb n v L M wr) (hx : M[i]? = some x) (hy : M[j]? = some y) (hi : i < n) (hj : j < n) (hwb : ¬ FT v L wb)
    (hp : PnAt w' v (swapL M i j x y)) (hf : Frm (FT v M) wr w') (hs : w'.heap.size = wr.heap.size) : HpI w wb n v L (swapL M i j x y) w' := by
  have hlt : wb < wr.heap.size := by
    have := h.cell
    unfold World.cell? at this
    split at this
    · rename_i hb; exact lt_of_heapT hb
    · cases this
  rw [FT.perm h.perm] at hf
  exact ⟨(World.cell?_of_block (hf.block wb hlt hwb)).trans h.cell, hp, (swap_perm hx hy).trans h.perm, fun q hq => (swap_at hx hy (by omega) (by omega)).trans (h.rest q hq), h.frm.trans hf, hs.trans h.size⟩
theorem HpI.len {w : World} {wb n : Nat} {v : Value} {L M : List Tm} {wr : World} (h : HpI w wb n v L M wr) : M.length = L.length := h.perm.length_eq
theorem tdivP0 : wrap64 ((wrap64 (((0 : Nat) : Int) - 1)).tdiv 2) = ((0 : Nat) : Int) := by kernel_rfl
theorem tdivP (k : Nat) (hk : 0 < k) (hm : k ≤ 140737488355328) : wrap64 ((wrap64 ((k : Int) - 1)).tdiv 2) = (par k : Int) := by
  have h1 : wrap64 ((k : Int) - 1) = ((k - 1 : Nat) : Int) := by unfold wrap64; omega
  have h2 : (((k - 1 : Nat) : Int)).tdiv 2 = (par k : Int) := by
    unfold par
    rw [Int.tdiv_eq_ediv_of_nonneg (by omega)]
    omega
  rw [h1, h2]
  have := par_le k
  unfold wrap64
  omega

set_option maxRecDepth 100000 in
set_option maxHeartbeats 1000000 in
theorem up_calls (wb n j : Nat) (v : Value) (L : List Tm) (w : World) (hc : w.cell? ⟨wb, 3, none⟩ = some v) (h : PnAt w v L) (hwb : ¬ FT v L wb) (hj : j < n) (hn : n ≤ L.length) (hm : n ≤ 140737488355328) (hu : HpUp L n j) :
    Calls Try.prog 29 #[.iface 66 (.pointer (some ⟨wb, 3, none⟩)), .int .i64 (j : Int)] w fun e w' => e = .returned (.tuple #[]) ∧ ∃ M, HpI w wb n v L M w' ∧ HpAll M n := by
  have HWB : Hid (¬ FT v L wb) := hwb
  have HI0 : Hid (HpI w wb n v L L w) := ⟨hc, h, List.Perm.refl _, fun _ _ => rfl, Frm.refl _ _, rfl⟩
  have HU0 : Hid (HpUp L n j) := hu
  clear hwb hc h hu
  go_enter Try.func29, Try.ntmps29
  go_wp2_with fail
  go_loopw [1, 4] (fun jj ii wr => ∃ (k : Nat) (M : List Tm), jj = .int .i64 (k : Int) ∧ k < n ∧ Hid (HpI w wb n v L M wr) ∧ Hid (HpUp M n k)) (fun jj _ _ => (intOf jj).toNat)
  case atStart => exact ⟨j, L, rfl, hj, HI0, HU0⟩
  case round =>
    clear HI0 HU0
    obtain ⟨k, M, rfl, hk, HI, HU⟩ := hrel
    have hkM : k < M.length := by rw [HI.out.len]; omega
    by_cases hk0 : k = 0
    · subst hk0
      have hq : (wrap64 ((wrap64 (((0 : Nat) : Int) - 1)).tdiv 2) == ((0 : Nat) : Int)) = true := by rw [tdivP0]; rfl
      clear hkM
      go_wp2
      go_end0
      exact ⟨rfl, M, HI.out, HU.out.top⟩
    · have hpl : par k < k := par_lt (by omega)
      obtain ⟨x, hx⟩ : ∃ x, M[par k]? = some x := ⟨_, List.getElem?_eq_getElem (by omega)⟩
      obtain ⟨y, hy⟩ : ∃ y, M[k]? = some y := ⟨_, List.getElem?_eq_getElem hkM⟩
      have hdv : ((k : Int) - 1) / 2 = (par k : Int) := by unfold par; omega
      have hq : ((par k : Int) == (k : Int)) = false := by simp; omega
      have hmt := meth_less wr wb v HI.out.cell
      have HL := lessX_calls v M k (par k) y x wr HI.out.pn hy hx
      have HX : Hid (M[par k]? = some x ∧ M[k]? = some y ∧ 0 < k) := ⟨hx, hy, by omega⟩
      clear hx hy hkM hk0
      go_wp2_with fail
      try rw [hdv]
      refine HL.mono ?_
      clear HL hmt
      rintro e w1 ⟨rfl, m, hw1⟩
      have HI1 : Hid (HpI w wb n v L M w1) := by rw [hw1]; exact HI.out.draws m
      clear HI hw1
      cases hl : ltT y x with
      | false =>
        have HD : Hid (HpAll M n) := HU.out.done HX.out.1 HX.out.2.1 hl
        go_wp2
        go_end0
        exact ⟨rfl, M, HI1.out, HD.out⟩
      | true =>
        have hmt := meth_swap w1 wb v HI1.out.cell
        have HL := swap_calls v M (par k) k x y w1 HI1.out.pn HX.out.1 HX.out.2.1
        have HU2 : Hid (HpUp (swapL M (par k) k x y) n (par k)) := HU.out.step HX.out.2.2 hk HX.out.1 HX.out.2.1 hl
        go_wp2_with fail
        refine HL.mono ?_
        clear HL hmt
        rintro e w2 ⟨rfl, hp2, hf2, hs2⟩
        have HI2 : Hid (HpI w wb n v L (swapL M (par k) k x y) w2) := HI1.out.swap HX.out.1 HX.out.2.1 (by omega) hk HWB.out hp2 hf2 hs2
        clear hp2 hf2 hs2 HI1
        go_wp2
        refine ⟨⟨par k, _, rfl, by omega, HI2, HU2⟩, ?_⟩
        simp [intOf]
        omega
end Go.Proofs.Ytedhjdkhfndinaa
