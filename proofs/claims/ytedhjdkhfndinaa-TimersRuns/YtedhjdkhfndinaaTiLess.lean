/- Layer 14 (timers): Len, Less of the heap. -/
import Derived.Test.YtedhjdkhfndinaaTiMem
namespace Go.Proofs.Ytedhjdkhfndinaa
open Go.RowKit
set_option linter.unusedVariables false

theorem len_calls (g : Option Addr) (n cap : Nat) (w : World) (hn : n ≤ maxLen) :
    Calls Try.prog 49 #[.slice g n cap] w fun e w' => e = .returned (.int .i64 (n : Int)) ∧ w' = w := by
  go_enter Try.func49, Try.ntmps49
  go_wp2
  go_ret
  exact ⟨rfl, rfl⟩

set_option maxRecDepth 100000 in
set_option maxHeartbeats 1000000 in
theorem less_calls (v : Value) (L : List Tm) (i j : Nat) (w : World) (h : PnAt w v L) (hi : i < L.length) (hj : j < L.length) :
    Calls Try.prog 50 #[v, .int .i64 (i : Int), .int .i64 (j : Int)] w fun e w' => e = .returned (.bool (ltT L[i] L[j])) ∧ ∃ n, w' = w.drewN n := by
  obtain ⟨g, cap, rfl, hm, hc⟩ := h.at i hi
  have c1 := h.cell i hi
  have c2 := h.cell j hj
  have t1 := h.tms i _ (List.getElem?_eq_getElem hi)
  have t2 := h.tms j _ (List.getElem?_eq_getElem hj)
  obtain ⟨n, Hn⟩ : ∃ n, Hid (n = L.length) := ⟨_, rfl⟩
  obtain ⟨x, Hx⟩ : ∃ x : Tm, Hid (x = L[i]) := ⟨L[i], rfl⟩
  obtain ⟨y, Hy⟩ : ∃ y : Tm, Hid (y = L[j]) := ⟨L[j], rfl⟩
  rw [← Hx.out] at c1 t1 ⊢
  rw [← Hy.out] at c2 t2 ⊢
  rw [← Hn.out] at hi hj hc ⊢
  clear Hn Hx Hy h
  obtain ⟨xi, xt, xu, xb⟩ := x
  obtain ⟨yi, yt, yu, yb⟩ := y
  unfold ptrT at c1 c2
  dsimp only at c1 c2 t1 t2
  have a1 : w.cell? ⟨xb, 1, none⟩ = some (.int .u64 xt) := by rw [cell_blkT t1]; rfl
  have a2 : w.cell? ⟨xb, 2, none⟩ = some (.int .u64 xu) := by rw [cell_blkT t1]; rfl
  have b1 : w.cell? ⟨yb, 1, none⟩ = some (.int .u64 yt) := by rw [cell_blkT t2]; rfl
  have b2 : w.cell? ⟨yb, 2, none⟩ = some (.int .u64 yu) := by rw [cell_blkT t2]; rfl
  clear t1 t2
  by_cases hq : xt = yt
  · subst hq
    have hne : (xt != xt) = false := by simp
    go_enter Try.func50, Try.ntmps50
    go_wp2_with fail
    go_quiet (fail)
    go_wp2_with fail
    go_quiet (fail)
    go_wp2
    go_ret
    refine ⟨ret_bool ?_, ?_⟩
    · simp [ltT]
    · exact ⟨_, World.drewN_drewN _ _ _⟩
  · have hne : (xt != yt) = true := by simpa using hq
    go_enter Try.func50, Try.ntmps50
    go_wp2_with fail
    go_quiet (fail)
    go_wp2_with fail
    go_quiet (fail)
    go_wp2
    go_ret
    refine ⟨ret_bool ?_, ?_⟩
    · simp [ltT, hq]
    · exact ⟨_, World.drewN_drewN _ _ _⟩
end Go.Proofs.Ytedhjdkhfndinaa
