/- Layer 2 (watch): the road through sync.Once in one goroutine, and the closure that Fire hands to it. -/
import Derived.Test.YtpnmkfbdfggnaaaGreatKBase
import Derived.WalkKit
import Derived.WalkSpells
import Derived.Defers
import Derived.Laws.Pointers
import Derived.Laws.LoneSync
import Derived.RegionTactic
import Derived.RegionCalls
import Derived.Laws.Rows
import Derived.Conc.EventLaws
import Derived.KernelRfl
namespace Go.Proofs.YtpnmkfbdfggnaaaGreat
open Go.RowKit
set_option linter.unusedVariables false

theorem raceDisable (w : World) : (callFunc 101 #[]).run Tryz.prog w = .ok (.value (.tuple #[])) w := run_call_mark0 Tryz.func101 (by kernel_rfl) (by kernel_rfl) (by kernel_rfl) .disable (by kernel_rfl) w
theorem raceEnable (w : World) : (callFunc 103 #[]).run Tryz.prog w = .ok (.value (.tuple #[])) w := run_call_mark0 Tryz.func103 (by kernel_rfl) (by kernel_rfl) (by kernel_rfl) .enable (by kernel_rfl) w
theorem raceAcquire (a : Addr) (w : World) : (callFunc 104 #[.pointer (some a)]).run Tryz.prog w = .ok (.value (.tuple #[])) w := run_call_marked Tryz.func104 (by kernel_rfl) (by kernel_rfl) (by kernel_rfl) .acquire (by kernel_rfl) a w
theorem raceReleaseMerge (a : Addr) (w : World) : (callFunc 106 #[.pointer (some a)]).run Tryz.prog w = .ok (.value (.tuple #[])) w := run_call_marked Tryz.func106 (by kernel_rfl) (by kernel_rfl) (by kernel_rfl) .releaseMerge (by kernel_rfl) a w

/-- The atomic Bool is set, as a deferred call. -/
theorem store_deferred (a : Addr) (x : Value) (u : FrameMode) (w : World) (hc : w.cell? a = some x) (hz : w.frozen? a = false) :
    CallsD Tryz.prog 170 #[.pointer (some a), .bool true] u w fun e u' w' => u' = u ∧ (e = .returned (.tuple #[]) ∧ w' = w.drew.setCell a (.int .u32 1)) := by
  have hc' : w.drew.cell? a = some x := by go_simp
  have hz' : w.drew.frozen? a = false := by go_simp
  have hst := run_call_store (P := Tryz.prog) Tryz.func171 (by kernel_rfl) (by kernel_rfl) (by kernel_rfl) (by kernel_rfl) (k := .u32) (y := 1) hc' hz'
  go_enter_d Tryz.func170, Tryz.ntmps170
  go_wp2
  go_region_calls
  all_goals (go_end0; exact ⟨rfl, rfl⟩)

set_option maxRecDepth 100000 in
theorem unlock_deferred (a : Addr) (u : FrameMode) (w : World) (hc : w.cell? a = some (.int .i32 1)) (hz : w.frozen? a = false) :
    CallsD Tryz.prog 39 #[.pointer (some a)] u w fun e u' w' => u' = u ∧ (e = .returned (.tuple #[]) ∧ w' = w.setCell a (.int .i32 0)) := by
  have hd := raceDisable
  have he := raceEnable
  have hr := raceReleaseMerge
  have hadd := run_call_add (P := Tryz.prog) Tryz.func107 (by kernel_rfl) (by kernel_rfl) (by kernel_rfl) .i32 (by kernel_rfl) (y := -1) (s := 0) hc hz (by simp [go_sem]; rfl)
  have hcv := run_convert_to_unsafe (P := Tryz.prog) (src := 189) (dst := 89) Tryz.underlying189 Tryz.underlying89 (by kernel_rfl) hc
  go_enter_d Tryz.func39, Tryz.ntmps39
  go_wp2
  go_end0
  go_wp2
  go_end0
  exact ⟨rfl, rfl⟩

set_option maxRecDepth 100000 in
theorem lock_free (a : Addr) (w : World) (hc : w.cell? a = some (.int .i32 0)) (hz : w.frozen? a = false) :
    Calls Tryz.prog 38 #[.pointer (some a)] w fun e w' => e = .returned (.tuple #[]) ∧ w' = w.setCell a (.int .i32 1) := by
  have hd := raceDisable
  have he := raceEnable
  have ha := raceAcquire
  have hcas := run_call_cas_hit (P := Tryz.prog) Tryz.func102 (by kernel_rfl) (by kernel_rfl) (by kernel_rfl) .i32 (by kernel_rfl) (y := 1) hc hz
  have hc' : (w.setCell a (.int .i32 1)).cell? a = some (.int .i32 1) := World.cell?_setCell_same w a _ hc
  have hcv := run_convert_to_unsafe (P := Tryz.prog) (src := 189) (dst := 89) Tryz.underlying189 Tryz.underlying89 (by kernel_rfl) hc'
  go_enter Tryz.func38, Tryz.ntmps38
  go_wp2
  first | go_end0 | (simp only [Exit.inBlock, Exit.then]; refine bodyPost_ret (results_none rfl _ _ _) rfl ?_) | refine bodyPost_ret (results_none rfl _ _ _) rfl ?_
  go_wp2
  go_end0
  exact ⟨rfl, rfl⟩


/-- The closure that Fire hands to the Once: it closes the channel and says so. -/
theorem closure_calls (b c : Nat) (p1 p3 : Addr) (x : Value) (w : World) (h1 : w.cell? p1 = some (.pointer (some ⟨b, 0, none⟩))) (h0 : w.cell? ⟨b, 0, none⟩ = some (.chan (some c)))
    (hc : w.heap[c]? = some (.chan 0 #[] false 0 0 false)) (h3 : w.cell? p3 = some x) (z3 : w.frozen? p3 = false) (hne : p3.block ≠ c) :
    Calls Tryz.prog 164 #[.pointer (some p1), .pointer (some p3)] w fun e w' => e = .returned (.tuple #[]) ∧ w' = (shut w c).setCell p3 (.bool true) := by
  have hcl := fun ats ty => run_close_open (P := Tryz.prog) (w := w) ats ty hc
  have hcl' : ∀ ats ty, (Builtin.close_ ats ty #[.chan (some c)]).run Tryz.prog w = .ok (.tuple #[]) (shut w c) := hcl
  clear hcl
  have h3' : (shut w c).cell? p3 = some x := (shut_cell w c p3 hne).trans h3
  have z3' : (shut w c).frozen? p3 = false := (shut_frozen w c p3 hne).trans z3
  go_enter Tryz.func164, Tryz.ntmps164
  go_wp2
  go_end0
  exact ⟨rfl, rfl⟩
end Go.Proofs.YtpnmkfbdfggnaaaGreat
