/- Layer 5 (txn): an atomic pointer, loaded and stored. -/
import Derived.Test.YtpnmkfbdfggnaaaGreatKBase
import Derived.Lib.Builder
namespace Go.Proofs.YtpnmkfbdfggnaaaGreat
open Go.RowKit
set_option linter.unusedVariables false

section
variable {P : Program} {f : Nat} {fn : Func}
theorem run_call_loadP (hf : P.funcs[f]? = some fn) (hname : (fn.name == "runtime.NumGoroutine") = false) (hb : fn.body.isNone = true) (hn : Extern.findNext fn = none) (he : Extern.find fn = some (Extern.Atomic.loadT .ptr)) {a : Addr} {p : Option Addr} {w : World} (hc : w.cell? a = some (.pointer p)) :
    (callFunc f #[.pointer (some a)]).run P w = .ok (.value (.pointer p)) w := by
  rw [run_callFunc_extern hf hname hb hn he]
  change (Sem.run P (do Extern.Atomic.read .ptr (← asAddr (.pointer (some a)))) w).andThen _ = _
  simp [Extern.Atomic.read, asAddr, hc, Result.andThen]
theorem run_call_storeP (hf : P.funcs[f]? = some fn) (hname : (fn.name == "runtime.NumGoroutine") = false) (hb : fn.body.isNone = true) (hn : Extern.findNext fn = none) (he : Extern.find fn = some Extern.Atomic.storeT) {a : Addr} {p : Option Addr} {u : Value} {w : World} (hc : w.cell? a = some u) (hz : w.frozen? a = false) :
    (callFunc f #[.pointer (some a), .pointer p]).run P w = .ok (.value (.tuple #[])) (w.setCell a (.pointer p)) := by
  rw [run_callFunc_extern hf hname hb hn he]
  change (Sem.run P (do
    store (← asAddr (.pointer (some a))) (.pointer p) .atomic
    pure Extern.Atomic.none_) w).andThen _ = _
  simp [asAddr, hc, hz, run_store P w a (.pointer p) .atomic rfl, Result.andThen, Extern.Atomic.none_]
end

theorem verInfo : ∃ j, Tryz.prog.info? 102 = some j := Option.isSome_iff_exists.1 (by kernel_rfl)

set_option maxRecDepth 100000 in
theorem load_calls (bb vb : Nat) (x0 x1 : Value) (w : World) (hc : w.cell? ⟨bb, 0, none⟩ = some (.pointer (some ⟨vb, 0, none⟩))) (hv : w.heap[vb]? = some (.cells #[x0, x1] 102)) :
    Calls Tryz.prog 55 #[.pointer (some ⟨bb, 0, none⟩)] w fun e w' => e = .returned (.pointer (some ⟨vb, 0, none⟩)) ∧ w' = w := by
  have hl := run_call_loadP (P := Tryz.prog) Tryz.func86 (by kernel_rfl) (by kernel_rfl) (by kernel_rfl) (by kernel_rfl) hc
  obtain ⟨j, hj⟩ := verInfo
  have hsh : w.shape? vb = some (102, 2) := by simp [World.shape?, hv]
  have hcv := Lib.run_from_unsafe (P := Tryz.prog) w (src := 89) (dst := 85) ⟨vb, 0, none⟩ Tryz.underlying89 Tryz.underlying85 hj hsh (by kernel_rfl)
  clear hsh hv
  go_enter Tryz.func55, Tryz.ntmps55
  go_wp2
  go_ret
  exact ⟨rfl, rfl⟩

set_option maxRecDepth 100000 in
theorem store_calls (bb vb : Nat) (u x : Value) (w : World) (hc : w.cell? ⟨bb, 0, none⟩ = some u) (hz : w.frozen? ⟨bb, 0, none⟩ = false) (hv : w.cell? ⟨vb, 0, none⟩ = some x) :
    Calls Tryz.prog 35 #[.pointer (some ⟨bb, 0, none⟩), .pointer (some ⟨vb, 0, none⟩)] w fun e w' => e = .returned (.tuple #[]) ∧ w' = w.setCell ⟨bb, 0, none⟩ (.pointer (some ⟨vb, 0, none⟩)) := by
  have hst := run_call_storeP (P := Tryz.prog) Tryz.func73 (by kernel_rfl) (by kernel_rfl) (by kernel_rfl) (by kernel_rfl) (p := some ⟨vb, 0, none⟩) hc hz
  have hcv := run_convert_to_unsafe (P := Tryz.prog) (src := 85) (dst := 89) Tryz.underlying85 Tryz.underlying89 (by kernel_rfl) hv
  go_enter Tryz.func35, Tryz.ntmps35
  go_wp2
  go_end0
  exact ⟨rfl, rfl⟩
end Go.Proofs.YtpnmkfbdfggnaaaGreat
