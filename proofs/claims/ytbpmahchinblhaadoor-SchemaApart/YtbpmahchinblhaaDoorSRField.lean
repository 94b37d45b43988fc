/- Layer 6 (schema): the document's bare and field. -/
import Derived.Test.YtbpmahchinblhaaDoorSRKind
namespace Go.Proofs.YtbpmahchinblhaaDoor
open Go.RowKit
set_option linter.unusedVariables false

set_option maxHeartbeats 1000000 in
theorem rfield_calls (t : TV) (n : ByteArray) (w : World) (hl : t.fs.length ≤ 16) (h : CellsAt w t.fa (fcs t.fs)) :
    Calls Tryd.prog 23 #[.agg #[.string t.n, t.fv, t.xv], .string n] w fun e w' => e = .returned (.int .i64 (placeF t.fs n)) ∧ Below w.heap.size w w' := by
  obtain ⟨tn, fs, fa, fc, xs, xa, xc⟩ := t
  dsimp only [TV.fv, TV.xv] at *
  go_enter Tryd.func23, Tryd.ntmps23
  go_wp2
  go_loopw [5, 6, 10] (fun a5 a6 x wr => ∃ k : Nat, k ≤ fs.length ∧ x = .int .i64 k ∧ Hid (noneTo (fun f => decide (f.n = n)) fs k) ∧ Below w.heap.size w wr) (fun _ _ x _ => fs.length - (intOf x).toNat)
  case atStart => exact ⟨0, Nat.zero_le _, rfl, noneTo.zero _ _, (Below.refl _ _).alloc (Nat.le_refl _) _⟩
  case round =>
    obtain ⟨k, hk, rfl, HK, hb⟩ := hrel
    by_cases hlt : k < fs.length
    · obtain ⟨b, off, rfl, c0, c1⟩ := (h.below hb).fld k hlt
      by_cases e1 : fs[k].n = n
      · have HE : Hid ((k : Int) = placeF fs n) := place_hit hlt e1 HK.out
        have q1 : (fs[k].n.toList == n.toList) = true := by rw [beq_toList]; simpa using e1
        clear e1
        go_wp2
        go_ret
        exact ⟨ret_num HE.out, hb.alloc hb.size _⟩
      · have HE : Hid (decide (fs[k].n = n) = false) := by simpa [Hid] using e1
        have q1 : (fs[k].n.toList == n.toList) = false := by rw [beq_toList]; simpa using e1
        clear e1
        go_wp2
        go_roundw
        case rel => exact ⟨k + 1, by omega, by go_num, HK.out.succ hlt HE.out, hb.alloc hb.size _⟩
        case measure => simp [intOf]; omega
    · go_wp2
      go_ret
      exact ⟨ret_num (place_none (by omega) HK.out), hb⟩

theorem zero_beq (n : Nat) : ((n : Int) == 0) = decide (n = 0) := by by_cases h : n = 0 <;> simp [h]
theorem rbare_none (ao : Option Addr) (cap : Nat) (w : World) :
    Calls Tryd.prog 12 #[.slice ao 0 cap] w fun e w' => e = .returned (.bool false) ∧ w' = w := by
  go_enter Tryd.func12, Tryd.ntmps12
  go_wp2
  go_ret
  exact ⟨rfl, rfl⟩
theorem rbare_some (g n cap : Nat) (xa : Option Addr) (xl xc : Nat) (w : World) (hn : n < 100) (hx : w.cell? ⟨g, n * 3 + 2, none⟩ = some (.slice xa xl xc)) :
    Calls Tryd.prog 12 #[.slice (some ⟨g, 0, none⟩) (n + 1) cap] w fun e w' => e = .returned (.bool (decide (xl = 0))) ∧ w' = w := by
  go_enter Tryd.func12, Tryd.ntmps12
  go_wp2
  go_ret
  exact ⟨ret_bool (zero_beq xl), rfl⟩
end Go.Proofs.YtbpmahchinblhaaDoor
