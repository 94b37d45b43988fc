/- Layer 9 (records): the law's recordsFixed. -/
import Derived.Test.YtdomajhffmfbbaaGreatDoorRcLabel
import Derived.Test.YtdomajhffmfbbaaGreatDoorRcAddr
namespace Go.Proofs.YtdomajhffmfbbaaGreatDoor
open Go.RowKit
set_option linter.unusedVariables false

def web1 : ByteArray := ⟨#[87, 101, 98, 45, 49]⟩
def ten255 : ByteArray := ⟨#[49, 48, 46, 48, 46, 48, 46, 50, 53, 53]⟩
theorem web1_lab : labT web1 = ⟨#[119, 101, 98, 45, 49]⟩ ∧ labE web1 = 0 := ⟨by kernel_rfl, by kernel_rfl⟩
theorem ten_words : wsOf ten255 46 = [⟨#[49, 48]⟩, ⟨#[48]⟩, ⟨#[48]⟩, ⟨#[50, 53, 53]⟩] := by kernel_rfl
theorem ten_ok : adrOk ten255 = true := by kernel_rfl
theorem ten_adr : adrA ten255 = #[.agg #[.int .u8 10, .int .u8 0, .int .u8 0, .int .u8 255], .int .i64 0] := by
  rw [adrA_yes ten_ok, ten_words]
  kernel_rfl

attribute [local go_sem] eq_four in
set_option maxRecDepth 100000 in
set_option maxHeartbeats 1000000 in
theorem recordsFixed_calls (w : World) (hv : Vs w) :
    Calls Tryz.prog 5 #[] w fun e w' => e = .returned (.bool true) ∧ Below w.heap.size w w' := by
  have HV : Hid (Vs w) := hv
  clear hv
  have H1 : Hid (Calls Tryz.prog 18 #[.string ⟨#[87, 101, 98, 45, 49]⟩] w fun e w' => e = .returned (.tuple #[.string ⟨#[119, 101, 98, 45, 49]⟩, .int .i64 0]) ∧ Below w.heap.size w w') := by
    have := label_calls web1 w (by decide)
    rw [web1_lab.1, web1_lab.2] at this
    exact this
  have H2 : Hid (∀ w, Vs w → Calls Tryz.prog 19 #[.string ⟨#[49, 48, 46, 48, 46, 48, 46, 50, 53, 53]⟩] w fun e w' => e = .returned (.tuple #[.agg #[.int .u8 10, .int .u8 0, .int .u8 0, .int .u8 255], .int .i64 0]) ∧ Below w.heap.size w w') := fun w hv => by
    have := addr_calls ten255 w (by decide) hv
    rw [ten_adr] at this
    exact this
  go_enter Tryz.func5, Tryz.ntmps5
  go_wp2_with fail
  refine H1.out.mono ?_
  rintro e w1 ⟨rfl, hb1⟩
  have HB1 : Hid (Below w.heap.size w w1) := hb1
  clear hb1 H1
  go_wp2_with fail
  refine (H2.out w1 (HV.out.stay HB1.out)).mono ?_
  rintro e w2 ⟨rfl, hb2⟩
  have HB2 : Hid (Below w.heap.size w w2) := HB1.out.trans (hb2.mono HB1.out.size)
  clear hb2 H2
  go_wp2
  go_ret
  exact ⟨rfl, HB2.out.alloc HB2.out.size _⟩
end Go.Proofs.YtdomajhffmfbbaaGreatDoor
