/- The walks of KeysEncodes and KeysBegins. -/
import Derived.Test.YtehbclliiphglaaKREncode
import Derived.Test.YtehbclliiphglaaKFixed
import Derived.Test.YtehbclliiphglaaKParts
namespace Go.Proofs.Ytehbclliiphglaa
open Go.RowKit
set_option linter.unusedVariables false

set_option maxHeartbeats 400000 in
theorem begin_calls (ao : Option Addr) (cap : Nat) (ps : List Pt) (w : World) (hl : ps.length ≤ 4398046511104) (hp : PartsAt w ao ps) :
    Calls Try.prog 13 #[.slice ao ps.length cap] w fun e w' => e = .returned (.tuple #[.string ⟨(encAns true ps).1.toArray⟩, .int .i64 (encAns true ps).2]) ∧ Below w.heap.size w w' := by
  go_enter Try.func13, Try.ntmps13
  go_wp2_with fail
  refine (write_calls ao cap ps true w hl hp).mono ?_
  rintro e w1 ⟨rfl, hb1⟩
  go_wp2
  go_ret2
  exact ⟨rfl, hb1⟩

set_option maxHeartbeats 400000 in
theorem encodes_walk (ao : Option Addr) (cap : Nat) (ps : List Pt) (w : World) (hl : ps.length ≤ 4398046511100) (hp : PartsAt w ao ps) (hsum : (enc false ps).length ≤ 70368744177664) (hts : ∀ p ∈ ps, p.t.size ≤ 70368744177000) :
    Calls Try.prog 4 #[.slice ao ps.length cap] w fun e w' => e = .returned (.bool true) ∧ Below w.heap.size w w' := by
  have HT : Hid (∀ p ∈ ps, p.t.size ≤ 70368744177000) := hts
  clear hts
  go_enter Try.func4, Try.ntmps4
  go_wp2_with fail
  refine (keysFixed_calls w).mono ?_
  rintro e w1 ⟨rfl, hb1⟩
  have hp1 := hp.below hb1
  go_wp2_with fail
  refine (rencode_calls ao cap ps false w1 (by omega) hp1 hsum HT.out).mono ?_
  rintro e w2 ⟨rfl, hb2⟩
  have hp2 := hp1.below hb2
  have hb3 : Below w.heap.size w w2 := hb1.trans (hb2.mono hb1.size)
  obtain ⟨A, hA⟩ : ∃ A, A = encAns false ps := ⟨_, rfl⟩
  rw [← hA]
  have HA : Hid (A = encAns false ps) := hA
  clear hA
  go_wp2_with fail
  refine (copied_calls ao cap ps w2 hl hp2).mono ?_
  rintro e w3 ⟨v3, rfl, ho3, hb4⟩
  have hb5 : Below w.heap.size w w3 := hb3.trans (hb4.mono hb3.size)
  obtain ⟨ao3, cap3, hsh⟩ := ho3.shape
  subst hsh
  have hp3 := ho3.parts hp.wf
  go_wp2_with fail
  refine (encode_calls ao3 cap3 ps w3 (by omega) hp3).mono ?_
  rintro e w4 ⟨rfl, hb6⟩
  have hb7 : Below w.heap.size w w4 := hb5.trans (hb6.mono hb5.size)
  rw [← HA.out]
  go_wp2
  all_goals go_light
  all_goals go_ret
  all_goals exact ⟨by simp, hb7⟩

set_option maxHeartbeats 400000 in
theorem begins_walk (ao : Option Addr) (cap : Nat) (ps : List Pt) (w : World) (hl : ps.length ≤ 4398046511100) (hp : PartsAt w ao ps) (hsum : (enc true ps).length ≤ 70368744177664) (hts : ∀ p ∈ ps, p.t.size ≤ 70368744177000) :
    Calls Try.prog 5 #[.slice ao ps.length cap] w fun e w' => e = .returned (.bool true) ∧ Below w.heap.size w w' := by
  have HT : Hid (∀ p ∈ ps, p.t.size ≤ 70368744177000) := hts
  clear hts
  go_enter Try.func5, Try.ntmps5
  go_wp2_with fail
  refine (keysFixed_calls w).mono ?_
  rintro e w1 ⟨rfl, hb1⟩
  have hp1 := hp.below hb1
  go_wp2_with fail
  refine (rencode_calls ao cap ps true w1 (by omega) hp1 hsum HT.out).mono ?_
  rintro e w2 ⟨rfl, hb2⟩
  have hp2 := hp1.below hb2
  have hb3 : Below w.heap.size w w2 := hb1.trans (hb2.mono hb1.size)
  obtain ⟨A, hA⟩ : ∃ A, A = encAns true ps := ⟨_, rfl⟩
  rw [← hA]
  have HA : Hid (A = encAns true ps) := hA
  clear hA
  go_wp2_with fail
  refine (copied_calls ao cap ps w2 hl hp2).mono ?_
  rintro e w3 ⟨v3, rfl, ho3, hb4⟩
  have hb5 : Below w.heap.size w w3 := hb3.trans (hb4.mono hb3.size)
  obtain ⟨ao3, cap3, hsh⟩ := ho3.shape
  subst hsh
  have hp3 := ho3.parts hp.wf
  go_wp2_with fail
  refine (begin_calls ao3 cap3 ps w3 (by omega) hp3).mono ?_
  rintro e w4 ⟨rfl, hb6⟩
  have hb7 : Below w.heap.size w w4 := hb5.trans (hb6.mono hb5.size)
  rw [← HA.out]
  go_wp2
  all_goals go_light
  all_goals go_ret
  all_goals exact ⟨by simp, hb7⟩
end Go.Proofs.Ytehbclliiphglaa
