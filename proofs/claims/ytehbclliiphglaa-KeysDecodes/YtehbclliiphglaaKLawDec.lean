/- The walk of KeysDecodes. -/
import Derived.Test.YtehbclliiphglaaKRDecode
namespace Go.Proofs.Ytehbclliiphglaa
open Go.RowKit
set_option linter.unusedVariables false

theorem decAns_len (l : List UInt8) : (decAns l).1.length ≤ 1024 := by
  rcases decAns_err l with h | ⟨_, h⟩
  · obtain ⟨h1, h2⟩ := decAns_ok h
    obtain ⟨h3, _⟩ := dec_inv h2
    have := enc_length_le (decAns l).1
    rw [h3] at this
    omega
  · rw [h]; simp

set_option maxHeartbeats 400000 in
theorem decodes_walk (key : ByteArray) (w : World) (hk : key.size ≤ 140737488351232) :
    Calls Try.prog 6 #[.string key] w fun e w' => e = .returned (.bool true) ∧ Below w.heap.size w w' := by
  go_enter Try.func6, Try.ntmps6
  go_wp2_with fail
  refine (keysFixed_calls w).mono ?_
  rintro e w1 ⟨rfl, hb1⟩
  go_wp2_with fail
  refine (rdecode_calls key w1 hk).mono ?_
  rintro e w2 ⟨v2, rfl, ho2, hb2⟩
  have hb3 : Below w.heap.size w w2 := hb1.trans (hb2.mono hb1.size)
  go_wp2_with fail
  refine (decode_calls key w2 hk).mono ?_
  rintro e w3 ⟨v3, rfl, ho3, hb4, hsm⟩
  have hb5 : Below w.heap.size w w3 := hb3.trans (hb4.mono hb3.size)
  have ho4 := ho2.below hb4
  have hdl := decAns_len key.data.toList
  obtain ⟨D, hD⟩ : ∃ D, D = decAns key.data.toList := ⟨_, rfl⟩
  rw [← hD] at ho3 ho4 hsm hdl ⊢
  clear hD ho2
  have hwf : ∀ p ∈ D.1, p.wf := fun p hp => (hsm p hp).wf
  clear hsm
  obtain ⟨ao3, cap3, hsh3⟩ := ho3.shape
  subst hsh3
  obtain ⟨ao4, cap4, hsh4⟩ := ho4.shape
  subst hsh4
  have hp3 := ho3.parts hwf
  have hp4 := ho4.parts hwf
  clear hwf
  go_wp2_with fail
  refine (same_calls ao3 ao4 cap3 cap4 D.1 D.1 w3 (by omega) (by omega) hp3 hp4).mono ?_
  rintro e w4 ⟨rfl, hb6⟩
  have hb7 : Below w.heap.size w w4 := hb5.trans (hb6.mono hb5.size)
  rw [(sameB_iff D.1 D.1).2 rfl]
  go_wp2
  all_goals go_light
  all_goals go_ret
  all_goals exact ⟨by simp, hb7⟩
end Go.Proofs.Ytehbclliiphglaa
