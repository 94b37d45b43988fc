/- The walk of KeysBack. -/
import Derived.Test.YtehbclliiphglaaKMath
import Derived.Test.YtehbclliiphglaaKSame
import Derived.Test.YtehbclliiphglaaKFixed
namespace Go.Proofs.Ytehbclliiphglaa
open Go.RowKit
set_option linter.unusedVariables false

theorem encAns_ok {op : Bool} {ps : List Pt} (h : (encAns op ps).2 = 0) : ps.all vldB = true ∧ (enc op ps).length ≤ 1024 ∧ (encAns op ps).1 = enc op ps := by
  unfold encAns at h ⊢
  split at h
  · split at h
    · rename_i h1 h2; rw [if_pos h1, if_pos h2]; exact ⟨h1, h2, rfl⟩
    · simp at h
  · simp at h
theorem encAns_mk {op : Bool} {ps : List Pt} (h1 : ps.all vldB = true) (h2 : (enc op ps).length ≤ 1024) : encAns op ps = (enc op ps, 0) := by
  unfold encAns; rw [if_pos h1, if_pos h2]
theorem encAns_err (op : Bool) (ps : List Pt) : (encAns op ps).2 = 0 ∨ ((encAns op ps).2 == 0) = false := by
  unfold encAns
  split
  · split
    · exact .inl rfl
    · exact .inr rfl
  · exact .inr rfl
theorem encAns_le (op : Bool) (ps : List Pt) : (encAns op ps).1.length ≤ 1024 := by
  unfold encAns
  split
  · split
    · assumption
    · simp
  · simp
theorem decAns_ok {l : List UInt8} (h : (decAns l).2 = 0) : l.length ≤ 1024 ∧ dec l = some (decAns l).1 := by
  unfold decAns at h ⊢
  split at h
  · simp at h
  · rename_i hl
    rw [if_neg hl]
    cases hd : dec l with
    | none => rw [hd] at h; simp at h
    | some ps => exact ⟨by omega, rfl⟩
theorem decAns_err (l : List UInt8) : (decAns l).2 = 0 ∨ (((decAns l).2 == 0) = false ∧ (decAns l).1 = []) := by
  unfold decAns
  split
  · exact .inr ⟨rfl, rfl⟩
  · cases dec l with
    | none => exact .inr ⟨rfl, rfl⟩
    | some ps => exact .inl rfl
theorem decAns_enc {ps : List Pt} (hv : ps.all vldB = true) (hl : (enc false ps).length ≤ 1024) (hn : ∀ p ∈ ps, p.wf) : decAns (enc false ps) = (ps, 0) := by
  unfold decAns
  rw [if_neg (by omega), dec_enc ps hv (fun p hp => (hn p hp).2.1)]

theorem enc_length_le (ps : List Pt) : ps.length ≤ (enc false ps).length := by
  induction ps with
  | nil => simp
  | cons p ps ih =>
    rw [enc_false_cons, List.length_append, List.length_cons]
    have : 0 < (piece p false).length := by
      unfold piece
      split
      · simp
      · split <;> simp
    omega

set_option maxHeartbeats 1000000 in
theorem back_walk (ao : Option Addr) (cap : Nat) (ps : List Pt) (key : ByteArray) (w : World) (hl : ps.length ≤ 4398046511100) (hp : PartsAt w ao ps) (hk : key.size ≤ 140737488351232) :
    Calls Try.prog 7 #[.slice ao ps.length cap, .string key] w fun e w' => e = .returned (.bool true) ∧ Below w.heap.size w w' := by
  have hwf := hp.wf
  have HW : Hid (∀ p ∈ ps, p.wf) := hwf
  clear hwf
  -- the second half: Decode(key), then Encode of what it gave
  go_enter Try.func7, Try.ntmps7
  go_wp2_with fail
  refine (keysFixed_calls w).mono ?_
  rintro e w1 ⟨rfl, hb1⟩
  have hp1 := hp.below hb1
  go_wp2_with fail
  refine (copied_calls ao cap ps w1 hl hp1).mono ?_
  rintro e w2 ⟨v2, rfl, ho2, hb2⟩
  have hb3 : Below w.heap.size w w2 := hb1.trans (hb2.mono hb1.size)
  obtain ⟨ao2, cap2, hsh⟩ := ho2.shape
  subst hsh
  have hp2 := ho2.parts HW.out
  go_wp2_with fail
  refine (encode_calls ao2 cap2 ps w2 (by omega) hp2).mono ?_
  rintro e w3 ⟨rfl, hb4⟩
  have hb5 : Below w.heap.size w w3 := hb3.trans (hb4.mono hb3.size)
  have hp3 := hp.below hb5
  clear hp hp1 hp2 ho2 hb1 hb2 hb3 hb4
  rcases encAns_err false ps with he | he
  · obtain ⟨hv, hlen, h1⟩ := encAns_ok he
    rw [he, h1]
    have HD : Hid (decAns (enc false ps) = (ps, 0)) := decAns_enc hv hlen HW.out
    have HLN : Hid ((enc false ps).length ≤ 1024) := hlen
    clear he h1 hv hlen
    go_wp2_with fail
    refine (decode_calls ⟨(enc false ps).toArray⟩ w3 (by show (enc false ps).toArray.size ≤ _; have := HLN.out; simp; omega)).mono ?_
    rintro e w4 ⟨v4, rfl, ho4, hb6, hsm⟩
    simp only [HD.out] at ho4 hsm ⊢
    have hb7 : Below w.heap.size w w4 := hb5.trans (hb6.mono hb5.size)
    have hp4 := hp3.below hb6
    obtain ⟨ao4, cap4, hsh⟩ := ho4.shape
    subst hsh
    have hp5 := ho4.parts HW.out
    clear hsm
    go_wp2_with fail
    refine (same_calls ao4 ao cap4 cap ps ps w4 (by omega) (by omega) hp5 hp4).mono ?_
    rintro e w5 ⟨rfl, hb8⟩
    have hb9 : Below w.heap.size w w5 := hb7.trans (hb8.mono hb7.size)
    rw [(sameB_iff ps ps).2 rfl]
    clear hb8 hb7 hb6 hp4 hp5 ho4 hp3 hb5
    go_wp2_with fail
    refine (decode_calls key _ hk).mono ?_
    rintro e w7 ⟨v5, rfl, ho5, hb8, hsm⟩
    have hb12 : Below w.heap.size w w7 := hb9.trans (hb8.mono hb9.size)
    rcases decAns_err key.data.toList with hd | ⟨hd, hnil⟩
    · obtain ⟨hkl, hdec⟩ := decAns_ok hd
      obtain ⟨henc, hval⟩ := dec_inv hdec
      rw [hd]
      have HE : Hid (encAns false (decAns key.data.toList).1 = (key.data.toList, 0)) := by
        show _ = _
        rw [encAns_mk hval (by rw [henc]; exact hkl), henc]
      have HS : Hid (∀ p ∈ (decAns key.data.toList).1, p.wf) := fun p hp => (hsm p hp).wf
      have HLL : Hid ((decAns key.data.toList).1.length ≤ 4398046511104) := by
        show _ ≤ _
        have h1 := enc_length_le (decAns key.data.toList).1
        rw [henc] at h1
        omega
      clear hd hkl hdec henc hval hsm
      obtain ⟨ls, hls⟩ : ∃ ls, ls = (decAns key.data.toList).1 := ⟨_, rfl⟩
      rw [← hls] at ho5 HE HS HLL
      clear hls
      obtain ⟨ao5, cap5, hsh⟩ := ho5.shape
      subst hsh
      have hp6 := ho5.parts HS.out
      go_wp2_with fail
      refine (encode_calls ao5 cap5 ls w7 HLL.out hp6).mono ?_
      rintro e w6 ⟨rfl, hb10⟩
      have hb11 : Below w.heap.size w w6 := hb12.trans (hb10.mono hb12.size)
      rw [HE.out, show (⟨key.data.toList.toArray⟩ : ByteArray) = key from bytes_ext (by simp)]
      go_wp2
      all_goals go_light
      all_goals go_ret
      all_goals exact ⟨by simp, hb11⟩
    · rw [hnil] at ho5
      obtain ⟨ao5, cap5, hsh⟩ := ho5.shape
      subst hsh
      have hd2 : ((decAns key.data.toList).2 != 0) = true := by simpa [bne] using hd
      clear hsm hnil hd
      go_wp2
      all_goals go_light
      all_goals go_ret
      all_goals exact ⟨rfl, hb12⟩
  · clear hp3
    go_wp2_with fail
    refine (decode_calls key w3 hk).mono ?_
    rintro e w5 ⟨v5, rfl, ho5, hb8, hsm⟩
    have hb9 : Below w.heap.size w w5 := hb5.trans (hb8.mono hb5.size)
    rcases decAns_err key.data.toList with hd | ⟨hd, hnil⟩
    · obtain ⟨hkl, hdec⟩ := decAns_ok hd
      obtain ⟨henc, hval⟩ := dec_inv hdec
      rw [hd]
      have HE : Hid (encAns false (decAns key.data.toList).1 = (key.data.toList, 0)) := by
        show _ = _
        rw [encAns_mk hval (by rw [henc]; exact hkl), henc]
      have HS : Hid (∀ p ∈ (decAns key.data.toList).1, p.wf) := fun p hp => (hsm p hp).wf
      have HLL : Hid ((decAns key.data.toList).1.length ≤ 4398046511104) := by
        show _ ≤ _
        have h1 := enc_length_le (decAns key.data.toList).1
        rw [henc] at h1
        omega
      clear hd hkl hdec henc hval hsm
      obtain ⟨ls, hls⟩ : ∃ ls, ls = (decAns key.data.toList).1 := ⟨_, rfl⟩
      rw [← hls] at ho5 HE HS HLL
      clear hls
      obtain ⟨ao5, cap5, hsh⟩ := ho5.shape
      subst hsh
      have hp6 := ho5.parts HS.out
      go_wp2_with fail
      refine (encode_calls ao5 cap5 ls w5 HLL.out hp6).mono ?_
      rintro e w6 ⟨rfl, hb10⟩
      have hb11 : Below w.heap.size w w6 := hb9.trans (hb10.mono hb9.size)
      rw [HE.out, show (⟨key.data.toList.toArray⟩ : ByteArray) = key from bytes_ext (by simp)]
      go_wp2
      all_goals go_light
      all_goals go_ret
      all_goals exact ⟨by simp, hb11⟩
    · rw [hnil] at ho5
      obtain ⟨ao5, cap5, hsh⟩ := ho5.shape
      subst hsh
      have hd2 : ((decAns key.data.toList).2 != 0) = true := by simpa [bne] using hd
      clear hsm hnil hd
      go_wp2
      all_goals go_light
      all_goals go_ret
      all_goals exact ⟨rfl, hb9⟩
end Go.Proofs.Ytehbclliiphglaa
