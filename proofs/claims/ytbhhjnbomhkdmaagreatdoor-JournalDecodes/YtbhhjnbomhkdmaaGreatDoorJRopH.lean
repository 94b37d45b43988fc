import Derived.Test.YtbhhjnbomhkdmaaGreatDoorJPayW
import Derived.Test.YtbhhjnbomhkdmaaGreatDoorJPayOf
import Derived.Lib.SlBytesConst
import Derived.BigQuiet
import Derived.Deep.QuietTactic
import Derived.Test.YtbhhjnbomhkdmaaGreatDoorRcCopyS
import Derived.Test.YtbhhjnbomhkdmaaGreatDoorJPay
import Derived.Test.YtbhhjnbomhkdmaaGreatDoorJReadP
/- Layer 13 (journal): Encode. -/
namespace Go.Proofs.YtbhhjnbomhkdmaaGreatDoor
open Go.RowKit
set_option linter.unusedVariables false

/-- What Encode answers: the bytes, and the error. -/
def encB (i : Int) (os : List Opp) : List UInt8 := if soundB os then frameB (payB i os) else []
def encE (os : List Opp) : Int := if soundB os then 0 else 130

set_option maxRecDepth 100000 in
set_option maxHeartbeats 2000000 in
theorem jencode_calls (i : Int) (ao : Option Addr) (c : Nat) (l : List OV) (w : World) (h0 : 0 ≤ i) (h1 : i ≤ 18446744073709551615) (hv : Vs w) (hl : l.length ≤ 140737488355328) (hok : ∀ x ∈ l, x.ok) (hr : ∀ x ∈ l, x.o.rng) (hat : OpsAt w ao l) :
  Calls Tryz.prog 16 #[.agg (entV i ao l.length c)] w fun e w' => ∃ v', e = .returned (.tuple #[v', .int .i64 (encE (ops l))]) ∧ Own w' w.heap.size v' (encB i (ops l)) ∧ Below w.heap.size w w' := by
 have HC1 : Hid (∀ w', Below w.heap.size w w' → Calls Tryz.prog 31 #[.agg (entV i ao l.length c)] w' fun e w'' => e = .returned (.bool (soundB (ops l))) ∧ Below w'.heap.size w' w'') := fun w' h => isSound_calls i ao c l w' (hv.stay h) hl hok (hat.below h)
 have HC2 : Hid (soundB (ops l) = true → ∀ w', Below w.heap.size w w' → Calls Tryz.prog 32 #[.agg (entV i ao l.length c)] w' fun e w'' => ∃ v', e = .returned v' ∧ Own w'' w'.heap.size v' (payB i (ops l)) ∧ Below w'.heap.size w' w'') := fun hs w' h => writePayload_calls i ao c l w' h0 h1 hs hr (hat.below h)
 clear h0 h1 hv hok hr hat
 obtain ⟨n, Hn⟩ : ∃ x, Hid (x = l.length) := ⟨_, rfl⟩
 rw [← Hn.out] at HC1 HC2 hl ⊢
 clear Hn
 obtain ⟨wx, Hwx⟩ : ∃ x, Hid (x = w.alloc (.cells (entV i ao n c) 27)) := ⟨_, rfl⟩
 have KA : Hid (Blk wx w.heap.size (entV i ao n c) 27) := by rw [Hwx.out]; exact Blk.new _ _ _
 have HB : Hid (Below w.heap.size w wx) := by rw [Hwx.out]; exact below_new w _
 have c0 : wx.cell? ⟨w.heap.size, 0, none⟩ = some (.int .u64 i) := KA.out.cell 0 rfl
 have c1 : wx.cell? ⟨w.heap.size, 1, none⟩ = some (.slice ao n c) := KA.out.cell 1 rfl
 cases hs : soundB (ops l) with
 | false =>
  have HE : Hid (encE (ops l) = 130 ∧ encB i (ops l) = []) := by unfold encE encB; rw [hs]; exact ⟨rfl, rfl⟩
  rw [hs] at HC1
  clear hs HC2
  go_enter Tryz.func16, Tryz.ntmps16
  go_upto_region 1 with fail
  rw [← Hwx.out]
  clear Hwx
  go_wp2_with fail
  refine (HC1.out wx HB.out).mono ?_
  rintro e w1 ⟨rfl, hb1⟩
  have HB1 : Hid (Below w.heap.size w w1) := HB.out.trans (hb1.mono HB.out.size)
  clear HC1 hb1 c0 c1
  go_wp2
  go_ret2
  exact ⟨.slice none 0 0, by rw [HE.out.1]; rfl, by rw [HE.out.2]; exact Own.nil _ _, HB1.out⟩
 | true =>
  have HE : Hid (encE (ops l) = 0 ∧ encB i (ops l) = frameB (payB i (ops l))) := by unfold encE encB; rw [hs]; exact ⟨rfl, rfl⟩
  have HPL : Hid ((payB i (ops l)).length ≤ 78793) := payB_le hs
  have HPos : Hid (9 ≤ (payB i (ops l)).length) := by show _ ≤ _; simp only [payB, List.length_append, big_length, List.length_cons, List.length_nil]; omega
  have HC3 : Hid (∀ w', Below w.heap.size w w' → Calls Tryz.prog 32 #[.agg (entV i ao n c)] w' fun e w'' => ∃ v', e = .returned v' ∧ Own w'' w'.heap.size v' (payB i (ops l)) ∧ Below w'.heap.size w' w'') := HC2.out hs
  rw [hs] at HC1
  clear hs HC2
  obtain ⟨p, Hp⟩ : ∃ x, Hid (x = payB i (ops l)) := ⟨_, rfl⟩
  rw [← Hp.out] at HC3 HPL HPos HE
  clear Hp
  go_enter Tryz.func16, Tryz.ntmps16
  go_upto_region 1 with fail
  rw [← Hwx.out]
  clear Hwx
  go_wp2_with fail
  refine (HC1.out wx HB.out).mono ?_
  rintro e w1 ⟨rfl, hb1⟩
  have HB1 : Hid (Below w.heap.size w w1) := HB.out.trans (hb1.mono HB.out.size)
  have KA1 := KA.out.below hb1
  clear c0 c1
  have c0 : w1.cell? ⟨w.heap.size, 0, none⟩ = some (.int .u64 i) := KA1.cell 0 rfl
  have c1 : w1.cell? ⟨w.heap.size, 1, none⟩ = some (.slice ao n c) := KA1.cell 1 rfl
  clear HC1 hb1 KA KA1 HB
  go_wp2_with fail
  refine (HC3.out w1 HB1.out).mono ?_
  rintro e w2 ⟨v2, rfl, ho2, hb2⟩
  have HB2 : Hid (Below w.heap.size w w2) := HB1.out.trans (hb2.mono HB1.out.size)
  have HO2 : Hid (Own w2 w.heap.size v2 p) := ho2.mono HB1.out.size
  obtain ⟨a2, cap2, rfl⟩ := ho2.shape
  have hpl := HPL.out
  clear HC3 hb2 ho2 c0 c1 HB1
  obtain ⟨pl, Hpl⟩ : ∃ x, Hid (x = p.length) := ⟨_, rfl⟩
  rw [← Hpl.out] at hpl ⊢
  obtain ⟨i0, hi, hz0, hz1, hz2⟩ := info_parts info_u8
  obtain ⟨w3, hmk, ho3, hg3⟩ := run_make_own (P := Tryz.prog) w2 w2.heap.size 22 5 i0 (.int .u8 0) 1 Tryz.underlying22 hi hz0 hz1 .i64 .i64 (pl + 9) (by rw [hz2]; omega) (by unfold maxLen; omega) (Nat.le_refl _)
  have hmake : (Instr.makeSlice 22 (.int .i64 0) (.int .i64 (5 + (pl : Int) + 4))).run Tryz.prog w2 = .ok (.slice (some ⟨w2.heap.size, 0, none⟩) 0 (pl + 9)) w3 := by
   rw [show (5 + (pl : Int) + 4) = ((pl + 9 : Nat) : Int) by omega]
   exact hmk
  have HO3 : Hid (Own w3 w2.heap.size (.slice (some ⟨w2.heap.size, 0, none⟩) 0 (pl + 9)) []) := ho3
  have HB3 : Hid (Below w2.heap.size w2 w3) := ⟨hg3.os, hg3.tape, hg3.output, hg3.size, fun k hk => hg3.block k hk (by simp)⟩
  clear hmk ho3 hg3 hi hz0 hz1 hz2
  have HB3s := HB3.out.size
  go_wp2_with (at_builtin; refine append_bytes _ rfl (.tmp 16) (.tmp 17) rfl w2.heap.size _ _ rfl (HO3.out.alloc _) ⟨w3.heap.size, 0, none⟩ 1 1 [77] rfl rfl (cells_new _ _ _) (by simp) (by simp; omega) ?_)
  intro v4 w4 ho4 hg4'
  have hg4 := hg4'.ofAlloc
  have HB4 : Hid (Below w2.heap.size w2 w4) := HB3.out.trans (HO3.out.toBelow HB3s hg4)
  clear hg4 hg4' hmake HO3 HB3 HB3s
  have HB4s := HB4.out.size
  go_wp2_with fail
  refine (writeNumber_calls w2.heap.size v4 [77] (pl : Int) 4 w4 ho4 HB4s (by simp) (by omega) (by omega) (by omega)).mono ?_
  rintro e w5 ⟨v5, rfl, ho5, hg5⟩
  have HB5 : Hid (Below w2.heap.size w2 w5) := HB4.out.trans (ho4.toBelow HB4s hg5)
  have hl5 : ([77] ++ big 4 (pl : Int)).length = 5 := by simp [big_length]
  obtain ⟨l5, Hl5⟩ : ∃ x : List UInt8, Hid (x = [77] ++ big 4 (pl : Int)) := ⟨[77] ++ big 4 (pl : Int), rfl⟩
  rw [← Hl5.out] at ho5 hl5
  clear hg5 ho4 HB4 HB4s
  have HB5s := HB5.out.size
  have hpne : bs p ≠ [] := fun e => by have := bs_length p; rw [e] at this; have h9 := HPos.out; simp at this; omega
  obtain ⟨b, off, rfl, hcs⟩ := (HO2.out.below HB5.out).bytes hpne
  have HCS : Hid (∀ j u, (bs p)[j]? = some u → w5.cell? ((⟨b, off, none⟩ : Addr).add j) = some u) := fun j u hj => by rw [Addr.add_mid]; exact hcs j u hj
  clear hcs hpne
  have hpl2 : p.length = pl := Hpl.out.symm
  have HPE : Hid (p.length = pl) := hpl2
  clear hpl2
  go_wp2_with (at_builtin; refine append_bytes _ rfl (.tmp 24) (.tmp 25) rfl w2.heap.size _ _ rfl ho5 ⟨b, off, none⟩ pl cap2 p rfl HPE.out HCS.out (by omega) HB5s ?_)
  intro v6 w6 ho6 hg6
  have HB6 : Hid (Below w2.heap.size w2 w6) := HB5.out.trans (ho5.toBelow HB5s hg6)
  have hl6 : (l5 ++ p).length = 5 + pl := by have := HPE.out; simp only [List.length_append]; omega
  obtain ⟨l6, Hl6⟩ : ∃ x, Hid (x = l5 ++ p) := ⟨_, rfl⟩
  rw [← Hl6.out] at ho6 hl6
  clear hg6 ho5 HB5 HB5s HCS
  have HB6s := HB6.out.size
  have HSC : Hid (Calls Tryz.prog 17 #[.slice (some ⟨b, off, none⟩) pl cap2] w6 fun e w' => e = .returned (.int .u32 (sumB p)) ∧ w' = w6) := by
   have := sum_calls (some ⟨b, off, none⟩) cap2 p w6 (by have := HPE.out; omega) ((HO2.out.below HB6.out).bytes)
   rw [HPE.out] at this
   exact this
  go_wp2_with fail
  refine HSC.out.mono ?_
  rintro e w7 ⟨rfl, rfl⟩
  have hsl := sumB_lt p
  obtain ⟨sm, Hsm⟩ : ∃ x, Hid (x = sumB p) := ⟨_, rfl⟩
  rw [← Hsm.out] at hsl ⊢
  clear HSC
  go_wp2_with fail
  refine (writeNumber_calls w2.heap.size v6 l6 (sm : Int) 4 w7 ho6 HB6s (by omega) (by omega) (by omega) (by omega)).mono ?_
  rintro e w8 ⟨v8, rfl, ho8, hg8⟩
  have HB8 : Hid (Below w2.heap.size w2 w8) := HB6.out.trans (ho6.toBelow HB6s hg8)
  have HF : Hid (Own w8 w.heap.size v8 (encB i (ops l))) := by
   show Own _ _ _ _
   rw [HE.out.2]
   unfold frameB
   rw [HPE.out, ← Hsm.out, ← Hl5.out, ← Hl6.out]
   exact ho8.mono HB2.out.size
  have HBF : Hid (Below w.heap.size w w8) := HB2.out.trans (HB8.out.mono HB2.out.size)
  clear hg8 ho8 ho6 HB6 HB8
  go_wp2
  go_ret2
  exact ⟨v8, by rw [HE.out.1]; rfl, HF.out, HBF.out⟩
end Go.Proofs.YtbhhjnbomhkdmaaGreatDoor

/- Layer 13 (journal): the law's example. -/
namespace Go.Proofs.YtbhhjnbomhkdmaaGreatDoor
open Go.RowKit
set_option linter.unusedVariables false

def fixO : OV := ⟨⟨4, ⟨⟨#[97]⟩, ⟨#[]⟩, 0, 0⟩, svcZ, chkZ, false, 0⟩, none, 0⟩
def fixB : List UInt8 := [77, 0, 0, 0, 13, 0, 0, 0, 0, 0, 0, 0, 2, 1, 4, 0, 1, 97, 211, 16, 57, 225]
theorem fix_enc : encB 2 (ops [fixO]) = fixB := by kernel_rfl
theorem fix_err : encE (ops [fixO]) = 0 := by kernel_rfl
theorem fix_sum : sumB [49, 50, 51, 52, 53, 54, 55, 56, 57] = 3421780262 := by kernel_rfl
theorem fix_small : fixO.o.small := ⟨by decide, by decide, ⟨by decide, by decide, by decide, by decide, fun x hx => by cases hx⟩, ⟨by decide, by decide, by decide, by decide⟩⟩
theorem fix_ok : ∀ x ∈ [fixO], x.ok := fun x hx => by simp at hx; subst hx; exact ⟨fix_small, by decide⟩
theorem fix_rng : ∀ x ∈ [fixO], x.o.rng := fun x hx => by simp at hx; subst hx; exact ⟨by decide, by decide⟩
theorem fix_at (w : World) : OpsAt (w.alloc (.cells fixO.v 54)) (some ⟨w.heap.size, 0, none⟩) [fixO] := by
 constructor
 ·intro _
  refine ⟨w.heap.size, 0, rfl, fun j u hj => ?_⟩
  rw [Nat.zero_add, World.cell?_alloc_mark]
  have e : ocs [fixO] = fixO.v.toList := by simp [ocs]
  rw [e] at hj
  simpa using hj
 ·intro x hx
  simp at hx
  subst hx
  intro h
  exact absurd rfl h

set_option maxRecDepth 100000 in
set_option maxHeartbeats 2000000 in
theorem journalFixed_calls (w : World) (hv : Vs w) :
  Calls Tryz.prog 5 #[] w fun e w' => e = .returned (.bool true) ∧ Below w.heap.size w w' := by
 obtain ⟨wx, Hwx⟩ : ∃ x, Hid (x = w.alloc (.cells fixO.v 54)) := ⟨_, rfl⟩
 have HB : Hid (Below w.heap.size w wx) := by rw [Hwx.out]; exact below_new w _
 have HC : Hid (Calls Tryz.prog 16 #[.agg (entV 2 (some ⟨w.heap.size, 0, none⟩) 1 1)] wx fun e w' => ∃ v', e = .returned (.tuple #[v', .int .i64 0]) ∧ Own w' wx.heap.size v' fixB ∧ Below wx.heap.size wx w') := by
  have := jencode_calls 2 (some ⟨w.heap.size, 0, none⟩) 1 [fixO] wx (by decide) (by decide) (hv.stay HB.out) (by decide) fix_ok fix_rng (by rw [Hwx.out]; exact fix_at w)
  rw [fix_enc, fix_err] at this
  exact this
 go_enter Tryz.func5, Tryz.ntmps5
 go_wp2_with fail
 have HC' := HC.out
 rw [Hwx.out] at HC'
 refine HC'.mono ?_
 rw [← Hwx.out]
 rintro e w1 ⟨v1, rfl, ho, hb⟩
 have HB1 : Hid (Below w.heap.size w w1) := HB.out.trans (hb.mono HB.out.size)
 obtain ⟨ao, cap, rfl, hg⟩ := row_forms ho
 obtain ⟨g, rfl⟩ := hg (by decide)
 have HO : Hid (Own w1 wx.heap.size (.slice (some ⟨g, 0, none⟩) 22 cap) fixB) := ho
 clear ho hb hg HC HC' HB Hwx
 rw [show fixB.length = 22 from rfl]
 have c0 : w1.cell? ⟨g, 0, none⟩ = some (.int .u8 77) := (HO.out.at rfl 0 (by decide)).1
 have c4 : w1.cell? ⟨g, 4, none⟩ = some (.int .u8 13) := (HO.out.at rfl 4 (by decide)).1
 have c12 : w1.cell? ⟨g, 12, none⟩ = some (.int .u8 2) := (HO.out.at rfl 12 (by decide)).1
 have c13 : w1.cell? ⟨g, 13, none⟩ = some (.int .u8 1) := (HO.out.at rfl 13 (by decide)).1
 have c14 : w1.cell? ⟨g, 14, none⟩ = some (.int .u8 4) := (HO.out.at rfl 14 (by decide)).1
 have c17 : w1.cell? ⟨g, 17, none⟩ = some (.int .u8 97) := (HO.out.at rfl 17 (by decide)).1
 obtain ⟨w2, Hw2⟩ : ∃ x, Hid (x = w1.alloc (.cells #[.int .u8 49, .int .u8 50, .int .u8 51, .int .u8 52, .int .u8 53, .int .u8 54, .int .u8 55, .int .u8 56, .int .u8 57] 5 (9, 10))) := ⟨_, rfl⟩
 have hcv : (convert 22 22 (.slice (some ⟨w1.heap.size, 0, none⟩) 9 9)).run Tryz.prog (w1.alloc (.cells #[.int .u8 49, .int .u8 50, .int .u8 51, .int .u8 52, .int .u8 53, .int .u8 54, .int .u8 55, .int .u8 56, .int .u8 57] 5)) = .ok (.slice (some ⟨w1.heap.size, 0, none⟩) 9 9) w2 := by rw [Hw2.out]; exact Lib.run_convert_bytes_const (P := Tryz.prog) w1 22 5 _ 9 9 Tryz.underlying22 Tryz.underlying5
 have HB2 : Hid (Below w.heap.size w w2) := by rw [Hw2.out]; exact HB1.out.alloc HB1.out.size _
 have HSM : Hid (Calls Tryz.prog 17 #[.slice (some ⟨w1.heap.size, 0, none⟩) 9 9] w2 fun e w' => e = .returned (.int .u32 3421780262) ∧ w' = w2) := by
  have := sum_calls (some ⟨w1.heap.size, 0, none⟩) 9 [49, 50, 51, 52, 53, 54, 55, 56, 57] w2 (by decide) (by
   intro _
   refine ⟨w1.heap.size, 0, rfl, fun j u hj => ?_⟩
   rw [Hw2.out, Nat.zero_add, World.cell?_alloc_mark]
   simpa [bs] using hj)
  rw [fix_sum] at this
  exact this
 go_wp2_with fail
 refine HSM.out.mono ?_
 rintro e w3 ⟨rfl, rfl⟩
 clear hcv HSM Hw2
 go_wp2
 go_ret
 exact ⟨rfl, HB2.out⟩
end Go.Proofs.YtbhhjnbomhkdmaaGreatDoor

/- Layer 13 (journal): the document's Sum. -/
namespace Go.Proofs.YtbhhjnbomhkdmaaGreatDoor
open Go.RowKit
set_option linter.unusedVariables false

theorem xor_half {s c : Nat} (hs : s < 4294967296) : (if s % 2 ≠ c % 2 then (s / 2) ^^^ 3988292384 else s / 2) < 4294967296 := by
 split
 ·have := Nat.xor_lt_two_pow (n := 32) (x := s / 2) (y := 3988292384) (by omega) (by omega)
  omega
 ·omega

set_option maxRecDepth 100000 in
set_option maxHeartbeats 1000000 in
theorem refSum_calls (ao : Option Addr) (cap : Nat) (l : List UInt8) (w : World) (hl : l.length ≤ 140737488355328) (h : BAt w ao l) :
  Calls Tryz.prog 20 #[.slice ao l.length cap] w fun e w' => e = .returned (.int .u32 (sumB l)) ∧ w' = w := by
 go_enter Tryz.func20, Tryz.ntmps20
 go_wp2
 go_loopw [3, 10] (fun s i wr => ∃ k : Nat, k ≤ l.length ∧ i = .int .i64 k ∧ s = .int .u32 (crcs 4294967295 (l.take k) : Nat) ∧ wr = w) (fun _ i _ => l.length - (intOf i).toNat)
 case atStart => exact ⟨0, Nat.zero_le _, rfl, by simp [crcs], rfl⟩
 case round =>
  obtain ⟨k, hk, rfl, rfl, rfl⟩ := hrel
  obtain ⟨t, Ht⟩ : ∃ t, Hid (t = crcs 4294967295 (l.take k)) := ⟨_, rfl⟩
  have ht : t < 4294967296 := by rw [Ht.out]; exact crcs_lt _ (by omega)
  rw [← Ht.out]
  by_cases hlt : k < l.length
  ·obtain ⟨b, off, rfl, hc⟩ := h.at k hlt
   obtain ⟨c, Hc⟩ : ∃ c, Hid (c = l[k]'hlt) := ⟨_, rfl⟩
   rw [← Hc.out] at hc
   have hcl := byte_le c
   have HN : Hid (crcs 4294967295 (l.take (k + 1)) = crcByte t c) := by
    show _ = _
    rw [list_take_snoc l k hlt, crcs_snoc, ← Ht.out, ← Hc.out]
   clear Ht Hc
   go_wp2
   clear hc
   go_loopw [3, 5, 6] (fun s cc j wr' => ∃ (m y d : Nat), m ≤ 8 ∧ j = .int .i64 m ∧ s = .int .u32 (y : Nat) ∧ cc = .int .u8 (d : Nat) ∧ y < 4294967296 ∧ d * 2 ^ m ≤ 255 ∧ Hid (y ^^^ d = crcN m (t ^^^ c.toNat)) ∧ wr' = wr) (fun _ _ j _ => 8 - (intOf j).toNat)
   case atStart => exact ⟨0, t, c.toNat, Nat.zero_le _, rfl, rfl, rfl, ht, by have := c.toNat_lt; omega, rfl, rfl⟩
   case round =>
    obtain ⟨m, y, d, hm, rfl, rfl, rfl, hy, hd, Hy, rfl⟩ := hrel
    have hd2 : d ≤ 255 := Nat.le_trans (Nat.le_mul_of_pos_right d (Nat.two_pow_pos m)) hd
    by_cases hm8 : m < 8
    ·have HD : Hid (d / 2 * 2 ^ (m + 1) ≤ 255) := by
      have h1 : d / 2 * 2 ^ (m + 1) ≤ d * 2 ^ m := by
       rw [Nat.pow_succ, Nat.mul_comm (2 ^ m), ← Nat.mul_assoc]
       exact Nat.mul_le_mul_right _ (by omega)
      exact Nat.le_trans h1 hd
     have HC : Hid ((if y % 2 ≠ d % 2 then (y / 2) ^^^ 3988292384 else y / 2) ^^^ (d / 2) = crcN (m + 1) (t ^^^ c.toNat)) := by
      show _ = _
      rw [crc_ref, Hy.out]
      rfl
     have HL : Hid ((if y % 2 ≠ d % 2 then (y / 2) ^^^ 3988292384 else y / 2) < 4294967296) := xor_half hy
     have hx := u32_xor_nat (y / 2) 3988292384 (by omega) (by omega)
     clear hd
     by_cases hb : y % 2 = d % 2
     ·simp only [hb, ne_eq, not_true_eq_false, if_false] at HC HL
      have hq : (((y : Int) % 2) != ((d : Int) % 2)) = false := by simp; omega
      go_wp2
      go_roundw
      case rel => exact ⟨m + 1, y / 2, d / 2, by omega, by go_num, by congr 1, by congr 1, HL.out, HD.out, HC, by trivial⟩
      case measure => simp [intOf]; omega
     ·simp only [hb, ne_eq, not_false_eq_true, if_true] at HC HL
      have hq : (((y : Int) % 2) != ((d : Int) % 2)) = true := by simp; omega
      have HX : Hid (bits .xor .u32 ((y : Int) / 2) 3988292384 = ((y / 2 ^^^ 3988292384 : Nat) : Int)) := hx
      clear hx
      go_wp2
      go_roundw
      case rel => exact ⟨m + 1, _, d / 2, by omega, by go_num, congrArg (Value.int .u32) HX.out, by congr 1, HL.out, HD.out, HC, by trivial⟩
      case measure => simp [intOf]; omega
    ·obtain rfl : m = 8 := by omega
     have HE : Hid (y = crcByte t c) := by
      show _ = _
      obtain rfl : d = 0 := by omega
      have := Hy.out
      rw [Nat.xor_zero] at this
      exact this
     go_wp2
     go_roundw
     case rel => exact ⟨k + 1, by omega, by go_num, by rw [HN.out, HE.out], by trivial⟩
     case measure => simp [intOf]; omega
  ·have HE : Hid (t = crcs 4294967295 l) := by show _ = _; rw [Ht.out, List.take_of_length_le (by omega)]
   go_wp2
   go_ret
   refine ⟨?_, rfl⟩
   show Ending.returned (.int .u32 (4294967295 - (t : Int))) = _
   have h2 : (4294967295 - (t : Int)) = ((sumB l : Nat) : Int) := by
    unfold sumB
    rw [← HE.out]
    omega
   rw [h2]
end Go.Proofs.YtbhhjnbomhkdmaaGreatDoor

/- Layer 13 (journal): the document's Same. -/
namespace Go.Proofs.YtbhhjnbomhkdmaaGreatDoor
open Go.RowKit
set_option linter.unusedVariables false

theorem same_no {l m : List UInt8} {k : Nat} (h1 : k < l.length) (h2 : k < m.length) (h : l[k] ≠ m[k]) : decide (l = m) = false := by
 rw [decide_eq_false_iff_not]
 intro e
 subst e
 exact h rfl
theorem same_yes {l m : List UInt8} (hl : l.length = m.length) (h : ∀ i (h1 : i < l.length) (h2 : i < m.length), l[i] = m[i]) : l = m := List.ext_getElem hl fun i h1 h2 => h i h1 h2

set_option maxRecDepth 100000 in
set_option maxHeartbeats 1000000 in
theorem same_calls (ao bo : Option Addr) (ca cb : Nat) (l m : List UInt8) (w : World) (hl : l.length ≤ 140737488355328) (hm : m.length ≤ 140737488355328) (ha : BAt w ao l) (hb : BAt w bo m) :
  Calls Tryz.prog 9 #[.slice ao l.length ca, .slice bo m.length cb] w fun e w' => e = .returned (.bool (decide (l = m))) ∧ ∃ n, w' = w.drewN n := by
 obtain ⟨R, HR⟩ : ∃ R, Hid (R = decide (l = m)) := ⟨_, rfl⟩
 rw [← HR.out]
 by_cases hlen : l.length = m.length
 ·have hq : ((l.length : Int) != (m.length : Int)) = false := by simp; omega
  obtain ⟨n, Hn⟩ : ∃ n, Hid (n = m.length) := ⟨_, rfl⟩
  rw [← Hn.out] at hlen hm hq ⊢
  obtain ⟨n', Hn'⟩ : ∃ n', Hid (n' = l.length) := ⟨_, rfl⟩
  rw [← Hn'.out] at hlen hl hq ⊢
  subst hlen
  go_enter Tryz.func9, Tryz.ntmps9
  go_wp2
  go_loopw [13] (fun i wr => ∃ k : Nat, k ≤ n' ∧ i = .int .i64 k ∧ Hid (∀ j (h1 : j < l.length) (h2 : j < m.length), j < k → l[j] = m[j]) ∧ ∃ q, wr = w.drewN q) (fun i _ => n' - (intOf i).toNat)
  case atStart => exact ⟨0, Nat.zero_le _, rfl, fun _ _ _ h => absurd h (Nat.not_lt_zero _), 0, rfl⟩
  case round =>
   obtain ⟨k, hk, rfl, HS, hdq⟩ := hrel
   have HQ : Hid (∃ q, wr = w.drewN q) := hdq
   have hbw : Below w.heap.size w wr := by obtain ⟨q, rfl⟩ := hdq; exact below_draws w q
   have HQ2 : Hid (∀ n, ∃ q, wr.drewN n = w.drewN q) := by intro n; obtain ⟨q, rfl⟩ := hdq; exact ⟨_, World.drewN_drewN _ _ _⟩
   clear hdq
   by_cases hlt : k < n'
   ·have k1 : k < l.length := by rw [← Hn'.out]; exact hlt
    have k2 : k < m.length := by rw [← Hn.out]; exact hlt
    obtain ⟨b, off, rfl, hc⟩ := (ha.below hbw).at k k1
    obtain ⟨b2, off2, rfl, hc2⟩ := (hb.below hbw).at k k2
    obtain ⟨c, Hc⟩ : ∃ c, Hid (c = l[k]'k1) := ⟨_, rfl⟩
    obtain ⟨d, Hd⟩ : ∃ d, Hid (d = m[k]'k2) := ⟨_, rfl⟩
    rw [← Hc.out] at hc
    rw [← Hd.out] at hc2
    by_cases he : c = d
    ·have HS2 : Hid (∀ j (h1 : j < l.length) (h2 : j < m.length), j < k + 1 → l[j] = m[j]) := by
      intro j h1 h2 h3
      by_cases hj : j = k
      ·subst hj
       have := Hc.out.symm.trans (he.trans Hd.out)
       exact this
      ·exact HS.out j h1 h2 (by omega)
     clear Hc Hd HS k1 k2
     subst he
     have hqq : ((c.toNat : Int) != (c.toNat : Int)) = false := by simp
     go_wp2_with fail
     go_quiet (fail)
     go_wp2
     go_roundw
     case rel => exact ⟨k + 1, by omega, by go_num, HS2, HQ2.out _⟩
     case measure => simp [intOf]; omega
    ·have HF : Hid (R = false) := by
      show _ = _
      rw [HR.out]
      exact same_no k1 k2 (by rw [← Hc.out, ← Hd.out]; exact he)
     have hqq : ((c.toNat : Int) != (d.toNat : Int)) = true := by
      simp
      intro e
      exact he (UInt8.toNat_inj.1 (by omega))
     clear Hc Hd HS k1 k2
     go_wp2_with fail
     go_quiet (fail)
     go_wp2
     go_ret
     exact ⟨by rw [HF.out]; rfl, HQ2.out _⟩
   ·have HT : Hid (R = true) := by
     show _ = _
     rw [HR.out, decide_eq_true_eq]
     exact same_yes (by rw [← Hn.out, ← Hn'.out]) fun j h1 h2 => HS.out j h1 h2 (by rw [← Hn'.out] at h1; omega)
    go_wp2
    go_ret
    exact ⟨by rw [HT.out]; rfl, HQ.out⟩
 ·have HF : Hid (R = false) := by
   show _ = _
   rw [HR.out, decide_eq_false_iff_not]
   intro e
   subst e
   exact hlen rfl
  have hq : ((l.length : Int) != (m.length : Int)) = true := by simp; omega
  obtain ⟨n, Hn⟩ : ∃ n, Hid (n = m.length) := ⟨_, rfl⟩
  obtain ⟨n', Hn'⟩ : ∃ n', Hid (n' = l.length) := ⟨_, rfl⟩
  rw [← Hn.out] at hq ⊢
  rw [← Hn'.out] at hq ⊢
  clear hlen
  go_enter Tryz.func9, Tryz.ntmps9
  go_wp2
  go_ret
  exact ⟨by rw [HF.out]; rfl, 0, rfl⟩
end Go.Proofs.YtbhhjnbomhkdmaaGreatDoor

/- Layer 13 (journal): JournalSums, the walk. -/
namespace Go.Proofs.YtbhhjnbomhkdmaaGreatDoor
open Go.RowKit
set_option linter.unusedVariables false

theorem empty_own (w : World) : (w.alloc (.cells #[] 5)).ownsRow w.heap.size 5 1 (.slice (some ⟨w.heap.size, 0, none⟩) 0 0) 0 [] := World.ownsRow_lit (size := 1) w #[] 0 (Nat.le_refl _) (by unfold maxLen; omega) rfl
end Go.Proofs.YtbhhjnbomhkdmaaGreatDoor

/- Layer 13 (journal): the document's texts. -/
namespace Go.Proofs.YtbhhjnbomhkdmaaGreatDoor
open Go.RowKit
set_option linter.unusedVariables false

set_option maxRecDepth 100000 in
set_option maxHeartbeats 1000000 in
theorem rtexts_calls (ta : Option Addr) (tc : Nat) (ts : List ByteArray) (w : World) (hn : ts.length ≤ 1024) (ht : ∀ x ∈ ts, x.size ≤ 1048576) (hap : CellsAt w ta (ts.map Value.string)) :
  Calls Tryz.prog 72 #[.slice ta ts.length tc] w fun e w' => ∃ v', e = .returned v' ∧ Own w' w.heap.size v' (txtsB ts) ∧ Below w.heap.size w w' := by
 have HE : Hid (Own (w.alloc (.cells #[] 5)) w.heap.size (.slice (some ⟨w.heap.size, 0, none⟩) 0 0) []) := empty_own w
 have HB0 : Hid (Below w.heap.size w (w.alloc (.cells #[] 5))) := below_new w _
 go_enter Tryz.func72, Tryz.ntmps72
 go_wp2
 go_loopw [3, 9] (fun x i wr => ∃ k : Nat, k ≤ ts.length ∧ i = .int .i64 k ∧ Own wr w.heap.size x (txtsB (ts.take k)) ∧ Below w.heap.size w wr) (fun _ i _ => ts.length - (intOf i).toNat)
 case atStart => exact ⟨0, Nat.zero_le _, rfl, by simpa [txtsB] using HE.out, HB0.out⟩
 case round =>
  obtain ⟨k, hk, rfl, ho, hg⟩ := hrel
  have hsz := hg.size
  by_cases hlt : k < ts.length
  ·have hle : (txtsB (ts.take k)).length ≤ 1073742848 := by
    have := txtsB_take_le ts k 1048576 ht
    have h9 : k * 1048577 ≤ 1024 * 1048577 := Nat.mul_le_mul_right _ (by omega)
    omega
   obtain ⟨s, Hs⟩ : ∃ s, Hid (s = ts[k]'hlt) := ⟨_, rfl⟩
   have hss : s.size ≤ 1048576 := by rw [Hs.out]; exact ht _ (List.getElem_mem hlt)
   obtain ⟨b, off, rfl, hcell⟩ := (hap.below hg).str k hlt
   rw [← Hs.out] at hcell
   have HT : Hid (txtsB (ts.take (k + 1)) = txtsB (ts.take k) ++ [byteOf s.size] ++ s.data.toList) := by
    show _ = _
    rw [list_take_snoc ts k hlt, txtsB_snoc, ← Hs.out]
    simp [txtB]
   have HN : Hid (bs [byteOf s.size] = [.int .u8 ((s.size : Int) % 256)]) := by simp [bs, byteOf_val, Hid]
   clear Hs
   obtain ⟨p, Hp⟩ : ∃ p, Hid (p = txtsB (ts.take k)) := ⟨_, rfl⟩
   rw [← Hp.out] at ho hle HT
   clear Hp
   go_wp2_with (at_builtin; refine append_bytes _ rfl (.tmp 13) (.tmp 17) rfl w.heap.size _ _ rfl (ho.alloc _) ⟨wr.heap.size, 0, none⟩ 1 1 [byteOf s.size] rfl rfl (by intro j u hj; rw [HN.out] at hj; exact cells_new _ _ _ j u hj) (by omega) (by simp; omega) ?_)
   intro v1 w1 ho1 hg1
   have hg2 : Below w.heap.size w w1 := hg.trans (hg1.ofAlloc.toBelow hsz fun q hq => (ho.lt q hq).1)
   have hsz2 := hg2.size
   clear ho hg hg1 hcell
   have hle1 : (p ++ [byteOf s.size]).length ≤ 1073742849 := by simp only [List.length_append, List.length_cons, List.length_nil]; omega
   obtain ⟨p1, Hp1⟩ : ∃ p1, Hid (p1 = p ++ [byteOf s.size]) := ⟨_, rfl⟩
   rw [← Hp1.out] at ho1 hle1 HT
   clear Hp1
   go_wp2_with (at_builtin; refine append_text _ rfl (.tmp 19) (.tmp 20) rfl w.heap.size _ _ rfl ho1 s rfl (by omega) (by omega) ?_)
   intro v2 w2 ho2 hg3
   have hg4 : Below w.heap.size w w2 := hg2.trans (hg3.toBelow hsz2 fun q hq => (ho1.lt q hq).1)
   clear ho1 hg2 hg3
   go_wp2
   go_roundw
   case rel => exact ⟨k + 1, by omega, by go_num, by rw [HT.out]; exact ho2, hg4⟩
   case measure => simp [intOf]; omega
  ·obtain rfl : k = ts.length := by omega
   go_wp2
   go_ret
   exact ⟨_, rfl, by rw [List.take_of_length_le (by omega)] at ho; exact ho, hg⟩
end Go.Proofs.YtbhhjnbomhkdmaaGreatDoor

/- Layer 13 (journal): the document's op: small facts. -/
namespace Go.Proofs.YtbhhjnbomhkdmaaGreatDoor
open Go.RowKit
set_option linter.unusedVariables false

theorem name_it {A : Type} (x : A) : ∃ y, Hid (y = x) := ⟨x, rfl⟩
theorem rtexts_lit (ts : List ByteArray) (g n c : Nat) (cs : Array Value) (W : World) (hg : g = W.heap.size) (hn : ts.length = n) (hcs : cs = (ts.map Value.string).toArray) (hk : n ≤ 1024) (ht : ∀ x ∈ ts, x.size ≤ 1048576) :
  Calls Tryz.prog 72 #[.slice (some ⟨g, 0, none⟩) n c] (W.alloc (.cells cs 9)) fun e w' => ∃ v', e = .returned v' ∧ Own w' W.heap.size v' (txtsB ts) ∧ Below W.heap.size W w' := by
 subst hg hn hcs
 refine (rtexts_calls (some ⟨W.heap.size, 0, none⟩) c ts _ hk ht ?_).mono ?_
 ·intro hne
  refine ⟨W.heap.size, 0, rfl, fun j u hj => ?_⟩
  rw [Nat.zero_add, World.cell?_alloc_mark]
  simpa using hj
 ·rintro e w' ⟨v', rfl, h1, h2⟩
  have hz : W.heap.size ≤ (W.alloc (.cells (ts.map Value.string).toArray 9)).heap.size := by rw [size_new]; omega
  exact ⟨v', rfl, row_weak hz h1, (below_new W _).trans (h2.mono hz)⟩
theorem cells_lit (W : World) (xs : List Value) (t : TypeId) : CellsAt (W.alloc (.cells xs.toArray t)) (some ⟨W.heap.size, 0, none⟩) xs := by
 intro _
 refine ⟨W.heap.size, 0, rfl, fun j u hj => ?_⟩
 rw [Nat.zero_add, World.cell?_alloc_mark]
 simpa using hj
theorem blk_ne {w : World} {b g B : Nat} {e T : TypeId} {size n c : Nat} {xs : List Value} {cs : Array Value} (hb : Blk w b cs T) (h : w.ownsRow B e size (.slice (some ⟨g, 0, none⟩) n c) n xs) (hT : T ≠ e) : b ≠ g := by
 intro e'
 subst e'
 rcases h.2 with ⟨e1, _⟩ | ⟨g', cap, cur, e1, h2, h3, h4⟩
 ·cases e1
 ·simp only [Value.slice.injEq, Option.some.injEq, Addr.mk.injEq] at e1
  obtain ⟨⟨rfl, _⟩, _⟩ := e1
  have := hb.symm.trans h3
  simp only [Option.some.injEq, Obj.cells.injEq] at this
  exact hT this.2.1
end Go.Proofs.YtbhhjnbomhkdmaaGreatDoor
