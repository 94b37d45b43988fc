/- Layer 13 (journal): Encode. -/
import Derived.Test.YtmkohdepgfahnaaGreatDoorJSum
namespace Go.Proofs.YtmkohdepgfahnaaGreatDoor
open Go.RowKit
set_option linter.unusedVariables false

theorem frameB_length (p : List UInt8) : (frameB p).length = p.length + 9 := by simp [frameB, big_length]; omega
/-- What Encode answers: the bytes, and the error. -/
def encB (i : Int) (os : List Opp) : List UInt8 := if soundB os then frameB (payB i os) else []
def encE (os : List Opp) : Int := if soundB os then 0 else 130

set_option maxRecDepth 100000 in
set_option maxHeartbeats 2000000 in
theorem jencode_calls (i : Int) (ao : Option Addr) (c : Nat) (l : List OV) (w : World) (h0 : 0 ≤ i) (h1 : i ≤ 18446744073709551615) (hv : Vs w) (hl : l.length ≤ 140737488355328) (hok : ∀ x ∈ l, x.ok) (hr : ∀ x ∈ l, x.o.rng) (hat : OpsAt w ao l) :
    Calls Tryz.prog 15 #[.agg (entV i ao l.length c)] w fun e w' => ∃ v', e = .returned (.tuple #[v', .int .i64 (encE (ops l))]) ∧ Own w' w.heap.size v' (encB i (ops l)) ∧ Below w.heap.size w w' := by
  have HC1 : Hid (∀ w', Below w.heap.size w w' → Calls Tryz.prog 23 #[.agg (entV i ao l.length c)] w' fun e w'' => e = .returned (.bool (soundB (ops l))) ∧ Below w'.heap.size w' w'') := fun w' h => isSound_calls i ao c l w' (hv.stay h) hl hok (hat.below h)
  have HC2 : Hid (soundB (ops l) = true → ∀ w', Below w.heap.size w w' → Calls Tryz.prog 24 #[.agg (entV i ao l.length c)] w' fun e w'' => ∃ v', e = .returned v' ∧ Own w'' w'.heap.size v' (payB i (ops l)) ∧ Below w'.heap.size w' w'') := fun hs w' h => writePayload_calls i ao c l w' h0 h1 hs hr (hat.below h)
  clear h0 h1 hv hok hr hat
  obtain ⟨n, Hn⟩ : ∃ x, Hid (x = l.length) := ⟨_, rfl⟩
  rw [← Hn.out] at HC1 HC2 hl ⊢
  clear Hn
  obtain ⟨wx, Hwx⟩ : ∃ x, Hid (x = w.alloc (.cells (entV i ao n c) 31)) := ⟨_, rfl⟩
  have KA : Hid (Blk wx w.heap.size (entV i ao n c) 31) := by rw [Hwx.out]; exact Blk.new _ _ _
  have HB : Hid (Below w.heap.size w wx) := by rw [Hwx.out]; exact below_new w _
  have c0 : wx.cell? ⟨w.heap.size, 0, none⟩ = some (.int .u64 i) := KA.out.cell 0 rfl
  have c1 : wx.cell? ⟨w.heap.size, 1, none⟩ = some (.slice ao n c) := KA.out.cell 1 rfl
  cases hs : soundB (ops l) with
  | false =>
    have HE : Hid (encE (ops l) = 130 ∧ encB i (ops l) = []) := by unfold encE encB; rw [hs]; exact ⟨rfl, rfl⟩
    rw [hs] at HC1
    clear hs HC2
    go_enter Tryz.func15, Tryz.ntmps15
    go_upto_region 1 with fail
    rw [← Hwx.out]
    clear Hwx
    go_wp2_with fail
    refine (HC1.out wx HB.out).mono ?_
    rintro e w1 ⟨rfl, hb1⟩
    have HB1 : Hid (Below w.heap.size w w1) := HB.out.trans (hb1.mono HB.out.size)
    clear HC1 hb1 c0 c1
    go_wp2
    go_ret2
    exact ⟨.slice none 0 0, by rw [HE.out.1]; rfl, by rw [HE.out.2]; exact Own.nil _ _, HB1.out⟩
  | true =>
    have HE : Hid (encE (ops l) = 0 ∧ encB i (ops l) = frameB (payB i (ops l))) := by unfold encE encB; rw [hs]; exact ⟨rfl, rfl⟩
    have HPL : Hid ((payB i (ops l)).length ≤ 78793) := payB_le hs
    have HPos : Hid (9 ≤ (payB i (ops l)).length) := by show _ ≤ _; simp only [payB, List.length_append, big_length, List.length_cons, List.length_nil]; omega
    have HC3 : Hid (∀ w', Below w.heap.size w w' → Calls Tryz.prog 24 #[.agg (entV i ao n c)] w' fun e w'' => ∃ v', e = .returned v' ∧ Own w'' w'.heap.size v' (payB i (ops l)) ∧ Below w'.heap.size w' w'') := HC2.out hs
    rw [hs] at HC1
    clear hs HC2
    obtain ⟨p, Hp⟩ : ∃ x, Hid (x = payB i (ops l)) := ⟨_, rfl⟩
    rw [← Hp.out] at HC3 HPL HPos HE
    clear Hp
    go_enter Tryz.func15, Tryz.ntmps15
    go_upto_region 1 with fail
    rw [← Hwx.out]
    clear Hwx
    go_wp2_with fail
    refine (HC1.out wx HB.out).mono ?_
    rintro e w1 ⟨rfl, hb1⟩
    have HB1 : Hid (Below w.heap.size w w1) := HB.out.trans (hb1.mono HB.out.size)
    have KA1 := KA.out.below hb1
    clear c0 c1
    have c0 : w1.cell? ⟨w.heap.size, 0, none⟩ = some (.int .u64 i) := KA1.cell 0 rfl
    have c1 : w1.cell? ⟨w.heap.size, 1, none⟩ = some (.slice ao n c) := KA1.cell 1 rfl
    clear HC1 hb1 KA KA1 HB
    go_wp2_with fail
    refine (HC3.out w1 HB1.out).mono ?_
    rintro e w2 ⟨v2, rfl, ho2, hb2⟩
    have HB2 : Hid (Below w.heap.size w w2) := HB1.out.trans (hb2.mono HB1.out.size)
    have HO2 : Hid (Own w2 w.heap.size v2 p) := ho2.mono HB1.out.size
    obtain ⟨a2, cap2, rfl⟩ := ho2.shape
    have hpl := HPL.out
    clear HC3 hb2 ho2 c0 c1 HB1
    obtain ⟨pl, Hpl⟩ : ∃ x, Hid (x = p.length) := ⟨_, rfl⟩
    rw [← Hpl.out] at hpl ⊢
    obtain ⟨i0, hi, hz0, hz1, hz2⟩ := info_parts info_u8
    obtain ⟨w3, hmk, ho3, hg3⟩ := run_make_own (P := Tryz.prog) w2 w2.heap.size 23 5 i0 (.int .u8 0) 1 Tryz.underlying23 hi hz0 hz1 .i64 .i64 (pl + 9) (by rw [hz2]; omega) (by unfold maxLen; omega) (Nat.le_refl _)
    have hmake : (Instr.makeSlice 23 (.int .i64 0) (.int .i64 (5 + (pl : Int) + 4))).run Tryz.prog w2 = .ok (.slice (some ⟨w2.heap.size, 0, none⟩) 0 (pl + 9)) w3 := by
      rw [show (5 + (pl : Int) + 4) = ((pl + 9 : Nat) : Int) by omega]
      exact hmk
    have HO3 : Hid (Own w3 w2.heap.size (.slice (some ⟨w2.heap.size, 0, none⟩) 0 (pl + 9)) []) := ho3
    have HB3 : Hid (Below w2.heap.size w2 w3) := ⟨hg3.os, hg3.tape, hg3.output, hg3.size, fun k hk => hg3.block k hk (by simp)⟩
    clear hmk ho3 hg3 hi hz0 hz1 hz2
    have HB3s := HB3.out.size
    go_wp2_with (at_builtin; refine append_bytes _ rfl (.tmp 16) (.tmp 17) rfl w2.heap.size _ _ rfl (HO3.out.alloc _) ⟨w3.heap.size, 0, none⟩ 1 1 [77] rfl rfl (cells_new _ _ _) (by simp) (by simp; omega) ?_)
    intro v4 w4 ho4 hg4'
    have hg4 := hg4'.ofAlloc
    have HB4 : Hid (Below w2.heap.size w2 w4) := HB3.out.trans (HO3.out.toBelow HB3s hg4)
    clear hg4 hg4' hmake HO3 HB3 HB3s
    have HB4s := HB4.out.size
    go_wp2_with fail
    refine (writeNumber_calls w2.heap.size v4 [77] (pl : Int) 4 w4 ho4 HB4s (by simp) (by omega) (by omega) (by omega)).mono ?_
    rintro e w5 ⟨v5, rfl, ho5, hg5⟩
    have HB5 : Hid (Below w2.heap.size w2 w5) := HB4.out.trans (ho4.toBelow HB4s hg5)
    have hl5 : ([77] ++ big 4 (pl : Int)).length = 5 := by simp [big_length]
    obtain ⟨l5, Hl5⟩ : ∃ x : List UInt8, Hid (x = [77] ++ big 4 (pl : Int)) := ⟨[77] ++ big 4 (pl : Int), rfl⟩
    rw [← Hl5.out] at ho5 hl5
    clear hg5 ho4 HB4 HB4s
    have HB5s := HB5.out.size
    have hpne : bs p ≠ [] := fun e => by have := bs_length p; rw [e] at this; have h9 := HPos.out; simp at this; omega
    obtain ⟨b, off, rfl, hcs⟩ := (HO2.out.below HB5.out).bytes hpne
    have HCS : Hid (∀ j u, (bs p)[j]? = some u → w5.cell? ((⟨b, off, none⟩ : Addr).add j) = some u) := fun j u hj => by rw [Addr.add_mid]; exact hcs j u hj
    clear hcs hpne
    have hpl2 : p.length = pl := Hpl.out.symm
    have HPE : Hid (p.length = pl) := hpl2
    clear hpl2
    go_wp2_with (at_builtin; refine append_bytes _ rfl (.tmp 24) (.tmp 25) rfl w2.heap.size _ _ rfl ho5 ⟨b, off, none⟩ pl cap2 p rfl HPE.out HCS.out (by omega) HB5s ?_)
    intro v6 w6 ho6 hg6
    have HB6 : Hid (Below w2.heap.size w2 w6) := HB5.out.trans (ho5.toBelow HB5s hg6)
    have hl6 : (l5 ++ p).length = 5 + pl := by have := HPE.out; simp only [List.length_append]; omega
    obtain ⟨l6, Hl6⟩ : ∃ x, Hid (x = l5 ++ p) := ⟨_, rfl⟩
    rw [← Hl6.out] at ho6 hl6
    clear hg6 ho5 HB5 HB5s HCS
    have HB6s := HB6.out.size
    have HSC : Hid (Calls Tryz.prog 10 #[.slice (some ⟨b, off, none⟩) pl cap2] w6 fun e w' => e = .returned (.int .u32 (sumB p)) ∧ w' = w6) := by
      have := sum_calls (some ⟨b, off, none⟩) cap2 p w6 (by have := HPE.out; omega) ((HO2.out.below HB6.out).bytes)
      rw [HPE.out] at this
      exact this
    go_wp2_with fail
    refine HSC.out.mono ?_
    rintro e w7 ⟨rfl, rfl⟩
    have hsl := sumB_lt p
    obtain ⟨sm, Hsm⟩ : ∃ x, Hid (x = sumB p) := ⟨_, rfl⟩
    rw [← Hsm.out] at hsl ⊢
    clear HSC
    go_wp2_with fail
    refine (writeNumber_calls w2.heap.size v6 l6 (sm : Int) 4 w7 ho6 HB6s (by omega) (by omega) (by omega) (by omega)).mono ?_
    rintro e w8 ⟨v8, rfl, ho8, hg8⟩
    have HB8 : Hid (Below w2.heap.size w2 w8) := HB6.out.trans (ho6.toBelow HB6s hg8)
    have HF : Hid (Own w8 w.heap.size v8 (encB i (ops l))) := by
      show Own _ _ _ _
      rw [HE.out.2]
      unfold frameB
      rw [HPE.out, ← Hsm.out, ← Hl5.out, ← Hl6.out]
      exact ho8.mono HB2.out.size
    have HBF : Hid (Below w.heap.size w w8) := HB2.out.trans (HB8.out.mono HB2.out.size)
    clear hg8 ho8 ho6 HB6 HB8
    go_wp2
    go_ret2
    exact ⟨v8, by rw [HE.out.1]; rfl, HF.out, HBF.out⟩
end Go.Proofs.YtmkohdepgfahnaaGreatDoor
