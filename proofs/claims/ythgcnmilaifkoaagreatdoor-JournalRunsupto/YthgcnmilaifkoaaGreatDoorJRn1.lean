import Derived.Test.YthgcnmilaifkoaaGreatDoorJSum
import Derived.Laws.AppendOwnNone
import Derived.Lib.BufferWrite
import Derived.Lib.AppendZerosOnto
import Derived.Lib.SliceRun
import Derived.Lib.Walk
import Derived.Laws.MakeOwn
/- Layer 13 (journal): Encode. -/
namespace Go.Proofs.YthgcnmilaifkoaaGreatDoor
open Go.RowKit
set_option linter.unusedVariables false

theorem frameB_length (p : List UInt8) : (frameB p).length = p.length + 9 := by simp [frameB, big_length]; omega
/-- What Encode answers: the bytes, and the error. -/
def encB (i : Int) (os : List Opp) : List UInt8 := if soundB os then frameB (payB i os) else []
def encE (os : List Opp) : Int := if soundB os then 0 else 130

set_option maxRecDepth 100000 in
set_option maxHeartbeats 2000000 in
theorem jencode_calls (i : Int) (ao : Option Addr) (c : Nat) (l : List OV) (w : World) (h0 : 0 ≤ i) (h1 : i ≤ 18446744073709551615) (hv : Vs w) (hl : l.length ≤ 140737488355328) (hok : ∀ x ∈ l, x.ok) (hr : ∀ x ∈ l, x.o.rng) (hat : OpsAt w ao l) :
  Calls Tryz.prog 12 #[.agg (entV i ao l.length c)] w fun e w' => ∃ v', e = .returned (.tuple #[v', .int .i64 (encE (ops l))]) ∧ Own w' w.heap.size v' (encB i (ops l)) ∧ Below w.heap.size w w' := by
 have HC1 : Hid (∀ w', Below w.heap.size w w' → Calls Tryz.prog 22 #[.agg (entV i ao l.length c)] w' fun e w'' => e = .returned (.bool (soundB (ops l))) ∧ Below w'.heap.size w' w'') := fun w' h => isSound_calls i ao c l w' (hv.stay h) hl hok (hat.below h)
 have HC2 : Hid (soundB (ops l) = true → ∀ w', Below w.heap.size w w' → Calls Tryz.prog 23 #[.agg (entV i ao l.length c)] w' fun e w'' => ∃ v', e = .returned v' ∧ Own w'' w'.heap.size v' (payB i (ops l)) ∧ Below w'.heap.size w' w'') := fun hs w' h => writePayload_calls i ao c l w' h0 h1 hs hr (hat.below h)
 clear h0 h1 hv hok hr hat
 obtain ⟨n, Hn⟩ : ∃ x, Hid (x = l.length) := ⟨_, rfl⟩
 rw [← Hn.out] at HC1 HC2 hl ⊢
 clear Hn
 obtain ⟨wx, Hwx⟩ : ∃ x, Hid (x = w.alloc (.cells (entV i ao n c) 31)) := ⟨_, rfl⟩
 have KA : Hid (Blk wx w.heap.size (entV i ao n c) 31) := by rw [Hwx.out]; exact Blk.new _ _ _
 have HB : Hid (Below w.heap.size w wx) := by rw [Hwx.out]; exact below_new w _
 have c0 : wx.cell? ⟨w.heap.size, 0, none⟩ = some (.int .u64 i) := KA.out.cell 0 rfl
 have c1 : wx.cell? ⟨w.heap.size, 1, none⟩ = some (.slice ao n c) := KA.out.cell 1 rfl
 cases hs : soundB (ops l) with
 | false =>
  have HE : Hid (encE (ops l) = 130 ∧ encB i (ops l) = []) := by unfold encE encB; rw [hs]; exact ⟨rfl, rfl⟩
  rw [hs] at HC1
  clear hs HC2
  go_enter Tryz.func12, Tryz.ntmps12
  go_upto_region 1 with fail
  rw [← Hwx.out]
  clear Hwx
  go_wp2_with fail
  refine (HC1.out wx HB.out).mono ?_
  rintro e w1 ⟨rfl, hb1⟩
  have HB1 : Hid (Below w.heap.size w w1) := HB.out.trans (hb1.mono HB.out.size)
  clear HC1 hb1 c0 c1
  go_wp2
  go_ret2
  exact ⟨.slice none 0 0, by rw [HE.out.1]; rfl, by rw [HE.out.2]; exact Own.nil _ _, HB1.out⟩
 | true =>
  have HE : Hid (encE (ops l) = 0 ∧ encB i (ops l) = frameB (payB i (ops l))) := by unfold encE encB; rw [hs]; exact ⟨rfl, rfl⟩
  have HPL : Hid ((payB i (ops l)).length ≤ 78793) := payB_le hs
  have HPos : Hid (9 ≤ (payB i (ops l)).length) := by show _ ≤ _; simp only [payB, List.length_append, big_length, List.length_cons, List.length_nil]; omega
  have HC3 : Hid (∀ w', Below w.heap.size w w' → Calls Tryz.prog 23 #[.agg (entV i ao n c)] w' fun e w'' => ∃ v', e = .returned v' ∧ Own w'' w'.heap.size v' (payB i (ops l)) ∧ Below w'.heap.size w' w'') := HC2.out hs
  rw [hs] at HC1
  clear hs HC2
  obtain ⟨p, Hp⟩ : ∃ x, Hid (x = payB i (ops l)) := ⟨_, rfl⟩
  rw [← Hp.out] at HC3 HPL HPos HE
  clear Hp
  go_enter Tryz.func12, Tryz.ntmps12
  go_upto_region 1 with fail
  rw [← Hwx.out]
  clear Hwx
  go_wp2_with fail
  refine (HC1.out wx HB.out).mono ?_
  rintro e w1 ⟨rfl, hb1⟩
  have HB1 : Hid (Below w.heap.size w w1) := HB.out.trans (hb1.mono HB.out.size)
  have KA1 := KA.out.below hb1
  clear c0 c1
  have c0 : w1.cell? ⟨w.heap.size, 0, none⟩ = some (.int .u64 i) := KA1.cell 0 rfl
  have c1 : w1.cell? ⟨w.heap.size, 1, none⟩ = some (.slice ao n c) := KA1.cell 1 rfl
  clear HC1 hb1 KA KA1 HB
  go_wp2_with fail
  refine (HC3.out w1 HB1.out).mono ?_
  rintro e w2 ⟨v2, rfl, ho2, hb2⟩
  have HB2 : Hid (Below w.heap.size w w2) := HB1.out.trans (hb2.mono HB1.out.size)
  have HO2 : Hid (Own w2 w.heap.size v2 p) := ho2.mono HB1.out.size
  obtain ⟨a2, cap2, rfl⟩ := ho2.shape
  have hpl := HPL.out
  clear HC3 hb2 ho2 c0 c1 HB1
  obtain ⟨pl, Hpl⟩ : ∃ x, Hid (x = p.length) := ⟨_, rfl⟩
  rw [← Hpl.out] at hpl ⊢
  obtain ⟨i0, hi, hz0, hz1, hz2⟩ := info_parts info_u8
  obtain ⟨w3, hmk, ho3, hg3⟩ := run_make_own (P := Tryz.prog) w2 w2.heap.size 50 5 i0 (.int .u8 0) 1 Tryz.underlying50 hi hz0 hz1 .i64 .i64 (pl + 9) (by rw [hz2]; omega) (by unfold maxLen; omega) (Nat.le_refl _)
  have hmake : (Instr.makeSlice 50 (.int .i64 0) (.int .i64 (5 + (pl : Int) + 4))).run Tryz.prog w2 = .ok (.slice (some ⟨w2.heap.size, 0, none⟩) 0 (pl + 9)) w3 := by
   rw [show (5 + (pl : Int) + 4) = ((pl + 9 : Nat) : Int) by omega]
   exact hmk
  have HO3 : Hid (Own w3 w2.heap.size (.slice (some ⟨w2.heap.size, 0, none⟩) 0 (pl + 9)) []) := ho3
  have HB3 : Hid (Below w2.heap.size w2 w3) := ⟨hg3.os, hg3.tape, hg3.output, hg3.size, fun k hk => hg3.block k hk (by simp)⟩
  clear hmk ho3 hg3 hi hz0 hz1 hz2
  have HB3s := HB3.out.size
  go_wp2_with (at_builtin; refine append_bytes _ rfl (.tmp 16) (.tmp 17) rfl w2.heap.size _ _ rfl (HO3.out.alloc _) ⟨w3.heap.size, 0, none⟩ 1 1 [77] rfl rfl (cells_new _ _ _) (by simp) (by simp; omega) ?_)
  intro v4 w4 ho4 hg4'
  have hg4 := hg4'.ofAlloc
  have HB4 : Hid (Below w2.heap.size w2 w4) := HB3.out.trans (HO3.out.toBelow HB3s hg4)
  clear hg4 hg4' hmake HO3 HB3 HB3s
  have HB4s := HB4.out.size
  go_wp2_with fail
  refine (writeNumber_calls w2.heap.size v4 [77] (pl : Int) 4 w4 ho4 HB4s (by simp) (by omega) (by omega) (by omega)).mono ?_
  rintro e w5 ⟨v5, rfl, ho5, hg5⟩
  have HB5 : Hid (Below w2.heap.size w2 w5) := HB4.out.trans (ho4.toBelow HB4s hg5)
  have hl5 : ([77] ++ big 4 (pl : Int)).length = 5 := by simp [big_length]
  obtain ⟨l5, Hl5⟩ : ∃ x : List UInt8, Hid (x = [77] ++ big 4 (pl : Int)) := ⟨[77] ++ big 4 (pl : Int), rfl⟩
  rw [← Hl5.out] at ho5 hl5
  clear hg5 ho4 HB4 HB4s
  have HB5s := HB5.out.size
  have hpne : bs p ≠ [] := fun e => by have := bs_length p; rw [e] at this; have h9 := HPos.out; simp at this; omega
  obtain ⟨b, off, rfl, hcs⟩ := (HO2.out.below HB5.out).bytes hpne
  have HCS : Hid (∀ j u, (bs p)[j]? = some u → w5.cell? ((⟨b, off, none⟩ : Addr).add j) = some u) := fun j u hj => by rw [Addr.add_mid]; exact hcs j u hj
  clear hcs hpne
  have hpl2 : p.length = pl := Hpl.out.symm
  have HPE : Hid (p.length = pl) := hpl2
  clear hpl2
  go_wp2_with (at_builtin; refine append_bytes _ rfl (.tmp 24) (.tmp 25) rfl w2.heap.size _ _ rfl ho5 ⟨b, off, none⟩ pl cap2 p rfl HPE.out HCS.out (by omega) HB5s ?_)
  intro v6 w6 ho6 hg6
  have HB6 : Hid (Below w2.heap.size w2 w6) := HB5.out.trans (ho5.toBelow HB5s hg6)
  have hl6 : (l5 ++ p).length = 5 + pl := by have := HPE.out; simp only [List.length_append]; omega
  obtain ⟨l6, Hl6⟩ : ∃ x, Hid (x = l5 ++ p) := ⟨_, rfl⟩
  rw [← Hl6.out] at ho6 hl6
  clear hg6 ho5 HB5 HB5s HCS
  have HB6s := HB6.out.size
  have HSC : Hid (Calls Tryz.prog 13 #[.slice (some ⟨b, off, none⟩) pl cap2] w6 fun e w' => e = .returned (.int .u32 (sumB p)) ∧ w' = w6) := by
   have := sum_calls (some ⟨b, off, none⟩) cap2 p w6 (by have := HPE.out; omega) ((HO2.out.below HB6.out).bytes)
   rw [HPE.out] at this
   exact this
  go_wp2_with fail
  refine HSC.out.mono ?_
  rintro e w7 ⟨rfl, rfl⟩
  have hsl := sumB_lt p
  obtain ⟨sm, Hsm⟩ : ∃ x, Hid (x = sumB p) := ⟨_, rfl⟩
  rw [← Hsm.out] at hsl ⊢
  clear HSC
  go_wp2_with fail
  refine (writeNumber_calls w2.heap.size v6 l6 (sm : Int) 4 w7 ho6 HB6s (by omega) (by omega) (by omega) (by omega)).mono ?_
  rintro e w8 ⟨v8, rfl, ho8, hg8⟩
  have HB8 : Hid (Below w2.heap.size w2 w8) := HB6.out.trans (ho6.toBelow HB6s hg8)
  have HF : Hid (Own w8 w.heap.size v8 (encB i (ops l))) := by
   show Own _ _ _ _
   rw [HE.out.2]
   unfold frameB
   rw [HPE.out, ← Hsm.out, ← Hl5.out, ← Hl6.out]
   exact ho8.mono HB2.out.size
  have HBF : Hid (Below w.heap.size w w8) := HB2.out.trans (HB8.out.mono HB2.out.size)
  clear hg8 ho8 ho6 HB6 HB8
  go_wp2
  go_ret2
  exact ⟨v8, by rw [HE.out.1]; rfl, HF.out, HBF.out⟩
end Go.Proofs.YthgcnmilaifkoaaGreatDoor

/- Layer 13 (journal): frames in memory; slices.Grow of nil, slices.Concat, over bytes. -/
namespace Go.Proofs.YthgcnmilaifkoaaGreatDoor
open Go.RowKit
set_option linter.unusedVariables false

/-- A slice of bytes: where it lies, its capacity, its bytes. -/
structure FV where
 a : Option Addr
 c : Nat
 l : List UInt8
def FV.v (x : FV) : Value := .slice x.a x.l.length x.c
structure FV.At (w : World) (x : FV) : Prop where
 bytes : BAt w x.a x.l
 room : x.l.length ≤ x.c
 nil : x.a = none → x.c = 0
theorem FV.At.below {w w' : World} {x : FV} (h : x.At w) (hb : Below w.heap.size w w') : x.At w' := ⟨h.bytes.below hb, h.room, h.nil⟩
def fbs (S : List FV) : List UInt8 := S.flatMap (·.l)
theorem fbs_snoc (S : List FV) (j : Nat) (h : j < S.length) : fbs (S.take (j + 1)) = fbs (S.take j) ++ S[j].l := by
 unfold fbs
 rw [List.take_succ_eq_append_getElem h, List.flatMap_append]
 simp
theorem fbs_take_le (S : List FV) (j : Nat) : (fbs (S.take j)).length ≤ (fbs S).length := by
 have : fbs S = fbs (S.take j) ++ fbs (S.drop j) := by unfold fbs; rw [← List.flatMap_append, List.take_append_drop]
 rw [this]; simp
theorem fbs_at_le (S : List FV) (j : Nat) (h : j < S.length) : (fbs (S.take j)).length + S[j].l.length ≤ (fbs S).length := by
 have := fbs_take_le S (j + 1)
 rw [fbs_snoc S j h] at this
 simpa using this
theorem own_fv {w : World} {B : Nat} {v : Value} {l : List UInt8} (h : Own w B v l) : ∃ x : FV, v = x.v ∧ x.l = l ∧ x.At w := by
 rcases h.2 with ⟨hv, h0⟩ | ⟨g, cap, cur, hv, hb, hg, hnc, r⟩
 ·have : l = [] := List.length_eq_zero_iff.1 (by simpa using h0)
  subst this
  exact ⟨⟨none, 0, []⟩, hv, rfl, fun h => absurd rfl h, Nat.le_refl _, fun _ => rfl⟩
 ·subst hv
  exact ⟨⟨some ⟨g, 0, none⟩, cap, l⟩, rfl, rfl, Own.bytes h, hnc, fun e => by cases e⟩
theorem Own.fv {w : World} {B : Nat} {x : FV} (h : Own w B x.v x.l) : x.At w := by
 obtain ⟨y, he, hl, hy⟩ := own_fv h
 obtain ⟨a, c, l⟩ := x
 obtain ⟨a', c', l'⟩ := y
 dsimp only at hl
 subst hl
 simp only [FV.v, Value.slice.injEq] at he
 obtain ⟨rfl, _, rfl⟩ := he
 exact hy
theorem frames_at {w : World} {ao : Option Addr} {S : List FV} (h : CellsAt w ao (S.map FV.v)) (k : Nat) (hk : k < S.length) : ∃ b off, ao = some ⟨b, off, none⟩ ∧ w.cell? ⟨b, off + k, none⟩ = some (.slice S[k].a S[k].l.length S[k].c) := by
 obtain ⟨b, off, ha, hc⟩ := h (fun e => by have := congrArg List.length e; rw [List.length_map, List.length_nil] at this; omega)
 exact ⟨b, off, ha, hc k _ (by simp [hk, FV.v])⟩

theorem infoU8j : (Tryz.prog.info? 5).map (fun i => (i.zero, i.size, i.bytes)) = some (some (.int .u8 0), 1, 1) := by kernel_rfl
set_option maxHeartbeats 4000000 in
set_option maxRecDepth 100000 in
/-- Grow of nil: an empty slice of its own. -/
theorem growB_calls (n : Nat) (w : World) (hn : n ≤ 1099511627776) :
  Calls Tryz.prog 47 #[.slice none 0 0, .int .i64 n] w fun e w' => ∃ v, e = .returned v ∧ Own w' w.heap.size v [] ∧ Below w.heap.size w w' ∧ ∃ ao cap, v = .slice ao 0 cap := by
 by_cases h0 : n = 0
 ·subst h0
  go_enter Tryz.func47, Tryz.ntmps47
  go_wp2
  go_ret
  exact ⟨_, rfl, ⟨by simp [bs], .inl ⟨rfl, rfl⟩⟩, Below.refl _ _, _, _, rfl⟩
 obtain ⟨i0, hi, hz0, hz1, hz2⟩ : ∃ i0, Tryz.prog.info? 5 = some i0 ∧ i0.zero = some (.int .u8 0) ∧ i0.size = 1 ∧ i0.bytes = 1 := by
  have := infoU8j
  cases h : Tryz.prog.info? 5 with
  | none => rw [h] at this; cases this
  | some i => rw [h] at this; simp at this; exact ⟨i, rfl, this.1, this.2.1, this.2.2⟩
 have hG1 := grownCap_ge w n 0 5
 have hG2 := grownCap_le_maxLen w n 0 5 (by unfold maxLen; omega)
 have hrun := Lib.run_append_grow_zeros (P := Tryz.prog) w 50 3 50 5 i0 (.int .u8 0) .i64 .i64 Tryz.underlying50 Tryz.underlying3 hi hz0 none 0 0 []
  (run_firstCells_none w.drew i0.size 0 0 0) n (by omega) (by omega) (by omega) (by omega) (by rw [hz2]; omega) (by simp only [Nat.zero_add]; exact growslice_fits (by omega) (by rw [hz2]; omega))
 simp only [Nat.zero_add] at hrun
 obtain ⟨G, hG⟩ : ∃ G, G = grownCap w n 0 5 := ⟨_, rfl⟩
 rw [← hG] at hrun hG1 hG2
 clear hG
 obtain ⟨Z, HZ⟩ : ∃ Z : Array Value, Hid (Z = (#[] : Array Value) ++ Builtin.zeroCells (Value.int .u8 0).cells n ++ Builtin.zeroCells (Value.int .u8 0).cells (G - n)) := ⟨_, rfl⟩
 have hZs : Z.size = G := by rw [HZ.out]; simp [Builtin.zeroCells, Value.cells]; omega
 have hrun' : (Builtin.append_ #[50, 3] 50 #[.slice none 0 0, .int .i64 n]).run Tryz.prog w = .ok (.slice (some ⟨w.heap.size, 0, none⟩) n G) (w.drew.alloc (.cells Z 5)) := by rw [HZ.out]; exact hrun
 clear hrun HZ
 have hg63 : G ≤ 9223372036854775807 := by unfold maxLen at hG2; omega
 go_enter Tryz.func47, Tryz.ntmps47
 go_wp2_with (at_builtin; refine Lib.wpList_append_run _ rfl _ _ _ _ rfl _ _ rfl rfl _ _ hrun' ?_)
 go_ret
 refine ⟨_, rfl, ?_, (Below.refl _ w).drew.alloc (Nat.le_refl _) _, _, _, rfl⟩
 exact ⟨by simp [bs], .inr ⟨w.heap.size, G, Z, rfl, Nat.le_refl _, heap_alloc_new w.drew _, by simp, hG2, by simp [hZs], by simp [bs]⟩⟩

set_option maxRecDepth 100000 in
set_option maxHeartbeats 1600000 in
theorem concatB_calls (ao : Option Addr) (c : Nat) (S : List FV) (w : World) (hc0 : CellsAt w ao (S.map FV.v)) (hS : ∀ x ∈ S, x.At w) (hl : (fbs S).length ≤ 1099511627776) (hm : S.length ≤ 1099511627776) :
  Calls Tryz.prog 34 #[.slice ao S.length c] w fun e w' => ∃ v, e = .returned v ∧ Own w' w.heap.size v (fbs S) ∧ Below w.heap.size w w' := by
 have HC : Hid (CellsAt w ao (S.map FV.v)) := hc0
 have HS : Hid (∀ x ∈ S, x.At w) := hS
 clear hc0 hS
 obtain ⟨n, Hn⟩ : ∃ x, Hid (x = S.length) := ⟨_, rfl⟩
 rw [← Hn.out] at hm ⊢
 go_enter Tryz.func34, Tryz.ntmps34
 go_wp2
 go_loop [3, 11] (fun n' i => ∃ j : Nat, j ≤ n ∧ i = .int .i64 j ∧ n' = .int .i64 ((fbs (S.take j)).length : Int)) (fun _ i => n - (intOf i).toNat)
 case atStart => exact ⟨0, Nat.zero_le _, rfl, rfl⟩
 case round =>
  obtain ⟨j, hj, rfl, rfl⟩ := hrel
  have hle := fbs_take_le S j
  by_cases hlt : j < n
  ·have hjS : j < S.length := by rw [← Hn.out]; exact hlt
   obtain ⟨b, off, rfl, hcj⟩ := frames_at HC.out j hjS
   have hle2 := fbs_at_le S j hjS
   obtain ⟨y, Hy⟩ : ∃ y, Hid (y = S[j]'hjS) := ⟨_, rfl⟩
   have HSN : Hid ((fbs (S.take (j + 1))).length = (fbs (S.take j)).length + y.l.length) := by show _ = _; rw [fbs_snoc S j hjS, Hy.out]; simp
   rw [← Hy.out] at hcj hle2
   clear Hy
   obtain ⟨q, Hq⟩ : ∃ x, Hid (x = (fbs (S.take j)).length) := ⟨_, rfl⟩
   obtain ⟨yl, Hyl⟩ : ∃ x, Hid (x = y.l.length) := ⟨_, rfl⟩
   rw [← Hq.out, ← Hyl.out] at HSN
   rw [← Hq.out] at hle2 hle ⊢
   rw [← Hyl.out] at hle2 hcj
   clear Hq Hyl hjS
   go_wp2
   go_round
   case rel => exact ⟨j + 1, by omega, by go_num, by rw [HSN.out]; go_num⟩
   case measure => simp [intOf]; omega
  ·have hjl : S.take j = S := List.take_of_length_le (by rw [← Hn.out]; omega)
   rw [hjl]
   have HG := growB_calls (fbs S).length w hl
   clear hjl hle
   go_wp2_with fail
   refine HG.mono ?_
   clear HG
   rintro e w1 ⟨v, rfl, ho, hb1, ao0, cap0, hv⟩
   subst hv
   have HO : Hid (Own w1 w.heap.size (.slice ao0 0 cap0) []) := ho
   have HB1 : Hid (Below w.heap.size w w1) := hb1
   clear ho hb1
   go_wp2
   go_loopw [6, 27] (fun x i wr => ∃ (q : Nat) (y : Value), y = x ∧ q ≤ n ∧ i = .int .i64 q ∧ Hid (Own wr w.heap.size x (fbs (S.take q))) ∧ Hid (Below w.heap.size w wr)) (fun _ i _ => n - (intOf i).toNat)
   case atStart => exact ⟨0, _, rfl, Nat.zero_le _, rfl, HO, HB1⟩
   case round =>
    obtain ⟨q, x, rfl, hq, rfl, HX, HB⟩ := hrel
    clear HO HB1
    by_cases hlt2 : q < n
    ·have hqS : q < S.length := by rw [← Hn.out]; exact hlt2
     obtain ⟨b, off, rfl, hcq⟩ := frames_at (HC.out.below HB.out) q hqS
     have hlq := fbs_at_le S q hqS
     have hAt := (HS.out _ (List.getElem_mem hqS)).below HB.out
     have hBs := HB.out.size
     have HSN : Hid (fbs (S.take (q + 1)) = fbs (S.take q) ++ (S[q]'hqS).l) := fbs_snoc S q hqS
     obtain ⟨y, Hy⟩ : ∃ y, Hid (y = S[q]'hqS) := ⟨_, rfl⟩
     rw [← Hy.out] at hcq hlq hAt HSN
     clear Hy
     obtain ⟨pre, Hp⟩ : ∃ x, Hid (x = fbs (S.take q)) := ⟨_, rfl⟩
     rw [← Hp.out] at hlq HSN HX
     obtain ⟨pl, Hpl⟩ : ∃ x, Hid (x = pre.length) := ⟨_, rfl⟩
     obtain ⟨yl, Hyl⟩ : ∃ x, Hid (x = y.l.length) := ⟨_, rfl⟩
     have HNL : Hid ((bs y.l).length = yl * 1) := by show _ = _; rw [bs_length, ← Hyl.out, Nat.mul_one]
     have HYA : Hid (BAt wr y.a y.l) := hAt.bytes
     have HXR : Hid (wr.ownsRow w.heap.size 5 1 x pl (bs pre)) := by rw [Hpl.out]; exact HX.out
     rw [← Hpl.out, ← Hyl.out] at hlq
     rw [← Hyl.out] at hcq
     clear hAt Hp
     go_wp2_with (at_builtin; refine append_src _ rfl (.tmp 31) (.tmp 32) 50 5 (.int .u8 0) 1 1 Tryz.underlying50 infoU8j rfl (by decide) rfl w.heap.size _ pl (bs pre) rfl HXR.out y.a yl y.c (bs y.l) rfl HNL.out HYA.out (bs_one y.l) (by unfold maxLen; omega) (by omega) hBs ?_)
     intro v1 w2 ho2 hg2
     have HX2 : Hid (Own w2 w.heap.size v1 (fbs (S.take (q + 1)))) := by
      show Own _ _ _ _
      rw [HSN.out]
      unfold Own
      rw [List.length_append, ← Hpl.out, ← Hyl.out, bs_append]
      exact ho2
     have HB2 : Hid (Below w.heap.size w w2) := HB.out.trans (hg2.toBelow hBs (fun k hk => (World.ownsRow.lt HX.out k hk).1))
     clear ho2 hg2 HX HXR
     go_wp2
     go_roundw
     case rel => exact ⟨q + 1, _, rfl, by omega, by go_num, HX2, HB2⟩
     case measure => simp [intOf]; omega
    ·have hql : S.take q = S := List.take_of_length_le (by rw [← Hn.out]; omega)
     have HF : Hid (Own wr w.heap.size x (fbs S)) := by rw [hql] at HX; exact HX
     clear HX hql
     go_wp2
     go_ret
     exact ⟨_, rfl, HF.out, HB.out⟩
end Go.Proofs.YthgcnmilaifkoaaGreatDoor
