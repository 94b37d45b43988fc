import Derived.Test.YthgcnmilaifkoaaGreatDoorJOdd
import Derived.Test.YthgcnmilaifkoaaGreatDoorJEqN
import Derived.Test.YthgcnmilaifkoaaGreatDoorJPay
/- Layer 13 (journal): IndexFunc and ContainsFunc with isOdd, isSound. -/
namespace Go.Proofs.YthgcnmilaifkoaaGreatDoor
open Go.RowKit
set_option linter.unusedVariables false

structure OV.ok (x : OV) : Prop where
 small : x.o.small
 len : x.o.svc.tags.length ≤ 140737488355328
def oddAt (l : List OV) : Int := match l.findIdx? (fun x => !sndB x.o) with | some i => i | none => -1
theorem odd_hit {l : List OV} {k : Nat} (hk : k < l.length) (h : (!sndB l[k].o) = true) (hb : noneTo (fun x : OV => !sndB x.o) l k) : (k : Int) = oddAt l := by
 have e : l.findIdx? (fun x => !sndB x.o) = some k := by
  rw [List.findIdx?_eq_some_iff_getElem]
  exact ⟨hk, h, fun j hj => by have := hb j (by omega) hj; simpa using this⟩
 unfold oddAt
 rw [e]
theorem odd_none {l : List OV} {k : Nat} (hk : l.length ≤ k) (hb : noneTo (fun x : OV => !sndB x.o) l k) : -1 = oddAt l := by
 have e : l.findIdx? (fun x => !sndB x.o) = none := by
  rw [List.findIdx?_eq_none_iff]
  intro x hx
  obtain ⟨j, hj, rfl⟩ := List.getElem_of_mem hx
  have := hb j hj (by omega)
  simpa using this
 unfold oddAt
 rw [e]
theorem odd_all (l : List OV) : decide (0 ≤ oddAt l) = !(ops l).all sndB := by
 unfold oddAt
 cases h : l.findIdx? (fun x => !sndB x.o) with
 | none =>
  rw [List.findIdx?_eq_none_iff] at h
  have : (ops l).all sndB = true := by
   rw [List.all_eq_true]
   intro o ho
   obtain ⟨x, hx, rfl⟩ := List.mem_map.1 ho
   have := h x hx
   simpa using this
  rw [this]
  rfl
 | some i =>
  rw [List.findIdx?_eq_some_iff_getElem] at h
  obtain ⟨hi, h1, _⟩ := h
  have : (ops l).all sndB = false := by
   rw [List.all_eq_false]
   exact ⟨l[i].o, List.mem_map.2 ⟨_, List.getElem_mem hi, rfl⟩, by simpa using h1⟩
  rw [this]
  simp

set_option maxRecDepth 100000 in
set_option maxHeartbeats 4000000 in
theorem indexOdd_calls (ao : Option Addr) (c : Nat) (l : List OV) (f : Value) (w : World) (hf : f = .func (.func 38) #[] #[]) (hv : Vs w) (hl : l.length ≤ 140737488355328) (hok : ∀ x ∈ l, x.ok) (hat : OpsAt w ao l) :
  Calls Tryz.prog 51 #[.slice ao l.length c, f] w fun e w' => e = .returned (.int .i64 (oddAt l)) ∧ Below w.heap.size w w' := by
 subst hf
 have HV : Hid (Vs w) := hv
 have HK : Hid (∀ k (h : k < l.length), l[k].ok) := fun k h => hok _ (List.getElem_mem h)
 have HAT : Hid (OpsAt w ao l) := hat
 clear hok hat hv
 go_enter Tryz.func51, Tryz.ntmps51
 go_wp2
 go_loopw [8] (fun i wr => ∃ k : Nat, k ≤ l.length ∧ i = .int .i64 k ∧ Hid (noneTo (fun x : OV => !sndB x.o) l k) ∧ Hid (Below w.heap.size w wr)) (fun i _ => l.length - (intOf i).toNat)
 case atStart => exact ⟨0, Nat.zero_le _, rfl, noneTo.zero _ _, Below.refl _ _⟩
 case round =>
  obtain ⟨k, hk, rfl, HNo, HB⟩ := hrel
  by_cases hlt : k < l.length
  ·obtain ⟨b, off, rfl, hrange⟩ := (HAT.out.below HB.out).at k hlt
   obtain ⟨y, Hy⟩ : ∃ y, Hid (y = l[k]'hlt) := ⟨_, rfl⟩
   have HYok : Hid y.ok := by rw [Hy.out]; exact HK.out k hlt
   have HTG : Hid (CellsAt wr y.ta (y.o.svc.tags.map Value.string)) := by rw [Hy.out]; exact ((HAT.out.below HB.out).tags _ (List.getElem_mem hlt))
   have HRG : Hid (wr.rangeAt b (off + k * 21) y.v.toList) := by rw [Hy.out]; exact hrange
   clear hrange
   go_upto_region 4 with fail
   iterate 14 go_step
   refine wp_load_ov rfl rfl HRG.out ?_
   go_wp2_with fail
   refine (isOdd_calls y wr (HV.out.stay HB.out) HYok.out.small HYok.out.len HTG.out).mono ?_
   rintro e w2 ⟨rfl, hb2⟩
   have HB2 : Hid (Below w.heap.size w w2) := HB.out.trans (hb2.mono HB.out.size)
   clear hb2 HRG HTG HB
   cases hd : sndB y.o with
   | true =>
    have HN2 : Hid (noneTo (fun x : OV => !sndB x.o) l (k + 1)) := HNo.out.succ hlt (by simp only [← Hy.out, hd]; rfl)
    clear hd
    go_wp2
    go_roundw
    case rel => exact ⟨k + 1, by omega, by go_num, HN2, HB2⟩
    case measure => simp [intOf]; omega
   | false =>
    have HE : Hid ((k : Int) = oddAt l) := odd_hit hlt (by simp only [← Hy.out, hd]; rfl) HNo.out
    clear hd
    go_wp2
    go_ret
    exact ⟨ret_num HE.out, HB2.out⟩
  ·have HE : Hid (-1 = oddAt l) := odd_none (by omega) HNo.out
   go_wp2
   go_ret
   exact ⟨ret_num HE.out, HB.out⟩

set_option maxRecDepth 100000 in
set_option maxHeartbeats 1000000 in
theorem containsOdd_calls (ao : Option Addr) (c : Nat) (l : List OV) (w : World) (hv : Vs w) (hl : l.length ≤ 140737488355328) (hok : ∀ x ∈ l, x.ok) (hat : OpsAt w ao l) :
  Calls Tryz.prog 37 #[.slice ao l.length c, .func (.func 38) #[] #[]] w fun e w' => e = .returned (.bool (!(ops l).all sndB)) ∧ Below w.heap.size w w' := by
 have HC : Hid (Calls Tryz.prog 51 #[.slice ao l.length c, .func (.func 38) #[] #[]] w fun e w' => e = .returned (.int .i64 (oddAt l)) ∧ Below w.heap.size w w') := indexOdd_calls ao c l _ w rfl hv hl hok hat
 have HE : Hid (decide (0 ≤ oddAt l) = !(ops l).all sndB) := odd_all l
 clear hv hl hok hat
 go_enter Tryz.func37, Tryz.ntmps37
 go_wp2_with fail
 refine HC.out.mono ?_
 rintro e w1 ⟨rfl, hb1⟩
 clear HC
 go_wp2
 go_ret
 exact ⟨ret_bool HE.out, hb1⟩

def entV (i : Int) (ao : Option Addr) (n c : Nat) : Array Value := #[.int .u64 i, .slice ao n c]
set_option maxRecDepth 100000 in
set_option maxHeartbeats 1000000 in
theorem isSound_calls (i : Int) (ao : Option Addr) (c : Nat) (l : List OV) (w : World) (hv : Vs w) (hl : l.length ≤ 140737488355328) (hok : ∀ x ∈ l, x.ok) (hat : OpsAt w ao l) :
  Calls Tryz.prog 22 #[.agg (entV i ao l.length c)] w fun e w' => e = .returned (.bool (soundB (ops l))) ∧ Below w.heap.size w w' := by
 have HC : Hid (∀ w', Below w.heap.size w w' → Calls Tryz.prog 37 #[.slice ao l.length c, .func (.func 38) #[] #[]] w' fun e w'' => e = .returned (.bool (!(ops l).all sndB)) ∧ Below w'.heap.size w' w'') := fun w' h => containsOdd_calls ao c l w' (hv.stay h) hl hok (hat.below h)
 have hlen : (ops l).length = l.length := by simp [ops]
 obtain ⟨R, HR⟩ : ∃ x, Hid (x = soundB (ops l)) := ⟨_, rfl⟩
 rw [← HR.out]
 have HRE : Hid (R = (decide (1 ≤ l.length) && decide (l.length ≤ 64) && (ops l).all sndB)) := by show _ = _; rw [HR.out]; unfold soundB; rw [hlen]
 clear HR hlen hv hok hat
 obtain ⟨n, Hn⟩ : ∃ x, Hid (x = l.length) := ⟨_, rfl⟩
 rw [← Hn.out] at HC HRE hl ⊢
 clear Hn
 obtain ⟨wx, Hwx⟩ : ∃ x, Hid (x = w.alloc (.cells (entV i ao n c) 31)) := ⟨_, rfl⟩
 have KA : Hid (Blk wx w.heap.size (entV i ao n c) 31) := by rw [Hwx.out]; exact Blk.new _ _ _
 have HB : Hid (Below w.heap.size w wx) := by rw [Hwx.out]; exact below_new w _
 have c1 : wx.cell? ⟨w.heap.size, 1, none⟩ = some (.slice ao n c) := KA.out.cell 1 rfl
 by_cases h0 : n = 0
 ·have HF : Hid (R = false) := by show _ = _; rw [HRE.out, h0]; rfl
  have q : ((n : Int) == 0) = true := by simp [h0]
  clear h0
  go_enter Tryz.func22, Tryz.ntmps22
  go_upto_region 1 with fail
  rw [← Hwx.out]
  clear Hwx
  go_wp2
  go_ret
  exact ⟨ret_bool HF.out.symm, HB.out⟩
 have q : ((n : Int) == 0) = false := by simp [h0]
 by_cases h64 : n ≤ 64
 ·have HF : Hid (R = (ops l).all sndB) := by
   show _ = _
   rw [HRE.out, show decide (1 ≤ n) = true from by simp; omega, show decide (n ≤ 64) = true from by simpa using h64]
   simp
  have q2 : ¬ (64 : Int) < (n : Int) := by omega
  clear h0
  obtain ⟨D, HD⟩ : ∃ x, Hid (x = (ops l).all sndB) := ⟨_, rfl⟩
  rw [← HD.out] at HC HF
  clear HD
  go_enter Tryz.func22, Tryz.ntmps22
  go_upto_region 1 with fail
  rw [← Hwx.out]
  clear Hwx
  go_wp2_with fail
  refine (HC.out wx HB.out).mono ?_
  rintro e w1 ⟨rfl, hb1⟩
  have HB1 : Hid (Below w.heap.size w w1) := HB.out.trans (hb1.mono HB.out.size)
  clear HC hb1 c1
  go_wp2
  go_ret
  exact ⟨ret_bool (by rw [HF.out]), HB1.out⟩
 ·have HF : Hid (R = false) := by
   show _ = _
   rw [HRE.out, show decide (n ≤ 64) = false from by simpa using h64]
   simp
  have q2 : (64 : Int) < (n : Int) := by omega
  clear h0
  go_enter Tryz.func22, Tryz.ntmps22
  go_upto_region 1 with fail
  rw [← Hwx.out]
  clear Hwx
  go_wp2
  go_ret
  exact ⟨ret_bool HF.out.symm, HB.out⟩
end Go.Proofs.YthgcnmilaifkoaaGreatDoor

/- Layer 13 (journal): writePayload. -/
namespace Go.Proofs.YthgcnmilaifkoaaGreatDoor
open Go.RowKit
set_option linter.unusedVariables false


set_option maxRecDepth 100000 in
set_option maxHeartbeats 2000000 in
theorem writePayload_calls (i : Int) (ao : Option Addr) (c : Nat) (l : List OV) (w : World) (h0 : 0 ≤ i) (h1 : i ≤ 18446744073709551615) (hs : soundB (ops l) = true) (hr : ∀ x ∈ l, x.o.rng) (hat : OpsAt w ao l) :
  Calls Tryz.prog 23 #[.agg (entV i ao l.length c)] w fun e w' => ∃ v', e = .returned v' ∧ Own w' w.heap.size v' (payB i (ops l)) ∧ Below w.heap.size w w' := by
 obtain ⟨hn1, hn2, HS⟩ := soundB_all hs
 have HSK : Hid (∀ k (h : k < l.length), Snd l[k].o) := fun k h => HS _ (List.mem_map.2 ⟨_, List.getElem_mem h, rfl⟩)
 have HRK : Hid (∀ k (h : k < l.length), l[k].o.rng) := fun k h => hr _ (List.getElem_mem h)
 have hlen : (ops l).length = l.length := by simp [ops]
 rw [hlen] at hn1 hn2
 have HPL : Hid (∀ k, k ≤ l.length → (opsB (ops (l.take k))).length ≤ 78784) := fun k hk => by
  have h2 := opsB_le (ops (l.take k)) fun o ho => HS o (by
   obtain ⟨x, hx, rfl⟩ := List.mem_map.1 ho
   exact List.mem_map.2 ⟨x, List.mem_of_mem_take hx, rfl⟩)
  have h3 : (ops (l.take k)).length ≤ 64 := by simp [ops]; omega
  have : (ops (l.take k)).length * 1231 ≤ 64 * 1231 := Nat.mul_le_mul_right _ h3
  omega
 have HE : Hid (payB i (ops l) = big 8 i ++ [byteOf l.length] ++ opsB (ops l)) := by show _ = _; unfold payB; rw [hlen]
 clear HS hs hr hlen
 obtain ⟨n, Hn⟩ : ∃ x, Hid (x = l.length) := ⟨_, rfl⟩
 rw [← Hn.out] at hn1 hn2 HE ⊢
 obtain ⟨wx, Hwx⟩ : ∃ x, Hid (x = w.alloc (.cells (entV i ao n c) 31)) := ⟨_, rfl⟩
 have KA : Hid (Blk wx w.heap.size (entV i ao n c) 31) := by rw [Hwx.out]; exact Blk.new _ _ _
 have HB : Hid (Below w.heap.size w wx) := by rw [Hwx.out]; exact below_new w _
 have c0 : wx.cell? ⟨w.heap.size, 0, none⟩ = some (.int .u64 i) := KA.out.cell 0 rfl
 go_enter Tryz.func23, Tryz.ntmps23
 go_upto_region 1 with fail
 rw [← Hwx.out]
 clear Hwx
 go_wp2_with fail
 refine (writeNumber_calls w.heap.size (.slice none 0 0) [] i 8 wx (Own.nil _ _) HB.out.size (by simp) h0 h1 (by omega)).mono ?_
 rintro e w1 ⟨v1, rfl, ho1, hg1⟩
 have KA1 : Hid (Blk w1 w.heap.size (entV i ao n c) 31) := row_grewB KA.out (Own.nil wx w.heap.size) hg1 (by decide)
 have HB1 : Hid (Below w.heap.size w w1) := HB.out.trans (hg1.toBelow HB.out.size (fun k hk => by simp [Value.ownBlock] at hk))
 rw [List.nil_append] at ho1
 clear c0 hg1 KA HB
 have c1 : w1.cell? ⟨w.heap.size, 1, none⟩ = some (.slice ao n c) := KA1.out.cell 1 rfl
 have HN : Hid (bs [byteOf n] = [.int .u8 (n : Int)]) := by
  show _ = _
  rw [bs_lit, byteOf_val]
  rw [show (n : Int) % 256 = n by omega]
 have hb8 : (big 8 i).length = 8 := big_length 8 i
 have HB1s := HB1.out.size
 go_wp2_with (at_builtin; refine append_bytes _ rfl (.tmp 9) (.tmp 14) rfl w.heap.size _ _ rfl (ho1.alloc _) ⟨w1.heap.size, 0, none⟩ 1 1 [byteOf n] rfl rfl (by intro j u hj; rw [HN.out] at hj; exact cells_new _ _ _ j u hj) (by omega) (by simp; omega) ?_)
 intro v2 w2 ho2 hg2'
 have hg2 := hg2'.ofAlloc
 have KA2 : Hid (Blk w2 w.heap.size (entV i ao n c) 31) := row_grewB KA1.out ho1 hg2 (by decide)
 have HB2 : Hid (Below w.heap.size w w2) := HB1.out.trans (ho1.toBelow HB1s hg2)
 have hl2 : (big 8 i ++ [byteOf n]).length = 9 := by simp [big_length]
 obtain ⟨p, Hp⟩ : ∃ x, Hid (x = big 8 i ++ [byteOf n]) := ⟨_, rfl⟩
 rw [← Hp.out] at ho2 hl2 HE
 clear c1 hg2 hg2' ho1 KA1 HB1 HB1s hb8 HN Hp
 have c1 : w2.cell? ⟨w.heap.size, 1, none⟩ = some (.slice ao n c) := KA2.out.cell 1 rfl
 go_wp2_with fail
 clear c1 KA2
 go_loopw [3, 19] (fun x i wr => ∃ k : Nat, k ≤ n ∧ i = .int .i64 k ∧ Own wr w.heap.size x (p ++ opsB (ops (l.take k))) ∧ Hid (Below w.heap.size w wr)) (fun _ i _ => n - (intOf i).toNat)
 case atStart => exact ⟨0, Nat.zero_le _, rfl, by simpa [ops, opsB] using ho2, HB2⟩
 case round =>
  obtain ⟨k, hk, rfl, ho, HBr⟩ := hrel
  clear ho2 HB2
  by_cases hlt : k < n
  ·have hkl : k < l.length := by rw [← Hn.out]; exact hlt
   obtain ⟨b, off, rfl, hrange⟩ := (hat.below HBr.out).at k hkl
   have HC : Hid (CellsAt w l[k].ta (l[k].o.svc.tags.map Value.string)) := hat.tags _ (List.getElem_mem hkl)
   have HT : Hid (p ++ opsB (ops (l.take (k + 1))) = p ++ opsB (ops (l.take k)) ++ opB l[k].o) := by
    show _ = _
    rw [ops_take l k hkl, opsB_snoc, List.append_assoc]
   have hle : (p ++ opsB (ops (l.take k))).length ≤ 78793 := by have := HPL.out k (by omega); simp only [List.length_append]; omega
   obtain ⟨y, Hy⟩ : ∃ y, Hid (y = l[k]'hkl) := ⟨_, rfl⟩
   have hsy : Snd y.o := by rw [Hy.out]; exact HSK.out k hkl
   have hry : y.o.rng := by rw [Hy.out]; exact HRK.out k hkl
   rw [← Hy.out] at hrange HC HT
   obtain ⟨q, Hq⟩ : ∃ x, Hid (x = p ++ opsB (ops (l.take k))) := ⟨_, rfl⟩
   rw [← Hq.out] at ho HT hle
   clear Hy Hq hkl
   have HRG : Hid (wr.rangeAt b (off + k * 21) y.v.toList) := hrange
   clear hrange
   have hBr := HBr.out.size
   have HSY : Hid (Snd y.o) := hsy
   have HRY : Hid (y.o.rng) := hry
   clear hsy hry
   go_upto_region 5 with fail
   iterate 5 go_step
   refine wp_load_ov rfl rfl HRG.out ?_
   iterate 5 go_step
   refine wp_store_op rfl rfl rfl rfl rfl rfl (ov_one _) ?_
   obtain ⟨w3, Hw3⟩ : ∃ x, Hid (x = wr.alloc (.cells y.v 47)) := ⟨_, rfl⟩
   have KB : Hid (Blk w3 wr.heap.size y.v 47) := by rw [Hw3.out]; exact Blk.new _ _ _
   have HO3 := ho.alloc (.cells y.v 47)
   rw [← Hw3.out] at HO3
   have HB3 : Hid (Below w.heap.size w w3) := by rw [Hw3.out]; exact HBr.out.alloc hBr _
   rw [← Hw3.out]
   clear Hw3 ho HBr HRG
   go_upto_region 6 with fail
   iterate 5 go_step
   refine wp_get_op rfl KB.out rfl rfl ?_
   go_wp2_with fail
   have HB3s := HB3.out.size
   refine (writeOp_calls w.heap.size _ q y.o y.ta y.tc w3 HSY.out HRY.out HO3 HB3s (by omega) (Apt.base HO3 (Nat.le_refl _) HB3.out HC.out)).mono ?_
   rintro e w4 ⟨v4, rfl, ho4, hg4⟩
   have HB4 : Hid (Below w.heap.size w w4) := HB3.out.trans (HO3.toBelow HB3s hg4)
   clear hg4 HO3 HB3 KB
   go_wp2
   go_roundw
   case rel => exact ⟨k + 1, by omega, by go_num, by rw [HT.out]; exact ho4, HB4⟩
   case measure => simp [intOf]; omega
  ·have HF : Hid (p ++ opsB (ops (l.take k)) = payB i (ops l)) := by
    show _ = _
    rw [HE.out, List.take_of_length_le (by rw [← Hn.out]; omega)]
   go_wp2
   go_ret
   exact ⟨_, rfl, by rw [← HF.out]; exact ho, HBr.out⟩
end Go.Proofs.YthgcnmilaifkoaaGreatDoor

/- Layer 13 (journal): Sum. -/
namespace Go.Proofs.YthgcnmilaifkoaaGreatDoor
open Go.RowKit
set_option linter.unusedVariables false

set_option maxRecDepth 100000 in
set_option maxHeartbeats 1000000 in
theorem sum_calls (ao : Option Addr) (cap : Nat) (l : List UInt8) (w : World) (hl : l.length ≤ 140737488355328) (h : BAt w ao l) :
  Calls Tryz.prog 13 #[.slice ao l.length cap] w fun e w' => e = .returned (.int .u32 (sumB l)) ∧ w' = w := by
 go_enter Tryz.func13, Tryz.ntmps13
 go_wp2
 go_loopw [3, 8] (fun s i wr => ∃ k : Nat, k ≤ l.length ∧ i = .int .i64 k ∧ s = .int .u32 (crcs 4294967295 (l.take k) : Nat) ∧ wr = w) (fun _ i _ => l.length - (intOf i).toNat)
 case atStart => exact ⟨0, Nat.zero_le _, rfl, by simp [crcs], rfl⟩
 case round =>
  obtain ⟨k, hk, rfl, rfl, rfl⟩ := hrel
  obtain ⟨t, Ht⟩ : ∃ t, Hid (t = crcs 4294967295 (l.take k)) := ⟨_, rfl⟩
  have ht : t < 4294967296 := by rw [Ht.out]; exact crcs_lt _ (by omega)
  rw [← Ht.out]
  by_cases hlt : k < l.length
  ·obtain ⟨b, off, rfl, hc⟩ := h.at k hlt
   obtain ⟨c, Hc⟩ : ∃ c, Hid (c = l[k]'hlt) := ⟨_, rfl⟩
   rw [← Hc.out] at hc
   have hcl := byte_le c
   have hx := crc_in ht c
   have HN : Hid (crcs 4294967295 (l.take (k + 1)) = crcByte t c) := by
    show _ = _
    rw [list_take_snoc l k hlt, crcs_snoc, ← Ht.out, ← Hc.out]
   clear Ht Hc
   obtain ⟨x, Hx⟩ : ∃ x, Hid (x = t ^^^ c.toNat) := ⟨_, rfl⟩
   have hxl : x < 4294967296 := by rw [Hx.out]; exact crcX_lt ht c
   rw [← Hx.out] at hx
   go_wp2
   clear hx hc
   go_loopw [3, 16] (fun s j wr' => ∃ m : Nat, m ≤ 8 ∧ j = .int .i64 m ∧ s = .int .u32 (crcN m x : Nat) ∧ wr' = wr) (fun _ j _ => 8 - (intOf j).toNat)
   case atStart => exact ⟨0, Nat.zero_le _, rfl, rfl, rfl⟩
   case round =>
    obtain ⟨m, hm, rfl, rfl, rfl⟩ := hrel
    obtain ⟨y, Hy⟩ : ∃ y, Hid (y = crcN m x) := ⟨_, rfl⟩
    have hy : y < 4294967296 := by rw [Hy.out]; exact crcN_lt hxl m
    rw [← Hy.out]
    have hst := crc_step hy
    by_cases hm8 : m < 8
    ·go_wp2
     go_roundw
     case rel => exact ⟨m + 1, by omega, by go_num, by rw [show crcN (m + 1) x = crcBit y from by rw [Hy.out]; rfl], by trivial⟩
     case measure => simp [intOf]; omega
    ·obtain rfl : m = 8 := by omega
     have HE : Hid (y = crcByte t c) := by show _ = _; rw [Hy.out, Hx.out]; rfl
     go_wp2
     go_roundw
     case rel => exact ⟨k + 1, by omega, by go_num, by rw [HN.out, HE.out], by trivial⟩
     case measure => simp [intOf]; omega
  ·have HE : Hid (t = crcs 4294967295 l) := by show _ = _; rw [Ht.out, List.take_of_length_le (by omega)]
   have HO : Hid (bits .xor .u32 IntKind.u32.max (t : Int) = ((4294967295 - t : Nat) : Int)) := crc_out ht
   go_wp2
   go_ret
   refine ⟨?_, rfl⟩
   show Ending.returned (.int .u32 (bits .xor .u32 IntKind.u32.max (t : Int))) = _
   rw [HO.out, HE.out]
   rfl
end Go.Proofs.YthgcnmilaifkoaaGreatDoor
