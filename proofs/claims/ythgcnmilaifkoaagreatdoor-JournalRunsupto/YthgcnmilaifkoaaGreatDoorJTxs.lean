import Derived.Test.YthgcnmilaifkoaaGreatDoorJPayOf
import Derived.Test.YthgcnmilaifkoaaGreatDoorJPay
import Derived.Test.YthgcnmilaifkoaaGreatDoorKLaw
import Derived.Test.YthgcnmilaifkoaaGreatDoorJOdd
import Derived.Laws.BytesArg
import Derived.Laws.IdiomStrings
import Derived.Test.YthgcnmilaifkoaaGreatDoorRcCopyS
/- Layer 13 (journal): frames, plain: what payloadOf says of them, whole or with a byte changed. -/
namespace Go.Proofs.YthgcnmilaifkoaaGreatDoor
open Go.RowKit
set_option linter.unusedVariables false

def laidF (p S more : List UInt8) : List UInt8 := [77] ++ big 4 p.length ++ p ++ S ++ more
theorem laidF_length (p S more : List UInt8) (hS : S.length = 4) : (laidF p S more).length = p.length + 9 + more.length := by
 simp [laidF, big_length, hS]; omega
theorem laidF_drop1 (p S more : List UInt8) : (laidF p S more).drop 1 = big 4 p.length ++ (p ++ (S ++ more)) := by simp [laidF]
theorem laidF_drop5 (p S more : List UInt8) : (laidF p S more).drop 5 = p ++ (S ++ more) := by
 rw [show (5 : Nat) = 1 + 4 from rfl, ← List.drop_drop, laidF_drop1]
 exact List.drop_left' (big_length 4 _)
theorem laidF_len {p S more : List UInt8} (hp : p.length ≤ 131072) : lenB (laidF p S more) = p.length := by
 unfold lenB
 rw [laidF_drop1, List.take_left' (big_length 4 _)]
 have := unbig_big 4 (p.length : Int) (by omega) (by omega)
 omega
theorem laidF_pay {p S more : List UInt8} (hp : p.length ≤ 131072) : payP (laidF p S more) = p := by
 unfold payP
 rw [laidF_len hp, laidF_drop5]
 exact List.take_left' rfl
theorem laidF_sum {p S more : List UInt8} (hp : p.length ≤ 131072) (hS : S.length = 4) : payS (laidF p S more) = S := by
 unfold payS
 rw [laidF_len hp, laidF_drop5, List.drop_left' rfl]
 exact List.take_left' hS
theorem laidF_err {p S more : List UInt8} (hp : p.length ≤ 131072) (hS : S.length = 4) : payE (laidF p S more) = if unbig S ≠ sumB p then 132 else 0 := by
 have hl := laidF_length p S more hS
 unfold payE
 rw [laidF_len hp, laidF_pay hp, laidF_sum hp hS]
 rw [if_neg (by omega), if_neg (by simp [laidF]), if_neg (by omega), if_neg (by omega), if_neg (by omega)]
theorem sum_back (p : List UInt8) : unbig (big 4 (sumB p)) = sumB p := by
 have h := sumB_lt p
 have := unbig_big 4 (sumB p : Int) (by omega) (by omega)
 omega
theorem frame_laid (p : List UInt8) (more : List UInt8) : frameB p ++ more = laidF p (big 4 (sumB p)) more := rfl
theorem frame_err {p more : List UInt8} (hp : p.length ≤ 131072) : payE (frameB p ++ more) = 0 := by
 rw [frame_laid, laidF_err hp (big_length 4 _), sum_back, if_neg (by simp)]
theorem frame_pay {p more : List UInt8} (hp : p.length ≤ 131072) : payP (frameB p ++ more) = p := by
 rw [frame_laid, laidF_pay hp]
end Go.Proofs.YthgcnmilaifkoaaGreatDoor

/- Layer 13 (journal): the reader, plain and in memory: take, number, small, text. -/
namespace Go.Proofs.YthgcnmilaifkoaaGreatDoor
open Go.RowKit
set_option linter.unusedVariables false

/-- What is left, and whether something was odd. -/
abbrev Rd := List UInt8 × Bool
def tkB (k : Nat) (s : Rd) : List UInt8 := if k ≤ s.1.length then s.1.take k else []
def tkS (k : Nat) (s : Rd) : Rd := if k ≤ s.1.length then (s.1.drop k, s.2) else (s.1, true)
def smlB (s : Rd) : Nat := unbig (tkB 1 s)
def txB (s : Rd) : List UInt8 := tkB (smlB s) (tkS 1 s)
def txS (s : Rd) : Rd := tkS (smlB s) (tkS 1 s)
theorem tkB_len (k : Nat) (s : Rd) : (tkB k s).length ≤ k := by
 unfold tkB
 split
 ·rw [List.length_take]; omega
 ·exact Nat.zero_le _
theorem tkS_len (k : Nat) (s : Rd) : (tkS k s).1.length ≤ s.1.length := by
 unfold tkS
 split
 ·simp
 ·exact Nat.le_refl _
theorem unbig_le (l : List UInt8) (k : Nat) (h : l.length ≤ k) : unbig l < 256 ^ k := Nat.lt_of_lt_of_le (unbig_lt l.length l rfl) (Nat.pow_le_pow_right (by decide) h)
theorem smlB_lt (s : Rd) : smlB s < 256 := unbig_le _ 1 (tkB_len 1 s)

/-- The reader in memory. -/
structure RdAt (w : World) (rb : Nat) (s : Rd) : Prop where
 mem : ∃ b off cap, Blk w rb #[.slice (some ⟨b, off, none⟩) s.1.length cap, .bool s.2] 117 ∧ s.1.length ≤ cap ∧ BAt w (some ⟨b, off, none⟩) s.1 ∧ b < rb
theorem bytes_at {w w' : World} {b off : Nat} {l : List UInt8} (h : BAt w (some ⟨b, off, none⟩) l) (hb : w'.heap[b]? = w.heap[b]?) : BAt w' (some ⟨b, off, none⟩) l := by
 intro hne
 obtain ⟨b', off', ha, hc⟩ := h hne
 injection ha with ha
 injection ha with e1 e2
 subst e1 e2
 refine ⟨_, _, rfl, fun j v hj => ?_⟩
 have := hc j v hj
 simp only [World.cell?] at this ⊢
 rw [hb]
 exact this
theorem bytes_off {w : World} {rb b off : Nat} {l : List UInt8} (h : BAt w (some ⟨b, off, none⟩) l) (hb : b < rb) (i : Nat) (u : Value) : BAt (w.setCell ⟨rb, i, none⟩ u) (some ⟨b, off, none⟩) l :=
 bytes_at h (heap_setCell_other _ _ _ _ (by show b ≠ rb; omega))
/-- What lies no higher than the reader stays: the reader stays. -/
theorem RdAt.keep {w w' : World} {rb : Nat} {s : Rd} (h : RdAt w rb s) (hb : Below (rb + 1) w w') : RdAt w' rb s := by
 obtain ⟨b, off, cap, h1, h2, h3, h4⟩ := h.mem
 exact ⟨b, off, cap, (hb.block _ (by omega)).trans h1, h2, bytes_at h3 (hb.block _ (by omega)), h4⟩
theorem RdAt.below {w w' : World} {rb : Nat} {s : Rd} (h : RdAt w rb s) (hb : Below w.heap.size w w') : RdAt w' rb s := by
 obtain ⟨b, off, cap, h1, h2, h3, h4⟩ := h.mem
 exact ⟨b, off, cap, h1.below hb, h2, h3.below hb, h4⟩
theorem grown_set {w : World} {rb : Nat} {i : Nat} {u : Value} (h : rb < w.heap.size) : w.grownBy (w.setCell ⟨rb, i, none⟩ u) (some rb) :=
 ⟨rfl, rfl, rfl, by rw [World.size_setCell]; exact Nat.le_refl _, fun k hk hne => heap_setCell_other _ _ _ _ (fun e => hne (by rw [e]))⟩
theorem grown_below {w w' : World} {r : Option Nat} (hb : Below w.heap.size w w') : w.grownBy w' r := ⟨hb.os, hb.tape, hb.output, hb.size, fun k hk _ => hb.block k hk⟩
theorem grown_trans {a b c : World} {r : Nat} (h : a.grownBy b (some r)) (k : b.grownBy c (some r)) : a.grownBy c (some r) := grownBy_trans h k fun i hi => .inl hi
theorem RdAt.lt {w : World} {rb : Nat} {s : Rd} (h : RdAt w rb s) : rb < w.heap.size := by
 obtain ⟨b, off, cap, h1, _⟩ := h.mem
 exact h1.lt
theorem subTo_runI (b off n cap m : Nat) (h : m ≤ n) (hn : n ≤ cap) (W : World) : (Instr.slice 50 (.slice (some ⟨b, off, none⟩) n cap) none (some (.int .i64 (m : Int))) none).run Tryz.prog W = .ok (subV b off 0 m cap) W := by
 unfold subV
 have h1 : (m : Int) ≤ (n : Int) := by omega
 have h2 : (m : Int) ≤ (cap : Int) := by omega
 by_cases hc : cap = 0
 ·subst hc
  obtain rfl : n = 0 := by omega
  obtain rfl : m = 0 := by omega
  go_simp
 ·rw [if_neg hc]
  go_simp
theorem subFrom_runI (b off n cap m : Nat) (h : m ≤ n) (hn : n ≤ cap) (W : World) : (Instr.slice 50 (.slice (some ⟨b, off, none⟩) n cap) (some (.int .i64 (m : Int))) none none).run Tryz.prog W = .ok (subV b off m n cap) W := by
 unfold subV
 have h1 : (m : Int) ≤ (n : Int) := by omega
 have h2 : (n : Int) ≤ (cap : Int) := by omega
 by_cases hc : cap = m
 ·subst hc
  obtain rfl : n = cap := by omega
  go_simp
 ·rw [if_neg hc]
  go_simp
end Go.Proofs.YthgcnmilaifkoaaGreatDoor

/- Layer 13 (journal): take, number, small, text of the reader. -/
namespace Go.Proofs.YthgcnmilaifkoaaGreatDoor
open Go.RowKit
set_option linter.unusedVariables false

/-- What a read leaves: the reader behind it; nothing but the reader's block was written. -/
structure Rdd (w : World) (rb : Nat) (s : Rd) (w' : World) : Prop where
 at' : RdAt w' rb s
 grown : w.grownBy w' (some rb)
theorem Rdd.trans {a b c : World} {rb : Nat} {s t : Rd} (h : Rdd a rb s b) (k : Rdd b rb t c) : Rdd a rb t c := ⟨k.at', grown_trans h.grown k.grown⟩

def TakeA (w : World) (rb k : Nat) (s : Rd) (e : Ending) (w' : World) : Prop := ∃ ta tc, e = .returned (.slice ta (tkB k s).length tc) ∧ BAt w' ta (tkB k s) ∧ (ta = none ∧ tkB k s = [] ∨ ∃ x y, ta = some ⟨x, y, none⟩) ∧ Rdd w rb (tkS k s) w'

set_option maxRecDepth 100000 in
set_option maxHeartbeats 1000000 in
theorem take_calls (rb : Nat) (s : Rd) (k : Nat) (w : World) (hl : s.1.length ≤ 140737488355328) (hk : k ≤ 140737488355328) (h : RdAt w rb s) :
  Calls Tryz.prog 72 #[.pointer (some ⟨rb, 0, none⟩), .int .i64 (k : Int)] w fun e w' => TakeA w rb k s e w' := by
 obtain ⟨L, od⟩ := s
 obtain ⟨b, off, cap, hblk, hcap, hbt, hbrb⟩ := h.mem
 simp only at hl hblk hcap hbt ⊢
 have c0 : w.cell? ⟨rb, 0, none⟩ = some (.slice (some ⟨b, off, none⟩) L.length cap) := hblk.cell 0 rfl
 have c1 : w.cell? ⟨rb, 1, none⟩ = some (.bool od) := hblk.cell 1 rfl
 have f0 := hblk.open 0
 have f1 := hblk.open 1
 have hlt := hblk.lt
 by_cases hle : k ≤ L.length
 ·have e1 : tkB k (L, od) = L.take k := if_pos hle
  have e2 : tkS k (L, od) = (L.drop k, od) := if_pos hle
  have q : ¬ (L.length : Int) < (k : Int) := by omega
  have htl : (L.take k).length = k := by rw [List.length_take]; omega
  obtain ⟨ta, tc, e3, h3, -, hta⟩ := subV_formS hbt (lo := 0) (hi := k) (cap := cap) (by omega) hle hcap
  obtain ⟨ra, rc, e4, h4, hrc, hra⟩ := subV_formS hbt (lo := k) (hi := L.length) (cap := cap) hle (Nat.le_refl _) hcap
  have hrt := fun W => subTo_runI b off L.length cap k hle hcap W
  have hrr := fun W => subFrom_runI b off L.length cap k hle hcap W
  rw [e3] at hrt
  rw [e4] at hrr
  rw [Nat.sub_zero] at hrt h3
  rw [List.drop_zero] at h3
  rw [List.take_of_length_le (by simp)] at h4
  obtain ⟨ry, rfl⟩ := hra
  obtain ⟨ty, rfl⟩ := hta
  have HF : Hid (TakeA w rb k (L, od) (.returned (.slice (some ⟨b, ty, none⟩) k tc)) (w.setCell ⟨rb, 0, none⟩ (.slice (some ⟨b, ry, none⟩) (L.length - k) rc))) := by
   refine ⟨some ⟨b, ty, none⟩, tc, by rw [e1, htl], by rw [e1]; exact bytes_off h3 hbrb 0 _, .inr ⟨b, ty, rfl⟩, ?_⟩
   rw [e2]
   refine ⟨⟨b, ry, rc, ?_, by simpa using hrc, bytes_off h4 hbrb 0 _, hbrb⟩, grown_set hlt⟩
   have := hblk.put 0 (.slice (some ⟨b, ry, none⟩) (L.length - k) rc)
   simpa using this
  clear h3 h4 hbt e1 e2 e3 e4 htl
  obtain ⟨r, Hr⟩ : ∃ x, Hid (x = L.length - k) := ⟨_, rfl⟩
  obtain ⟨n, Hn⟩ : ∃ x, Hid (x = L.length) := ⟨_, rfl⟩
  rw [← Hr.out] at hrr HF hrc
  rw [← Hn.out] at hrr hrt c0 q hl hle
  clear hblk hcap h
  go_enter Tryz.func72, Tryz.ntmps72
  go_wp2
  go_ret
  exact HF.out
 ·have e1 : tkB k (L, od) = [] := if_neg hle
  have e2 : tkS k (L, od) = (L, true) := if_neg hle
  have q : (L.length : Int) < (k : Int) := by omega
  have HF : Hid (TakeA w rb k (L, od) (.returned (.slice none 0 0)) (w.setCell ⟨rb, 1, none⟩ (.bool true))) := by
   refine ⟨none, 0, by rw [e1]; rfl, by rw [e1]; exact BAt.nil _ _, .inl ⟨rfl, e1⟩, ?_⟩
   rw [e2]
   refine ⟨⟨b, off, cap, ?_, hcap, bytes_off hbt hbrb 1 _, hbrb⟩, grown_set hlt⟩
   have := hblk.put 1 (.bool true)
   simpa using this
  obtain ⟨n, Hn⟩ : ∃ x, Hid (x = L.length) := ⟨_, rfl⟩
  rw [← Hn.out] at c0 q hl hle
  clear hblk hcap h hbt e1 e2
  go_enter Tryz.func72, Tryz.ntmps72
  go_wp2
  go_ret
  exact HF.out

theorem conv_text {w : World} {ta : Option Addr} {tc : Nat} {B : List UInt8} (h : BAt w ta B) (hf : ta = none ∧ B = [] ∨ ∃ x y, ta = some ⟨x, y, none⟩) : (convert 50 9 (.slice ta B.length tc)).run Tryz.prog w = .ok (.string ⟨B.toArray⟩) w := by
 rcases hf with ⟨rfl, rfl⟩ | ⟨x, y, rfl⟩
 ·exact run_convert_bytes_nil w _ _ Tryz.underlying50 Tryz.underlying5 _ _ _ Tryz.underlying9
 ·refine run_convert_bytes_back w _ _ _ _ _ B Tryz.underlying50 Tryz.underlying5 Tryz.underlying9 ?_
  intro j hj
  obtain ⟨b, off, e, hc⟩ := h.at j hj
  injection e with e
  injection e with e1 e2
  subst e1 e2
  rw [Addr.add_mid]
  exact hc

def NumA (w : World) (rb k : Nat) (s : Rd) (e : Ending) (w' : World) : Prop := e = .returned (.int .u64 (unbig (tkB k s) : Nat)) ∧ Rdd w rb (tkS k s) w'
set_option maxRecDepth 100000 in
set_option maxHeartbeats 1000000 in
theorem number_calls (rb : Nat) (s : Rd) (k : Nat) (w : World) (hl : s.1.length ≤ 140737488355328) (hk : k ≤ 8) (h : RdAt w rb s) :
  Calls Tryz.prog 62 #[.pointer (some ⟨rb, 0, none⟩), .int .i64 (k : Int)] w fun e w' => NumA w rb k s e w' := by
 have HC : Hid (Calls Tryz.prog 72 #[.pointer (some ⟨rb, 0, none⟩), .int .i64 (k : Int)] w fun e w' => TakeA w rb k s e w') := take_calls rb s k w hl (by omega) h
 have HL : Hid ((tkB k s).length ≤ 8) := Nat.le_trans (tkB_len k s) hk
 clear h hl
 go_enter Tryz.func62, Tryz.ntmps62
 go_wp2_with fail
 refine HC.out.mono ?_
 rintro e w1 ⟨ta, tc, rfl, hb, -, hr⟩
 have HR : Hid (Calls Tryz.prog 61 #[.slice ta (tkB k s).length tc] w1 fun e w' => e = .returned (.int .u64 (unbig (tkB k s) : Nat)) ∧ w' = w1) := readNumber_calls ta tc (tkB k s) w1 HL.out hb
 have HRd : Hid (Rdd w rb (tkS k s) w1) := hr
 clear HC hb hr
 obtain ⟨n, Hn⟩ : ∃ x, Hid (x = (tkB k s).length) := ⟨_, rfl⟩
 rw [← Hn.out] at HR ⊢
 go_wp2_with fail
 refine HR.out.mono ?_
 rintro e w2 ⟨rfl, rfl⟩
 go_wp2
 go_ret
 exact ⟨rfl, HRd.out⟩
def SmlA (w : World) (rb : Nat) (s : Rd) (e : Ending) (w' : World) : Prop := e = .returned (.int .i64 (smlB s : Nat)) ∧ Rdd w rb (tkS 1 s) w'
set_option maxRecDepth 100000 in
set_option maxHeartbeats 1000000 in
theorem small_calls (rb : Nat) (s : Rd) (w : World) (hl : s.1.length ≤ 140737488355328) (h : RdAt w rb s) :
  Calls Tryz.prog 63 #[.pointer (some ⟨rb, 0, none⟩)] w fun e w' => SmlA w rb s e w' := by
 have HC : Hid (Calls Tryz.prog 62 #[.pointer (some ⟨rb, 0, none⟩), .int .i64 1] w fun e w' => NumA w rb 1 s e w') := number_calls rb s 1 w hl (by omega) h
 have hs := smlB_lt s
 obtain ⟨n, Hn⟩ : ∃ x, Hid (x = smlB s) := ⟨_, rfl⟩
 have HN : Hid (unbig (tkB 1 s) = n) := Hn.out.symm
 rw [← Hn.out] at hs
 go_enter Tryz.func63, Tryz.ntmps63
 go_wp2_with fail
 refine HC.out.mono ?_
 rintro e w1 ⟨rfl, hr⟩
 rw [HN.out]
 have HRd : Hid (Rdd w rb (tkS 1 s) w1) := hr
 clear hr HC
 go_wp2
 go_ret
 exact ⟨by rw [← Hn.out]; rfl, HRd.out⟩
def TxtA (w : World) (rb : Nat) (s : Rd) (e : Ending) (w' : World) : Prop := e = .returned (.string ⟨(txB s).toArray⟩) ∧ Rdd w rb (txS s) w'
set_option maxRecDepth 100000 in
set_option maxHeartbeats 1000000 in
theorem text_calls (rb : Nat) (s : Rd) (w : World) (hl : s.1.length ≤ 140737488355328) (h : RdAt w rb s) :
  Calls Tryz.prog 74 #[.pointer (some ⟨rb, 0, none⟩)] w fun e w' => TxtA w rb s e w' := by
 have HC : Hid (Calls Tryz.prog 63 #[.pointer (some ⟨rb, 0, none⟩)] w fun e w' => SmlA w rb s e w') := small_calls rb s w hl h
 have hs := smlB_lt s
 have HL : Hid ((tkS 1 s).1.length ≤ 140737488355328) := Nat.le_trans (tkS_len 1 s) hl
 clear h
 go_enter Tryz.func74, Tryz.ntmps74
 go_wp2_with fail
 refine HC.out.mono ?_
 rintro e w1 ⟨rfl, hr⟩
 have HT : Hid (Calls Tryz.prog 72 #[.pointer (some ⟨rb, 0, none⟩), .int .i64 (smlB s : Nat)] w1 fun e w' => TakeA w1 rb (smlB s) (tkS 1 s) e w') := take_calls rb (tkS 1 s) (smlB s) w1 HL.out (by omega) hr.at'
 have HR1 : Hid (Rdd w rb (tkS 1 s) w1) := hr
 clear hr HC
 obtain ⟨n, Hn⟩ : ∃ x, Hid (x = smlB s) := ⟨_, rfl⟩
 rw [← Hn.out] at hs HT ⊢
 go_wp2_with fail
 refine HT.out.mono ?_
 rintro e w2 ⟨ta, tc, rfl, hb, hf, hr⟩
 have HR2 : Hid (Rdd w rb (txS s) w2) := by
  unfold txS
  rw [← Hn.out]
  exact HR1.out.trans hr
 have HTX : Hid (txB s = tkB n (tkS 1 s)) := by show _ = _; unfold txB; rw [← Hn.out]
 obtain ⟨B, HB⟩ : ∃ x, Hid (x = tkB n (tkS 1 s)) := ⟨_, rfl⟩
 rw [← HB.out] at hb hf HTX ⊢
 clear hr HT HB HR1
 have hcv := conv_text (tc := tc) hb hf
 clear hb hf
 obtain ⟨m, Hm⟩ : ∃ x, Hid (x = B.length) := ⟨_, rfl⟩
 rw [← Hm.out] at hcv ⊢
 clear Hm
 go_wp2
 go_ret
 exact ⟨by rw [HTX.out]; rfl, HR2.out⟩

/-- n texts, one behind the other. -/
def txsP : Nat → Rd → List ByteArray × Rd
 | 0, s => ([], s)
 | n + 1, s => ((txsP n s).1 ++ [⟨(txB (txsP n s).2).toArray⟩], txS (txsP n s).2)
theorem txS_len (s : Rd) : (txS s).1.length ≤ s.1.length := Nat.le_trans (tkS_len _ _) (tkS_len _ _)
theorem txsP_len : ∀ (n : Nat) (s : Rd), (txsP n s).1.length = n ∧ (txsP n s).2.1.length ≤ s.1.length
 | 0, s => ⟨rfl, Nat.le_refl _⟩
 | n + 1, s => by
  have ih := txsP_len n s
  simp only [txsP, List.length_append, List.length_cons, List.length_nil]
  exact ⟨by omega, Nat.le_trans (txS_len _) ih.2⟩
def textsP (s : Rd) : List ByteArray × Rd := txsP (smlB s) (tkS 1 s)
def TxsA (w : World) (rb : Nat) (s : Rd) (e : Ending) (w' : World) : Prop := ∃ v, e = .returned v ∧ w'.ownsRow w.heap.size 9 1 v (textsP s).1.length ((textsP s).1.map Value.string) ∧ Rdd w rb (textsP s).2 w'
theorem row_grown {w w' : World} {rb : Nat} {B : Nat} {e T : TypeId} {size : Nat} {v : Value} {n : Nat} {l : List Value} {cs : Array Value} (h : w.ownsRow B e size v n l) (hb : Blk w rb cs T) (hT : T ≠ e) (hg : w.grownBy w' (some rb)) : w'.ownsRow B e size v n l :=
 World.ownsRow.kept (row := some rb) h hg (by
  have h2 : v.ownBlock ≠ some rb := row_ne h hb (Ne.symm hT)
  cases hv : v.ownBlock with
  | none => simp
  | some k => rw [hv] at h2; simpa using h2)
theorem RdAt.blk {w : World} {rb : Nat} {s : Rd} (h : RdAt w rb s) : ∃ cs, Blk w rb cs 117 := by
 obtain ⟨b, off, cap, h1, _⟩ := h.mem
 exact ⟨_, h1⟩
/-- A row of the call's own grows beside the reader. -/
theorem Rdd.grow {w w' w'' : World} {rb : Nat} {s : Rd} {B : Nat} {e : TypeId} {size : Nat} {v v' : Value} {n : Nat} {l : List Value} (h : Rdd w rb s w') (hr : rb < w.heap.size) (ho : w'.ownsRow B e size v n l) (hB : w.heap.size ≤ B) (hg : Grew w' w'' v v') : Rdd w rb s w'' :=
 ⟨h.at'.keep (hg.toBelow (by have := h.grown.size; omega) fun k hk => by have := (World.ownsRow.lt ho k hk).1; omega), grownBy_trans h.grown hg.grown fun i hi => .inr (Nat.le_trans hB (World.ownsRow.lt ho i hi).1)⟩
theorem Rdd.below {w w' w'' : World} {rb : Nat} {s : Rd} (h : Rdd w rb s w') (hb : Below w'.heap.size w' w'') : Rdd w rb s w'' := ⟨h.at'.below hb, grownBy_trans h.grown (grown_below (r := some rb) hb) fun i hi => .inl hi⟩
end Go.Proofs.YthgcnmilaifkoaaGreatDoor

/- Layer 13 (journal): texts and cas of the reader. -/
namespace Go.Proofs.YthgcnmilaifkoaaGreatDoor
open Go.RowKit
set_option linter.unusedVariables false

set_option maxRecDepth 100000 in
set_option maxHeartbeats 2000000 in
theorem texts_calls (rb : Nat) (s : Rd) (w : World) (hl : s.1.length ≤ 140737488355328) (h : RdAt w rb s) :
  Calls Tryz.prog 75 #[.pointer (some ⟨rb, 0, none⟩)] w fun e w' => TxsA w rb s e w' := by
 have HC : Hid (Calls Tryz.prog 63 #[.pointer (some ⟨rb, 0, none⟩)] w fun e w' => SmlA w rb s e w') := small_calls rb s w hl h
 have hs := smlB_lt s
 have hrb := h.lt
 have HL : Hid ((tkS 1 s).1.length ≤ 140737488355328) := Nat.le_trans (tkS_len 1 s) hl
 clear h
 go_enter Tryz.func75, Tryz.ntmps75
 go_wp2_with fail
 refine HC.out.mono ?_
 rintro e w1 ⟨rfl, hr⟩
 have HR1 : Hid (Rdd w rb (tkS 1 s) w1) := hr
 clear hr HC
 obtain ⟨n, Hn⟩ : ∃ x, Hid (x = smlB s) := ⟨_, rfl⟩
 rw [← Hn.out] at hs ⊢
 obtain ⟨s1, Hs1⟩ : ∃ x, Hid (x = tkS 1 s) := ⟨_, rfl⟩
 rw [← Hs1.out] at HL HR1
 go_wp2_with fail
 go_loopw [3, 6] (fun x i wr => ∃ k : Nat, k ≤ n ∧ i = .int .i64 k ∧ Hid (wr.ownsRow w.heap.size 9 1 x k ((txsP k s1).1.map Value.string)) ∧ Hid (Rdd w rb (txsP k s1).2 wr)) (fun _ i _ => n - (intOf i).toNat)
 case atStart => exact ⟨0, Nat.zero_le _, rfl, World.ownsRow_nil _ _ _ _, HR1⟩
 case round =>
  obtain ⟨k, hk, rfl, HO, HR⟩ := hrel
  clear HR1
  by_cases hlt : k < n
  ·have HTC : Hid (Calls Tryz.prog 74 #[.pointer (some ⟨rb, 0, none⟩)] wr fun e w' => TxtA wr rb (txsP k s1).2 e w') := text_calls rb (txsP k s1).2 wr (Nat.le_trans (txsP_len k s1).2 HL.out) HR.out.at'
   go_wp2_with fail
   refine HTC.out.mono ?_
   rintro e w2 ⟨rfl, hr2⟩
   have HR2 : Hid (Rdd w rb (txsP (k + 1) s1).2 w2) := HR.out.trans hr2
   obtain ⟨cs0, hbk⟩ := HR.out.at'.blk
   have ho2 := row_grown HO.out hbk (by decide) hr2.grown
   have HO2 : Hid _ := ho2
   clear ho2 hbk
   obtain ⟨tx, Htx⟩ : ∃ x : ByteArray, Hid (x = ⟨(txB (txsP k s1).2).toArray⟩) := ⟨_, rfl⟩
   rw [← Htx.out]
   have HMP : Hid ((txsP (k + 1) s1).1.map Value.string = (txsP k s1).1.map Value.string ++ [.string tx]) := by
    show _ = _
    rw [Htx.out]
    simp [txsP]
   clear hr2 HTC HO HR Htx
   have hsz : w.heap.size ≤ w2.heap.size := HR2.out.grown.size
   have HO2a : Hid (∀ u, w2.ownsRow w.heap.size 9 1 u k ((txsP k s1).1.map Value.string) → (w2.alloc (.cells #[.string tx] 9)).ownsRow w.heap.size 9 1 u k ((txsP k s1).1.map Value.string)) := fun u hu => row_below hu (below_new w2 _)
   have HCA : Hid (CellsAt (w2.alloc (.cells #[.string tx] 9)) (some ⟨w2.heap.size, 0, none⟩) [.string tx]) := by
    intro _
    refine ⟨w2.heap.size, 0, rfl, fun j u hj => ?_⟩
    rw [Nat.zero_add, World.cell?_alloc_mark]
    simpa using hj
   go_wp2_with (at_builtin; refine append_src _ rfl (.tmp 8) (.tmp 11) 39 9 _ 1 16 Tryz.underlying39 info_str rfl (by decide) rfl w.heap.size _ k _ rfl (HO2a.out _ HO2.out) (some ⟨w2.heap.size, 0, none⟩) 1 1 [.string tx] rfl rfl HCA.out (by intro u hu; simp at hu; subst hu; rfl) (by unfold maxLen; omega) (by omega) (by simp; omega) ?_)
   intro v3 w3 ho3 hg3
   have hg3' := hg3.ofAlloc
   have HR3 : Hid (Rdd w rb (txsP (k + 1) s1).2 w3) := HR2.out.grow hrb HO2.out (Nat.le_refl _) hg3'
   have HO3 : Hid (w3.ownsRow w.heap.size 9 1 v3 (k + 1) ((txsP (k + 1) s1).1.map Value.string)) := by rw [HMP.out]; exact ho3
   clear ho3 hg3 hg3' HO2 HO2a HCA HMP HR2 hsz
   go_wp2
   go_roundw
   case rel => exact ⟨k + 1, by omega, by go_num, HO3, HR3⟩
   case measure => simp [intOf]; omega
  ·obtain rfl : k = n := by omega
   have HF : Hid (textsP s = txsP k s1) := by show _ = _; unfold textsP; rw [← Hn.out, ← Hs1.out]
   have hlen := (txsP_len k s1).1
   have HF2 : Hid (∀ u, wr.ownsRow w.heap.size 9 1 u k ((txsP k s1).1.map Value.string) → TxsA w rb s (.returned u) wr) := fun u hu => ⟨u, rfl, by rw [HF.out, hlen]; exact hu, by rw [HF.out]; exact HR.out⟩
   clear hlen
   go_wp2
   go_ret
   exact HF2.out _ HO.out

def casP (s : Rd) : (Bool × Nat) × Rd := if smlB s = 0 then ((false, 0), tkS 1 s) else if smlB s = 1 then ((true, unbig (tkB 8 (tkS 1 s))), tkS 8 (tkS 1 s)) else ((false, 0), ((tkS 1 s).1, true))
def CasA (w : World) (rb : Nat) (s : Rd) (e : Ending) (w' : World) : Prop := e = .returned (.tuple #[.bool (casP s).1.1, .int .u64 ((casP s).1.2 : Nat)]) ∧ Rdd w rb (casP s).2 w'
set_option maxRecDepth 100000 in
set_option maxHeartbeats 2000000 in
theorem cas_calls (rb : Nat) (s : Rd) (w : World) (hl : s.1.length ≤ 140737488355328) (h : RdAt w rb s) :
  Calls Tryz.prog 73 #[.pointer (some ⟨rb, 0, none⟩)] w fun e w' => CasA w rb s e w' := by
 have HC : Hid (Calls Tryz.prog 63 #[.pointer (some ⟨rb, 0, none⟩)] w fun e w' => SmlA w rb s e w') := small_calls rb s w hl h
 have hs := smlB_lt s
 have HL : Hid ((tkS 1 s).1.length ≤ 140737488355328) := Nat.le_trans (tkS_len 1 s) hl
 clear h
 obtain ⟨n, Hn⟩ : ∃ x, Hid (x = smlB s) := ⟨_, rfl⟩
 by_cases h0 : n = 0
 ·have HE : Hid (casP s = ((false, 0), tkS 1 s)) := by show _ = _; unfold casP; rw [← Hn.out, if_pos h0]
  go_enter Tryz.func73, Tryz.ntmps73
  go_wp2_with fail
  refine HC.out.mono ?_
  rintro e w1 ⟨rfl, hr⟩
  rw [← Hn.out, h0]
  have HR1 : Hid (Rdd w rb (tkS 1 s) w1) := hr
  clear hr HC
  go_wp2
  go_ret2
  exact ⟨by rw [HE.out]; rfl, by rw [HE.out]; exact HR1.out⟩
 by_cases h1 : n = 1
 ·have HE : Hid (casP s = ((true, unbig (tkB 8 (tkS 1 s))), tkS 8 (tkS 1 s))) := by show _ = _; unfold casP; rw [← Hn.out, if_neg h0, if_pos h1]
  go_enter Tryz.func73, Tryz.ntmps73
  go_wp2_with fail
  refine HC.out.mono ?_
  rintro e w1 ⟨rfl, hr⟩
  rw [← Hn.out, h1]
  have HR1 : Hid (Rdd w rb (tkS 1 s) w1) := hr
  have HN : Hid (Calls Tryz.prog 62 #[.pointer (some ⟨rb, 0, none⟩), .int .i64 8] w1 fun e w' => NumA w1 rb 8 (tkS 1 s) e w') := number_calls rb (tkS 1 s) 8 w1 HL.out (by omega) hr.at'
  clear hr HC
  go_wp2_with fail
  refine HN.out.mono ?_
  rintro e w2 ⟨rfl, hr⟩
  have HR2 : Hid (Rdd w rb (tkS 8 (tkS 1 s)) w2) := HR1.out.trans hr
  clear hr HN HR1
  obtain ⟨u, Hu⟩ : ∃ x, Hid (x = unbig (tkB 8 (tkS 1 s))) := ⟨_, rfl⟩
  rw [← Hu.out] at HE ⊢
  go_wp2
  go_ret2
  exact ⟨by rw [HE.out]; rfl, by rw [HE.out]; exact HR2.out⟩
 have HE : Hid (casP s = ((false, 0), ((tkS 1 s).1, true))) := by show _ = _; unfold casP; rw [← Hn.out, if_neg h0, if_neg h1]
 go_enter Tryz.func73, Tryz.ntmps73
 go_wp2_with fail
 refine HC.out.mono ?_
 rintro e w1 ⟨rfl, hr⟩
 rw [← Hn.out]
 have q0 : ((n : Int) == 0) = false := by simp; omega
 have q1 : ((n : Int) == 1) = false := by simp; omega
 obtain ⟨b, off, cap, hb1, hb2, hb3, hb4⟩ := hr.at'.mem
 have c1 : w1.cell? ⟨rb, 1, none⟩ = some (.bool (tkS 1 s).2) := hb1.cell 1 rfl
 have f1 := hb1.open 1
 have HR2 : Hid (Rdd w rb ((tkS 1 s).1, true) (w1.setCell ⟨rb, 1, none⟩ (.bool true))) := by
  refine ⟨⟨b, off, cap, ?_, hb2, bytes_off hb3 hb4 1 _, hb4⟩, grown_trans hr.grown (grown_set hb1.lt)⟩
  have := hb1.put 1 (.bool true)
  simpa using this
 clear hr HC hb1 hb2 hb3 h0 h1
 go_wp2
 go_ret2
 exact ⟨by rw [HE.out]; rfl, by rw [HE.out]; exact HR2.out⟩
end Go.Proofs.YthgcnmilaifkoaaGreatDoor
