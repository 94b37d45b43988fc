import Derived.Test.YtbhhjnbomhkdmaaGreatDoorSGenB
import Derived.Test.YtbhhjnbomhkdmaaGreatDoorChecked
import Derived.Laws.BitsAllLaws
import Derived.BigQuiet
import Derived.Deep.QuietTactic
/- Layer 13 (journal): bytes in memory. -/
namespace Go.Proofs.YtbhhjnbomhkdmaaGreatDoor
open Go.RowKit
set_option linter.unusedVariables false

/-- The bytes l lie one behind the other at the address. -/
def BAt (w : World) (ao : Option Addr) (l : List UInt8) : Prop := CellsAt w ao (bs l)
theorem BAt.below {w w' : World} {ao : Option Addr} {l : List UInt8} (h : BAt w ao l) (hb : Below w.heap.size w w') : BAt w' ao l := CellsAt.below h hb
theorem BAt.at {w : World} {ao : Option Addr} {l : List UInt8} (h : BAt w ao l) (k : Nat) (hk : k < l.length) : ∃ b off, ao = some ⟨b, off, none⟩ ∧ w.cell? ⟨b, off + k, none⟩ = some (.int .u8 (l[k].toNat : Int)) := by
 obtain ⟨b, off, ha, hc⟩ := h (fun e => by have := bs_length l; rw [e] at this; simp at this; omega)
 exact ⟨b, off, ha, hc k _ (by simp [bs, hk])⟩
theorem Own.bytes {w : World} {B : Nat} {ao : Option Addr} {cap : Nat} {l : List UInt8} (h : Own w B (.slice ao l.length cap) l) : BAt w ao l := row_cells h
theorem BAt.nil (w : World) (ao : Option Addr) : BAt w ao [] := fun h => absurd rfl h
theorem byte_le (c : UInt8) : (c.toNat : Int) ≤ 255 := by have := c.toNat_lt; omega
theorem list_take_snoc {α : Type} (l : List α) (k : Nat) (h : k < l.length) : l.take (k + 1) = l.take k ++ [l[k]] := List.take_succ_eq_append_getElem h
end Go.Proofs.YtbhhjnbomhkdmaaGreatDoor

/- append on a slice of bytes that the call made itself, as one step of a walk. -/
namespace Go.Proofs.YtbhhjnbomhkdmaaGreatDoor
open Go.RowKit
set_option linter.unusedVariables false

theorem info_u8 : (Tryz.prog.info? 5).map (fun i => (i.zero, i.size, i.bytes)) = some (some (.int .u8 0), 1, 1) := by kernel_rfl

theorem append_bytes (w : World) {ops : Array Oper} {rest : List Oper} {o : Oper} {a : Act} {Q : Exit → Act → World → Prop} (hgd : o.guard = none) (s x : Operand)
  (ho : o.op = .call { callee := .builtin .append, args := #[s, x], argTypes := #[22, 22] })
  (B : Nat) (v : Value) (l : List UInt8) (hs : a.eval s = v) (hown : Own w B v l)
  (ad : Addr) (m c : Nat) (news : List UInt8) (hx : a.eval x = .slice (some ad) m c) (hm : news.length = m) (hnews : ∀ j u, (bs news)[j]? = some u → w.cell? (ad.add j) = some u)
  (hlen : l.length + m ≤ 140737488355328) (hB : B ≤ w.heap.size)
  (h : ∀ v' w', Own w' B v' (l ++ news) → Grew w w' v v' → wpList Tryz.prog ops Q rest (a.put o.dst v') w') : wpList Tryz.prog ops Q (o :: rest) a w := by
 obtain ⟨i0, hi, hz0, hz1, hz2⟩ := info_parts info_u8
 subst hm
 refine wpList_append_grew w hgd s x 22 ho B 5 i0 (.int .u8 0) 1 1 Tryz.underlying22 hi hz0 hz1 hz2 rfl (by decide) v l.length (bs l) hs hown ad news.length c (bs news) hx (by simp [bs]) hnews (bs_one _) (by unfold maxLen; omega) (by omega) hB ?_
 intro v' w' h1 h2 _
 refine h v' w' ?_ h2
 unfold Own
 rw [bs_append, List.length_append]
 exact h1

/-- .. where what is appended is a literal that was laid right ahead of it. -/
theorem append_lit (W : World) {ops : Array Oper} {rest : List Oper} {o : Oper} {a : Act} {Q : Exit → Act → World → Prop} (hgd : o.guard = none) (s x : Operand)
  (ho : o.op = .call { callee := .builtin .append, args := #[s, x], argTypes := #[22, 22] })
  (B : Nat) (v : Value) (l : List UInt8) (hs : a.eval s = v) (news : List UInt8) (g m c : Nat) (cs : Array Value) (hx : a.eval x = .slice (some ⟨g, 0, none⟩) m c) (hm : news.length = m) (hc : cs = (bs news).toArray)
  (hg : g = W.heap.size) (hown : Own W B v l) (hlen : l.length + m ≤ 140737488355328) (hB : B ≤ W.heap.size)
  (h : ∀ v' w', Own w' B v' (l ++ news) → Grew W w' v v' → wpList Tryz.prog ops Q rest (a.put o.dst v') w') : wpList Tryz.prog ops Q (o :: rest) a (W.alloc (.cells cs 5)) := by
 subst hg hc
 exact append_bytes _ hgd s x ho B v l hs (hown.alloc _) ⟨W.heap.size, 0, none⟩ m c news hx hm (cells_new _ _ _) hlen (by simp; omega) fun v' w' h1 h2 => h v' w' h1 h2.ofAlloc

end Go.Proofs.YtbhhjnbomhkdmaaGreatDoor

/- Layer 13 (journal): numbers as bytes, the highest first: writeNumber, readNumber. -/
namespace Go.Proofs.YtbhhjnbomhkdmaaGreatDoor
open Go.RowKit
set_option linter.unusedVariables false

def byteOf (x : Int) : UInt8 := UInt8.ofNat (x % 256).toNat
theorem byteOf_val (x : Int) : ((byteOf x).toNat : Int) = x % 256 := by
 unfold byteOf
 rw [UInt8.toNat_ofNat']; omega
/-- The lowest k bytes of n, the highest first. -/
def big : Nat → Int → List UInt8
 | 0, _ => []
 | k + 1, n => big k (n / 256) ++ [byteOf n]
theorem big_length : ∀ (k : Nat) (n : Int), (big k n).length = k
 | 0, _ => rfl
 | k + 1, n => by simp [big, big_length k]
theorem pow_step (n : Int) (d : Nat) : n / 256 / 2 ^ (8 * d) = n / 2 ^ (8 * (d + 1)) := by
 rw [Int.ediv_ediv_of_nonneg (by omega), show 8 * (d + 1) = 8 + 8 * d by omega, Int.pow_add]
 rfl
theorem big_at : ∀ (s : Nat) (n : Int) (k : Nat), k < s → (big s n).take (k + 1) = (big s n).take k ++ [byteOf (n / 2 ^ (8 * (s - 1 - k)))]
 | 0, _, _, h => by omega
 | s + 1, n, k, h => by
  have hl := big_length s (n / 256)
  by_cases hk : k = s
  ·subst hk
   have e0 : k + 1 - 1 - k = 0 := by omega
   rw [e0]
   simp only [big, Nat.mul_zero, Int.pow_zero, Int.ediv_one]
   rw [List.take_of_length_le (by simp [hl]), List.take_append_of_le_length (by omega), List.take_of_length_le (by omega)]
  ·have ih := big_at s (n / 256) k (by omega)
   simp only [big]
   rw [List.take_append_of_le_length (by omega), List.take_append_of_le_length (by omega), ih, pow_step]
   rw [show s - 1 - k + 1 = s + 1 - 1 - k by omega]
/-- The number whose bytes those are. -/
def unbig (l : List UInt8) : Nat := l.foldl (fun n c => n * 256 + c.toNat) 0
theorem unbig_snoc (l : List UInt8) (c : UInt8) : unbig (l ++ [c]) = unbig l * 256 + c.toNat := by simp [unbig]
theorem unbig_lt : ∀ (k : Nat) (l : List UInt8), l.length = k → unbig l < 256 ^ k
 | 0, l, h => by
  obtain rfl := List.eq_nil_of_length_eq_zero h
  decide
 | k + 1, l, h => by
  rcases List.eq_nil_or_concat l with rfl | ⟨m, c, rfl⟩
  ·simp at h
  ·rw [List.concat_eq_append] at *
   rw [unbig_snoc]
   have := unbig_lt k m (by simp at h; omega)
   have := c.toNat_lt
   rw [Nat.pow_succ]
   omega
theorem big_unbig : ∀ (k : Nat) (l : List UInt8), l.length = k → big k (unbig l) = l
 | 0, l, h => by
  obtain rfl := List.eq_nil_of_length_eq_zero h
  rfl
 | k + 1, l, h => by
  rcases List.eq_nil_or_concat l with rfl | ⟨m, c, rfl⟩
  ·simp at h
  ·rw [List.concat_eq_append] at *
   have hm : m.length = k := by simp at h; omega
   rw [unbig_snoc]
   have := c.toNat_lt
   have e1 : ((unbig m * 256 + c.toNat : Nat) : Int) / 256 = (unbig m : Int) := by omega
   have e2 : byteOf ((unbig m * 256 + c.toNat : Nat) : Int) = c := by
    apply UInt8.toNat_inj.1
    have := byteOf_val ((unbig m * 256 + c.toNat : Nat) : Int)
    omega
   simp only [big]
   rw [e1, e2, big_unbig k m hm]
theorem unbig_big : ∀ (k : Nat) (n : Int), 0 ≤ n → n < 256 ^ k → (unbig (big k n) : Int) = n
 | 0, n, h0, h1 => by
  rw [Int.pow_zero] at h1
  have : n = 0 := by omega
  subst this
  rfl
 | k + 1, n, h0, h1 => by
  simp only [big]
  rw [unbig_snoc]
  have ih := unbig_big k (n / 256) (by omega) (by rw [Int.pow_succ] at h1; omega)
  have := byteOf_val n
  omega

set_option maxRecDepth 100000 in
set_option maxHeartbeats 1000000 in
theorem writeNumber_calls (B : Nat) (v : Value) (l : List UInt8) (n : Int) (s : Nat) (w : World) (hown : Own w B v l) (hB : B ≤ w.heap.size) (hl : l.length ≤ 140737488355000) (h0 : 0 ≤ n) (h1 : n ≤ 18446744073709551615) (hs : s ≤ 8) :
  Calls Tryz.prog 33 #[v, .int .u64 n, .int .i64 s] w fun e w' => ∃ v', e = .returned v' ∧ Own w' B v' (l ++ big s n) ∧ Grew w w' v v' := by
 go_enter Tryz.func33, Tryz.ntmps33
 go_wp2
 go_loopw [0, 7] (fun x i wr => ∃ k : Nat, k ≤ s ∧ i = .int .i64 ((s : Int) - 1 - (k : Int)) ∧ Own wr B x (l ++ (big s n).take k) ∧ Grew w wr v x) (fun _ i _ => (intOf i + 1).toNat)
 case atStart => exact ⟨0, Nat.zero_le _, by simp, by simpa using hown, Grew.refl _ _⟩
 case round =>
  obtain ⟨k, hk, rfl, ho, hg⟩ := hrel
  have hsz := hg.size
  by_cases hlt : k < s
  ·have hle : (l ++ (big s n).take k).length ≤ l.length + 8 := by
    have : ((big s n).take k).length ≤ 8 := by rw [List.length_take, big_length]; omega
    simp only [List.length_append]; omega
   have HN : Hid (bs [byteOf (n / 2 ^ (8 * (s - 1 - k)))] = [.int .u8 (n / 2 ^ (8 * (s - 1 - k)) % 256)]) := by simp [bs, byteOf_val, Hid]
   obtain ⟨p, Hp⟩ : ∃ p : Nat, Hid (p = s - 1 - k) := ⟨_, rfl⟩
   have hp : ((s : Int) - 1 - (k : Int)) = (p : Int) := by rw [Hp.out]; omega
   have hp8 : p < 8 := by rw [Hp.out]; omega
   have HT : Hid ((big s n).take (k + 1) = (big s n).take k ++ [byteOf (n / 2 ^ (8 * p))]) := by rw [Hp.out]; exact big_at s n k hlt
   rw [← Hp.out] at HN
   rw [hp]
   have HP : Hid (((s : Int) - 1 - (k : Int)) = (p : Int)) := hp
   clear hp
   go_wp2_with (at_builtin; refine append_bytes _ rfl (.tmp 14) (.tmp 20) rfl B _ _ rfl (ho.alloc _) ⟨wr.heap.size, 0, none⟩ 1 1 [byteOf (n / 2 ^ (8 * p))] rfl rfl (by intro j u hj; rw [HN.out] at hj; exact cells_new _ _ _ j u hj) (by omega) (by simp; omega) ?_)
   intro v1 w1 ho1 hg1
   have hg2 := hg.trans hg1.ofAlloc
   clear ho hg hg1
   go_wp2
   go_roundw
   case rel => exact ⟨k + 1, by omega, by have := HP.out; congr 1; omega, by rw [HT.out]; simpa only [List.append_assoc] using ho1, hg2⟩
   case measure => simp [intOf]
  ·obtain rfl : k = s := by omega
   go_wp2
   go_ret
   exact ⟨_, rfl, by rw [List.take_of_length_le (by rw [big_length]; omega)] at ho; exact ho, hg⟩

theorem shl_or {n : Nat} (c : UInt8) (h : n < 72057594037927936) : bits .or .u64 ((n : Int) * 256) (c.toNat : Int) = ((n * 256 + c.toNat : Nat) : Int) := by
 have hc := c.toNat_lt
 have e : ((n : Int) * 256) = ((n * 256 : Nat) : Int) := by omega
 rw [e, u64_or_nat (n * 256) c.toNat (by omega) (by omega)]
 have e2 : n * 256 ||| c.toNat = n * 256 + c.toNat := by
  rw [Nat.mul_comm, show (256 : Nat) = 2 ^ 8 from rfl, Nat.two_pow_add_eq_or_of_lt (by omega)]
 rw [e2]

set_option maxRecDepth 100000 in
set_option maxHeartbeats 1000000 in
theorem readNumber_calls (ao : Option Addr) (cap : Nat) (l : List UInt8) (w : World) (hl : l.length ≤ 8) (h : BAt w ao l) :
  Calls Tryz.prog 36 #[.slice ao l.length cap] w fun e w' => e = .returned (.int .u64 (unbig l : Nat)) ∧ w' = w := by
 go_enter Tryz.func36, Tryz.ntmps36
 go_wp2
 go_loopw [3, 8] (fun s i wr => ∃ k : Nat, k ≤ l.length ∧ i = .int .i64 k ∧ s = .int .u64 (unbig (l.take k) : Nat) ∧ wr = w) (fun _ i _ => l.length - (intOf i).toNat)
 case atStart => exact ⟨0, Nat.zero_le _, rfl, by simp [unbig], rfl⟩
 case round =>
  obtain ⟨k, hk, rfl, rfl, rfl⟩ := hrel
  obtain ⟨t, Ht⟩ : ∃ t, Hid (t = unbig (l.take k)) := ⟨_, rfl⟩
  rw [← Ht.out]
  by_cases hlt : k < l.length
  ·have ht : t < 72057594037927936 := by
    have h1 := unbig_lt (l.take k).length (l.take k) rfl
    rw [← Ht.out] at h1
    have h2 : (l.take k).length ≤ 7 := by rw [List.length_take]; omega
    exact Nat.lt_of_lt_of_le h1 (Nat.le_trans (Nat.pow_le_pow_right (by decide) h2) (by decide))
   obtain ⟨b, off, rfl, hc⟩ := h.at k hlt
   obtain ⟨c, Hc⟩ : ∃ c, Hid (c = l[k]'hlt) := ⟨_, rfl⟩
   rw [← Hc.out] at hc
   have hcl := byte_le c
   have HN : Hid (unbig (l.take (k + 1)) = t * 256 + c.toNat) := by
    show _ = _
    rw [list_take_snoc l k hlt, unbig_snoc, ← Ht.out, ← Hc.out]
   have HO : Hid (bits .or .u64 ((t : Int) * 256) (c.toNat : Int) = ((t * 256 + c.toNat : Nat) : Int)) := shl_or c ht
   clear Ht Hc
   go_wp2
   go_roundw
   case rel => exact ⟨k + 1, by omega, by go_num, by rw [HN.out]; exact congrArg (Value.int .u64) HO.out, by trivial⟩
   case measure => simp [intOf]; omega
  ·have HE : Hid (t = unbig l) := by show _ = _; rw [Ht.out, List.take_of_length_le (by omega)]
   go_wp2
   go_ret
   exact ⟨by rw [HE.out]; rfl, rfl⟩
end Go.Proofs.YtbhhjnbomhkdmaaGreatDoor

/- Layer 13 (journal): the sum of bytes, plain. -/
namespace Go.Proofs.YtbhhjnbomhkdmaaGreatDoor
open Go.RowKit
set_option linter.unusedVariables false

def crcBit (s : Nat) : Nat := if s % 2 = 1 then (s / 2) ^^^ 3988292384 else s / 2
def crcN : Nat → Nat → Nat
 | 0, s => s
 | k + 1, s => crcBit (crcN k s)
def crcByte (s : Nat) (c : UInt8) : Nat := crcN 8 (s ^^^ c.toNat)
def crcs (s : Nat) (l : List UInt8) : Nat := l.foldl crcByte s
def sumB (l : List UInt8) : Nat := 4294967295 - crcs 4294967295 l

theorem crcBit_lt {s : Nat} (h : s < 4294967296) : crcBit s < 4294967296 := by
 unfold crcBit
 split
 ·have := Nat.xor_lt_two_pow (n := 32) (x := s / 2) (y := 3988292384) (by omega) (by omega)
  omega
 ·omega
theorem crcN_lt {s : Nat} (h : s < 4294967296) : ∀ k, crcN k s < 4294967296
 | 0 => h
 | k + 1 => crcBit_lt (crcN_lt h k)
theorem crcX_lt {s : Nat} (h : s < 4294967296) (c : UInt8) : s ^^^ c.toNat < 4294967296 := by
 have h2 := c.toNat_lt
 have := Nat.xor_lt_two_pow (n := 32) (x := s) (y := c.toNat) (by omega) (by omega)
 omega
theorem crcByte_lt {s : Nat} (h : s < 4294967296) (c : UInt8) : crcByte s c < 4294967296 := crcN_lt (crcX_lt h c) 8
theorem crcs_lt : ∀ (l : List UInt8) {s : Nat}, s < 4294967296 → crcs s l < 4294967296
 | [], _, h => h
 | c :: l, _, h => crcs_lt l (crcByte_lt h c)
theorem crcs_snoc (s : Nat) (l : List UInt8) (c : UInt8) : crcs s (l ++ [c]) = crcByte (crcs s l) c := by simp [crcs]
theorem sumB_lt (l : List UInt8) : sumB l < 4294967296 := by unfold sumB; omega

/-- The program's step. -/
theorem crc_step {t : Nat} (h : t < 4294967296) : bits .xor .u32 ((t : Int) / 2) (3988292384 * bits .and .u32 (t : Int) 1 % 4294967296) = (crcBit t : Int) := by
 have ha : bits .and .u32 (t : Int) 1 = ((t % 2 : Nat) : Int) := by
  have := u32_and_nat t 1 (by omega) (by omega)
  rw [Nat.and_one_is_mod] at this
  exact this
 rw [ha]
 unfold crcBit
 rcases Nat.mod_two_eq_zero_or_one t with h2 | h2
 ·rw [h2]
  rw [if_neg (by decide)]
  have e : 3988292384 * ((0 : Nat) : Int) % 4294967296 = ((0 : Nat) : Int) := by decide
  rw [e]
  have := u32_xor_nat (t / 2) 0 (by omega) (by omega)
  rw [Nat.xor_zero] at this
  exact this
 ·rw [h2, if_pos rfl]
  have e : 3988292384 * ((1 : Nat) : Int) % 4294967296 = ((3988292384 : Nat) : Int) := by decide
  rw [e]
  exact u32_xor_nat (t / 2) 3988292384 (by omega) (by omega)
theorem crc_in {t : Nat} (h : t < 4294967296) (c : UInt8) : bits .xor .u32 (t : Int) (c.toNat : Int) = ((t ^^^ c.toNat : Nat) : Int) :=
 u32_xor_nat t c.toNat h (by have := c.toNat_lt; omega)
theorem ones_xor {t : Nat} (h : t < 4294967296) : 4294967295 ^^^ t = 4294967295 - t := by
 have h1 := congrArg BitVec.toNat (BitVec.allOnes_xor (x := BitVec.ofNat 32 t))
 rw [BitVec.toNat_xor, BitVec.toNat_not, BitVec.toNat_allOnes, BitVec.toNat_ofNat, Nat.mod_eq_of_lt h] at h1
 exact h1
theorem crc_out {t : Nat} (h : t < 4294967296) : bits .xor .u32 IntKind.u32.max (t : Int) = ((4294967295 - t : Nat) : Int) := by
 have := u32_xor_nat 4294967295 t (by omega) h
 rw [ones_xor h] at this
 exact this
/-- The document's step: s and the rest of the byte apart. -/
theorem crc_ref {s c : Nat} : (if s % 2 ≠ c % 2 then (s / 2) ^^^ 3988292384 else s / 2) ^^^ (c / 2) = crcBit (s ^^^ c) := by
 unfold crcBit
 have h1 : (s ^^^ c) / 2 = s / 2 ^^^ c / 2 := Nat.xor_div_two
 have h2 : (s ^^^ c) % 2 = 1 ↔ s % 2 ≠ c % 2 := by
  rw [Nat.xor_mod_two_eq_one]
  omega
 rw [h1]
 by_cases h : s % 2 ≠ c % 2
 ·rw [if_pos h, if_pos (h2.2 h)]
  rw [Nat.xor_assoc, Nat.xor_comm 3988292384, ← Nat.xor_assoc]
 ·rw [if_neg h, if_neg (fun e => h (h2.1 e))]
end Go.Proofs.YtbhhjnbomhkdmaaGreatDoor

/- Layer 13 (journal): Sum. -/
namespace Go.Proofs.YtbhhjnbomhkdmaaGreatDoor
open Go.RowKit
set_option linter.unusedVariables false

set_option maxRecDepth 100000 in
set_option maxHeartbeats 1000000 in
theorem sum_calls (ao : Option Addr) (cap : Nat) (l : List UInt8) (w : World) (hl : l.length ≤ 140737488355328) (h : BAt w ao l) :
  Calls Tryz.prog 17 #[.slice ao l.length cap] w fun e w' => e = .returned (.int .u32 (sumB l)) ∧ w' = w := by
 go_enter Tryz.func17, Tryz.ntmps17
 go_wp2
 go_loopw [3, 8] (fun s i wr => ∃ k : Nat, k ≤ l.length ∧ i = .int .i64 k ∧ s = .int .u32 (crcs 4294967295 (l.take k) : Nat) ∧ wr = w) (fun _ i _ => l.length - (intOf i).toNat)
 case atStart => exact ⟨0, Nat.zero_le _, rfl, by simp [crcs], rfl⟩
 case round =>
  obtain ⟨k, hk, rfl, rfl, rfl⟩ := hrel
  obtain ⟨t, Ht⟩ : ∃ t, Hid (t = crcs 4294967295 (l.take k)) := ⟨_, rfl⟩
  have ht : t < 4294967296 := by rw [Ht.out]; exact crcs_lt _ (by omega)
  rw [← Ht.out]
  by_cases hlt : k < l.length
  ·obtain ⟨b, off, rfl, hc⟩ := h.at k hlt
   obtain ⟨c, Hc⟩ : ∃ c, Hid (c = l[k]'hlt) := ⟨_, rfl⟩
   rw [← Hc.out] at hc
   have hcl := byte_le c
   have hx := crc_in ht c
   have HN : Hid (crcs 4294967295 (l.take (k + 1)) = crcByte t c) := by
    show _ = _
    rw [list_take_snoc l k hlt, crcs_snoc, ← Ht.out, ← Hc.out]
   clear Ht Hc
   obtain ⟨x, Hx⟩ : ∃ x, Hid (x = t ^^^ c.toNat) := ⟨_, rfl⟩
   have hxl : x < 4294967296 := by rw [Hx.out]; exact crcX_lt ht c
   rw [← Hx.out] at hx
   go_wp2
   clear hx hc
   go_loopw [3, 16] (fun s j wr' => ∃ m : Nat, m ≤ 8 ∧ j = .int .i64 m ∧ s = .int .u32 (crcN m x : Nat) ∧ wr' = wr) (fun _ j _ => 8 - (intOf j).toNat)
   case atStart => exact ⟨0, Nat.zero_le _, rfl, rfl, rfl⟩
   case round =>
    obtain ⟨m, hm, rfl, rfl, rfl⟩ := hrel
    obtain ⟨y, Hy⟩ : ∃ y, Hid (y = crcN m x) := ⟨_, rfl⟩
    have hy : y < 4294967296 := by rw [Hy.out]; exact crcN_lt hxl m
    rw [← Hy.out]
    have hst := crc_step hy
    by_cases hm8 : m < 8
    ·go_wp2
     go_roundw
     case rel => exact ⟨m + 1, by omega, by go_num, by rw [show crcN (m + 1) x = crcBit y from by rw [Hy.out]; rfl], by trivial⟩
     case measure => simp [intOf]; omega
    ·obtain rfl : m = 8 := by omega
     have HE : Hid (y = crcByte t c) := by show _ = _; rw [Hy.out, Hx.out]; rfl
     go_wp2
     go_roundw
     case rel => exact ⟨k + 1, by omega, by go_num, by rw [HN.out, HE.out], by trivial⟩
     case measure => simp [intOf]; omega
  ·have HE : Hid (t = crcs 4294967295 l) := by show _ = _; rw [Ht.out, List.take_of_length_le (by omega)]
   have HO : Hid (bits .xor .u32 IntKind.u32.max (t : Int) = ((4294967295 - t : Nat) : Int)) := crc_out ht
   go_wp2
   go_ret
   refine ⟨?_, rfl⟩
   show Ending.returned (.int .u32 (bits .xor .u32 IntKind.u32.max (t : Int))) = _
   rw [HO.out, HE.out]
   rfl
end Go.Proofs.YtbhhjnbomhkdmaaGreatDoor

/- Layer 13 (journal): payloadOf. -/
namespace Go.Proofs.YtbhhjnbomhkdmaaGreatDoor
open Go.RowKit
set_option linter.unusedVariables false

/-- b[lo:hi] -/
def subV (b off lo hi cap : Nat) : Value := if cap = lo then .slice (some ⟨b, off, none⟩) (hi - lo) 0 else .slice (some ⟨b, off + lo, none⟩) (hi - lo) (cap - lo)
theorem subV_form {w : World} {b off lo hi cap : Nat} {l : List UInt8} (hb : BAt w (some ⟨b, off, none⟩) l) (h1 : lo ≤ hi) (h2 : hi ≤ l.length) (h3 : l.length ≤ cap) :
  ∃ ao c, subV b off lo hi cap = .slice ao (hi - lo) c ∧ BAt w ao ((l.drop lo).take (hi - lo)) ∧ hi - lo ≤ c := by
 unfold subV
 by_cases hc : cap = lo
 ·rw [if_pos hc]
  have e : hi - lo = 0 := by omega
  refine ⟨_, _, rfl, ?_, by omega⟩
  rw [e, List.take_zero]
  exact BAt.nil _ _
 ·rw [if_neg hc]
  refine ⟨_, _, rfl, ?_, by omega⟩
  intro hne
  refine ⟨b, off + lo, rfl, fun j u hj => ?_⟩
  obtain ⟨b', off', e1, hcs⟩ := hb (fun e => hne (by
   have hl : l = [] := by
    cases l with
    | nil => rfl
    | cons c l => simp [bs] at e
   subst hl
   simp [bs]))
  injection e1 with e1
  injection e1 with e2 e3
  subst e2 e3
  have hj2 : j < hi - lo := by have := (List.getElem?_eq_some_iff.1 hj).1; simp [bs] at this; omega
  rw [show off + lo + j = off + (lo + j) by omega]
  refine hcs (lo + j) u ?_
  simp only [bs, List.getElem?_map] at hj ⊢
  rw [List.getElem?_take, if_pos hj2, List.getElem?_drop] at hj
  exact hj
theorem subV_formS {w : World} {b off lo hi cap : Nat} {l : List UInt8} (hb : BAt w (some ⟨b, off, none⟩) l) (h1 : lo ≤ hi) (h2 : hi ≤ l.length) (h3 : l.length ≤ cap) :
  ∃ ao c, subV b off lo hi cap = .slice ao (hi - lo) c ∧ BAt w ao ((l.drop lo).take (hi - lo)) ∧ hi - lo ≤ c ∧ ∃ y, ao = some ⟨b, y, none⟩ := by
 obtain ⟨ao, c, e, h4, h5⟩ := subV_form hb h1 h2 h3
 refine ⟨ao, c, e, h4, h5, ?_⟩
 unfold subV at e
 split at e
 ·simp only [Value.slice.injEq] at e
  exact ⟨off, e.1.symm⟩
 ·simp only [Value.slice.injEq] at e
  exact ⟨off + lo, e.1.symm⟩
theorem sub15_run (b off n cap : Nat) (h : 5 ≤ n) (hn : n ≤ cap) (W : World) : (Instr.slice 22 (.slice (some ⟨b, off, none⟩) n cap) (some (.int .i64 1)) (some (.int .i64 5)) none).run Tryz.prog W = .ok (subV b off 1 5 cap) W := by
 unfold subV
 rw [if_neg (by omega)]
 have h1 : (5 : Int) ≤ (cap : Int) := by omega
 go_simp
 omega
theorem sub5_run (b off n cap : Nat) (h : 5 ≤ n) (hn : n ≤ cap) (W : World) : (Instr.slice 22 (.slice (some ⟨b, off, none⟩) n cap) (some (.int .i64 5)) none none).run Tryz.prog W = .ok (subV b off 5 n cap) W := by
 unfold subV
 have h1 : (5 : Int) ≤ (n : Int) := by omega
 have h2 : (n : Int) ≤ (cap : Int) := by omega
 by_cases hc : cap = 5
 ·subst hc
  obtain rfl : n = 5 := by omega
  go_simp
 ·rw [if_neg hc]
  go_simp
theorem subTo_run (b off n cap m : Nat) (h : m ≤ n) (hn : n ≤ cap) (W : World) : (Instr.slice 22 (.slice (some ⟨b, off, none⟩) n cap) none (some (.int .u64 (m : Int))) none).run Tryz.prog W = .ok (subV b off 0 m cap) W := by
 unfold subV
 have h1 : (m : Int) ≤ (n : Int) := by omega
 have h2 : (m : Int) ≤ (cap : Int) := by omega
 by_cases hc : cap = 0
 ·subst hc
  obtain rfl : n = 0 := by omega
  obtain rfl : m = 0 := by omega
  go_simp
 ·rw [if_neg hc]
  go_simp
theorem subFrom_run (b off n cap m : Nat) (h : m + 4 ≤ n) (hn : n ≤ cap) (W : World) : (Instr.slice 22 (.slice (some ⟨b, off, none⟩) n cap) (some (.int .u64 (m : Int))) (some (.int .u64 ((m : Int) + 4))) none).run Tryz.prog W = .ok (subV b off m (m + 4) cap) W := by
 unfold subV
 have h1 : (m : Int) ≤ (n : Int) := by omega
 have h2 : (m : Int) + 4 ≤ (cap : Int) := by omega
 have h3 : ((m : Int) + 4).toNat = m + 4 := by omega
 rw [if_neg (by omega)]
 go_simp
 rw [if_pos (by omega), if_neg (by omega)]

def lenB (l : List UInt8) : Nat := unbig ((l.drop 1).take 4)
def payP (l : List UInt8) : List UInt8 := (l.drop 5).take (lenB l)
def payS (l : List UInt8) : List UInt8 := ((l.drop 5).drop (lenB l)).take 4
/-- What payloadOf says. -/
def payE (l : List UInt8) : Int :=
 if l.length = 0 then 131 else if l.getD 0 0 ≠ 77 then 132 else if l.length < 5 then 131 else if 131072 < lenB l then 132 else
 if l.length - 5 < lenB l + 4 then 131 else if unbig (payS l) ≠ sumB (payP l) then 132 else 0
/-- The payload is answered, a piece of the bytes. -/
def PayA (w : World) (l : List UInt8) (e : Ending) (w' : World) : Prop := ∃ ao n c, e = .returned (.tuple #[.slice ao n c, .int .i64 (payE l)]) ∧ (payE l = 0 → n = (payP l).length ∧ n ≤ c ∧ BAt w' ao (payP l) ∧ ∃ x y, ao = some ⟨x, y, none⟩ ∧ x < w.heap.size) ∧ ∃ m, w' = w.drewN m
theorem payA_no {w w' : World} {l : List UInt8} {x : Int} (hx : payE l = x) (h0 : x ≠ 0) (hd : ∃ m, w' = w.drewN m) : PayA w l (.returned (.tuple #[.slice none 0 0, .int .i64 x])) w' :=
 ⟨none, 0, 0, by rw [hx], fun h => absurd (hx.symm.trans h) h0, hd⟩

set_option maxRecDepth 100000 in
set_option maxHeartbeats 2000000 in
theorem payloadOf_calls (ao : Option Addr) (cap : Nat) (l : List UInt8) (w : World) (hl : l.length ≤ 140737488455328) (hcap : l.length ≤ cap) (h : BAt w ao l) :
  Calls Tryz.prog 22 #[.slice ao l.length cap] w fun e w' => PayA w l e w' := by
 obtain ⟨n, Hn⟩ : ∃ n, Hid (n = l.length) := ⟨_, rfl⟩
 by_cases h0 : l.length = 0
 ·have HE : Hid (payE l = 131) := by show _ = _; unfold payE; rw [if_pos h0]
  rw [← Hn.out] at hl hcap h0 ⊢
  subst h0
  go_enter Tryz.func22, Tryz.ntmps22
  go_wp2
  go_ret2
  exact payA_no HE.out (by decide) ⟨0, rfl⟩
 have q0 : ((l.length : Int) == 0) = false := by simp; intro e; exact h0 (by simp [e])
 obtain ⟨b, off, rfl, c0⟩ := h.at 0 (by omega)
 have hp : 0 < l.length := by omega
 obtain ⟨c, Hc⟩ : ∃ c, Hid (c = l[0]'hp) := ⟨l[0]'hp, rfl⟩
 rw [← Hc.out, Nat.add_zero] at c0
 have hgd : l.getD 0 0 = c := by rw [Hc.out]; simp [hp]
 by_cases h77' : ¬ c = 77
 ·have h77 := h77'
  have HE : Hid (payE l = 132) := by show _ = _; unfold payE; rw [if_neg h0, hgd, if_pos h77]
  have q1 : ((c.toNat : Int) != 77) = true := by
   simp
   intro e
   exact h77 (UInt8.toNat_inj.1 (by show c.toNat = 77; omega))
  clear hgd Hc h77 h77'
  rw [← Hn.out] at hl hcap q0 hp ⊢
  go_enter Tryz.func22, Tryz.ntmps22
  go_wp2
  go_ret2
  exact payA_no HE.out (by decide) ⟨0, rfl⟩
 have h77 : c = 77 := Classical.not_not.1 h77'
 clear h77'
 subst h77
 have c0 : w.cell? ⟨b, off, none⟩ = some (.int .u8 77) := c0
 by_cases h5 : l.length < 5
 ·have HE : Hid (payE l = 131) := by show _ = _; unfold payE; rw [if_neg h0, hgd, if_neg (by decide), if_pos h5]
  clear hgd Hc
  rw [← Hn.out] at hl hcap q0 h5 hp ⊢
  go_enter Tryz.func22, Tryz.ntmps22
  go_wp2
  go_ret2
  exact payA_no HE.out (by decide) ⟨0, rfl⟩
 have HE0 : Hid (payE l = if 131072 < lenB l then 132 else if l.length - 5 < lenB l + 4 then 131 else if unbig (payS l) ≠ sumB (payP l) then 132 else 0) := by show _ = _; unfold payE; rw [if_neg h0, hgd, if_neg (by decide), if_neg h5]
 clear hgd Hc
 obtain ⟨a1, k1, e1, hb1, -⟩ := subV_form h (lo := 1) (hi := 5) (by omega) (by omega) hcap
 obtain ⟨a5, k5, e5, hb5, hk5⟩ := subV_form h (lo := 5) (hi := l.length) (by omega) (Nat.le_refl _) hcap
 have hr1 := fun W => sub15_run b off l.length cap (by omega) hcap W
 have hr5 := fun W => sub5_run b off l.length cap (by omega) hcap W
 rw [e1] at hr1
 rw [e5] at hr5
 have hlen1 : ((l.drop 1).take (5 - 1)).length = 4 := by simp; omega
 have HC1 : Hid (∀ m, Calls Tryz.prog 36 #[.slice a1 4 k1] (w.drewN m) fun e w' => e = .returned (.int .u64 (lenB l : Nat)) ∧ w' = w.drewN m) := fun m => by
  have := readNumber_calls a1 k1 ((l.drop 1).take (5 - 1)) (w.drewN m) (by omega) (hb1.below (below_draws w m))
  rw [hlen1] at this
  exact this
 have e55 : (l.drop 5).take (l.length - 5) = l.drop 5 := List.take_of_length_le (by simp)
 rw [e55] at hb5
 have HB5 : Hid (BAt w a5 (l.drop 5)) := hb5
 have hlb : lenB l < 4294967296 := by
  have := unbig_lt 4 ((l.drop 1).take 4) hlen1
  exact Nat.lt_of_lt_of_le this (by decide)
 clear hlen1 e55 hb1 hb5 e1 e5 h
 rw [show (5 : Nat) - 1 = 4 from rfl] at hr1
 obtain ⟨n5, Hn5⟩ : ∃ x, Hid (x = l.length - 5) := ⟨_, rfl⟩
 have hn5 : n5 ≤ 140737488455328 := by rw [Hn5.out]; omega
 rw [← Hn5.out] at hr5 hk5 HE0
 obtain ⟨pl, Hpl⟩ : ∃ x, Hid (x = lenB l) := ⟨_, rfl⟩
 rw [← Hpl.out] at HC1 hlb HE0
 rw [← Hn.out] at hl hcap q0 h5 hp hr1 hr5 ⊢
 go_enter Tryz.func22, Tryz.ntmps22
 go_upto_region 7 with fail
 go_quiet ((go_at_call 36; exact Calls.quiet_of_same (HC1.out _)))
 clear hr1 hr5 HC1
 by_cases hbig : 131072 < pl
 ·have HE : Hid (payE l = 132) := by show _ = _; rw [HE0.out, if_pos hbig]
  have q2 : (131072 : Int) < (pl : Int) := by omega
  go_wp2
  go_ret2
  exact payA_no HE.out (by decide) ⟨_, rfl⟩
 by_cases hsh : n5 < pl + 4
 ·have HE : Hid (payE l = 131) := by show _ = _; rw [HE0.out, if_neg hbig, if_pos hsh]
  have q2 : ¬ (131072 : Int) < (pl : Int) := by omega
  have q3 : (n5 : Int) < (pl : Int) + 4 := by omega
  go_wp2
  go_ret2
  exact payA_no HE.out (by decide) ⟨_, rfl⟩
 have HE1 : Hid (payE l = if unbig (payS l) ≠ sumB (payP l) then 132 else 0) := by show _ = _; rw [HE0.out, if_neg hbig, if_neg hsh]
 have q2 : ¬ (131072 : Int) < (pl : Int) := by omega
 have q3 : ¬ (n5 : Int) < (pl : Int) + 4 := by omega
 have hd5 : (l.drop 5).length = n5 := by rw [Hn5.out]; simp
 obtain ⟨b5, off5, rfl, hc5⟩ := HB5.out.at 0 (by omega)
 have hb5lt : b5 < w.heap.size := World.block_lt_of_cell? w _ hc5
 clear hc5
 obtain ⟨ap, kp, ep, hbp, hkp, hap⟩ := subV_formS HB5.out (lo := 0) (hi := pl) (cap := k5) (by omega) (by omega) (by omega)
 obtain ⟨az, ks, es, hbs, -⟩ := subV_form HB5.out (lo := pl) (hi := pl + 4) (cap := k5) (by omega) (by omega) (by omega)
 have hrp := fun W => subTo_run b5 off5 n5 k5 pl (by omega) hk5 W
 have hrs := fun W => subFrom_run b5 off5 n5 k5 pl (by omega) hk5 W
 rw [ep] at hrp
 rw [es] at hrs
 rw [Nat.sub_zero] at hrp hbp hkp
 rw [Nat.add_sub_cancel_left] at hrs hbs
 rw [List.drop_zero] at hbp
 have hlp : ((l.drop 5).take pl).length = pl := by rw [List.length_take, hd5]; omega
 have hls : (((l.drop 5).drop pl).take 4).length = 4 := by rw [List.length_take, List.length_drop, hd5]; omega
 have HP : Hid (payP l = (l.drop 5).take pl) := by show _ = _; unfold payP; rw [← Hpl.out]
 have HS : Hid (payS l = ((l.drop 5).drop pl).take 4) := by show _ = _; unfold payS; rw [← Hpl.out]
 have HC2 : Hid (∀ m, Calls Tryz.prog 36 #[.slice az 4 ks] (w.drewN m) fun e w' => e = .returned (.int .u64 (unbig (payS l) : Nat)) ∧ w' = w.drewN m) := fun m => by
  have := readNumber_calls az ks (((l.drop 5).drop pl).take 4) (w.drewN m) (by omega) (hbs.below (below_draws w m))
  rw [hls, ← HS.out] at this
  exact this
 have HC3 : Hid (∀ m, Calls Tryz.prog 17 #[.slice ap pl kp] (w.drewN m) fun e w' => e = .returned (.int .u32 (sumB (payP l) : Nat)) ∧ w' = w.drewN m) := fun m => by
  have := sum_calls ap kp ((l.drop 5).take pl) (w.drewN m) (by omega) (hbp.below (below_draws w m))
  rw [hlp, ← HP.out] at this
  exact this
 have HAP : Hid (∃ x y, ap = some ⟨x, y, none⟩ ∧ x < w.heap.size) := by obtain ⟨y, hy⟩ := hap; exact ⟨b5, y, hy, hb5lt⟩
 clear hap
 have HBP : Hid (BAt w ap (payP l)) := by show BAt _ _ _; rw [HP.out]; exact hbp
 have HLP : Hid ((payP l).length = pl) := by show _ = _; rw [HP.out]; exact hlp
 have hsu : sumB (payP l) < 4294967296 := sumB_lt _
 have hrd : unbig (payS l) < 4294967296 := by rw [HS.out]; exact Nat.lt_of_lt_of_le (unbig_lt 4 _ hls) (by decide)
 clear hbs hbp hlp hls HS HP ep es HB5 hd5
 obtain ⟨S, HS⟩ : ∃ x, Hid (x = sumB (payP l)) := ⟨_, rfl⟩
 obtain ⟨U, HU⟩ : ∃ x, Hid (x = unbig (payS l)) := ⟨_, rfl⟩
 rw [← HS.out] at HC3 hsu HE1
 rw [← HU.out] at HC2 hrd HE1
 go_upto_region 12 with fail
 go_quiet (fail)
 go_upto_region 13 with fail
 rw [World.drewN_drewN]
 clear hrp hrs
 go_wp2_with fail
 refine (HC2.out _).mono ?_
 rintro e w3 ⟨rfl, rfl⟩
 go_wp2_with fail
 refine (HC3.out _).mono ?_
 rintro e w4 ⟨rfl, rfl⟩
 clear HC2 HC3
 by_cases hus : U = S
 ·have HE : Hid (payE l = 0) := by show _ = _; rw [HE1.out, if_neg (by omega)]
  subst hus
  have q4 : ((U : Int) != (U : Int)) = false := by simp
  go_wp2
  go_ret2
  exact ⟨ap, pl, kp, by rw [HE.out]; rfl, fun _ => ⟨HLP.out.symm, hkp, HBP.out.below (below_draws w _), HAP.out⟩, _, rfl⟩
 ·have HE : Hid (payE l = 132) := by show _ = _; rw [HE1.out, if_pos hus]
  have q4 : ((U : Int) != (S : Int)) = true := by simp; omega
  clear hus
  go_wp2
  go_ret2
  exact payA_no HE.out (by decide) ⟨_, rfl⟩
end Go.Proofs.YtbhhjnbomhkdmaaGreatDoor
