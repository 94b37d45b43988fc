import Derived.Test.YthgcnmilaifkoaaGreatDoorRwPut
import Derived.Test.YthgcnmilaifkoaaGreatDoorKLaw
import Derived.Laws.BitsAllLaws
import Derived.Lib.AppendStr
import Derived.Laws.BytesArg
/- Layer 9 (records): what is fixed stays as it is; small letters and great ones are fixed alike. Plain. -/
namespace Go.Proofs.YthgcnmilaifkoaaGreatDoor
open Go.RowKit

theorem tagsL_put {l : List ByteArray} (h : tagsOk l) : tagsL l = putAll (l.map lowL) := (tags_yes h).2.trans (compact_putAll _)
theorem tagsL_mem {l : List ByteArray} (h : tagsOk l) (y : List UInt8) : y ∈ tagsL l ↔ ∃ x ∈ l, lowL x = y := by
 rw [tagsL_put h, putAll_mem, List.mem_map]
theorem tagsB_mem {l : List ByteArray} (h : tagsOk l) {y : ByteArray} (hy : y ∈ tagsB l) : ∃ x ∈ l, lowS x = y := by
 unfold tagsB at hy
 obtain ⟨b, hb, rfl⟩ := List.mem_map.1 hy
 obtain ⟨x, hx, rfl⟩ := (tagsL_mem h b).1 hb
 exact ⟨x, hx, rfl⟩
end Go.Proofs.YthgcnmilaifkoaaGreatDoor

/- Layer 13 (journal): bytes in memory. -/
namespace Go.Proofs.YthgcnmilaifkoaaGreatDoor
open Go.RowKit
set_option linter.unusedVariables false

/-- The bytes l lie one behind the other at the address. -/
def BAt (w : World) (ao : Option Addr) (l : List UInt8) : Prop := CellsAt w ao (bs l)
theorem BAt.below {w w' : World} {ao : Option Addr} {l : List UInt8} (h : BAt w ao l) (hb : Below w.heap.size w w') : BAt w' ao l := CellsAt.below h hb
theorem BAt.at {w : World} {ao : Option Addr} {l : List UInt8} (h : BAt w ao l) (k : Nat) (hk : k < l.length) : ∃ b off, ao = some ⟨b, off, none⟩ ∧ w.cell? ⟨b, off + k, none⟩ = some (.int .u8 (l[k].toNat : Int)) := by
 obtain ⟨b, off, ha, hc⟩ := h (fun e => by have := bs_length l; rw [e] at this; simp at this; omega)
 exact ⟨b, off, ha, hc k _ (by simp [bs, hk])⟩
theorem Own.bytes {w : World} {B : Nat} {ao : Option Addr} {cap : Nat} {l : List UInt8} (h : Own w B (.slice ao l.length cap) l) : BAt w ao l := row_cells h
theorem BAt.nil (w : World) (ao : Option Addr) : BAt w ao [] := fun h => absurd rfl h
theorem byte_le (c : UInt8) : (c.toNat : Int) ≤ 255 := by have := c.toNat_lt; omega
theorem list_take_snoc {α : Type} (l : List α) (k : Nat) (h : k < l.length) : l.take (k + 1) = l.take k ++ [l[k]] := List.take_succ_eq_append_getElem h
end Go.Proofs.YthgcnmilaifkoaaGreatDoor

/- Layer 13 (journal): numbers as bytes, the highest first: writeNumber, readNumber. -/
namespace Go.Proofs.YthgcnmilaifkoaaGreatDoor
open Go.RowKit
set_option linter.unusedVariables false

def byteOf (x : Int) : UInt8 := UInt8.ofNat (x % 256).toNat
theorem byteOf_val (x : Int) : ((byteOf x).toNat : Int) = x % 256 := by
 unfold byteOf
 rw [UInt8.toNat_ofNat']; omega
/-- The lowest k bytes of n, the highest first. -/
def big : Nat → Int → List UInt8
 | 0, _ => []
 | k + 1, n => big k (n / 256) ++ [byteOf n]
theorem big_length : ∀ (k : Nat) (n : Int), (big k n).length = k
 | 0, _ => rfl
 | k + 1, n => by simp [big, big_length k]
theorem pow_step (n : Int) (d : Nat) : n / 256 / 2 ^ (8 * d) = n / 2 ^ (8 * (d + 1)) := by
 rw [Int.ediv_ediv_of_nonneg (by omega), show 8 * (d + 1) = 8 + 8 * d by omega, Int.pow_add]
 rfl
theorem big_at : ∀ (s : Nat) (n : Int) (k : Nat), k < s → (big s n).take (k + 1) = (big s n).take k ++ [byteOf (n / 2 ^ (8 * (s - 1 - k)))]
 | 0, _, _, h => by omega
 | s + 1, n, k, h => by
  have hl := big_length s (n / 256)
  by_cases hk : k = s
  ·subst hk
   have e0 : k + 1 - 1 - k = 0 := by omega
   rw [e0]
   simp only [big, Nat.mul_zero, Int.pow_zero, Int.ediv_one]
   rw [List.take_of_length_le (by simp [hl]), List.take_append_of_le_length (by omega), List.take_of_length_le (by omega)]
  ·have ih := big_at s (n / 256) k (by omega)
   simp only [big]
   rw [List.take_append_of_le_length (by omega), List.take_append_of_le_length (by omega), ih, pow_step]
   rw [show s - 1 - k + 1 = s + 1 - 1 - k by omega]
/-- The number whose bytes those are. -/
def unbig (l : List UInt8) : Nat := l.foldl (fun n c => n * 256 + c.toNat) 0
theorem unbig_snoc (l : List UInt8) (c : UInt8) : unbig (l ++ [c]) = unbig l * 256 + c.toNat := by simp [unbig]
theorem unbig_lt : ∀ (k : Nat) (l : List UInt8), l.length = k → unbig l < 256 ^ k
 | 0, l, h => by
  obtain rfl := List.eq_nil_of_length_eq_zero h
  decide
 | k + 1, l, h => by
  rcases List.eq_nil_or_concat l with rfl | ⟨m, c, rfl⟩
  ·simp at h
  ·rw [List.concat_eq_append] at *
   rw [unbig_snoc]
   have := unbig_lt k m (by simp at h; omega)
   have := c.toNat_lt
   rw [Nat.pow_succ]
   omega
theorem unbig_big : ∀ (k : Nat) (n : Int), 0 ≤ n → n < 256 ^ k → (unbig (big k n) : Int) = n
 | 0, n, h0, h1 => by
  rw [Int.pow_zero] at h1
  have : n = 0 := by omega
  subst this
  rfl
 | k + 1, n, h0, h1 => by
  simp only [big]
  rw [unbig_snoc]
  have ih := unbig_big k (n / 256) (by omega) (by rw [Int.pow_succ] at h1; omega)
  have := byteOf_val n
  omega

set_option maxRecDepth 100000 in
set_option maxHeartbeats 1000000 in
theorem writeNumber_calls (B : Nat) (v : Value) (l : List UInt8) (n : Int) (s : Nat) (w : World) (hown : Own w B v l) (hB : B ≤ w.heap.size) (hl : l.length ≤ 140737488355000) (h0 : 0 ≤ n) (h1 : n ≤ 18446744073709551615) (hs : s ≤ 8) :
  Calls Tryz.prog 24 #[v, .int .u64 n, .int .i64 s] w fun e w' => ∃ v', e = .returned v' ∧ Own w' B v' (l ++ big s n) ∧ Grew w w' v v' := by
 go_enter Tryz.func24, Tryz.ntmps24
 go_wp2
 go_loopw [0, 7] (fun x i wr => ∃ k : Nat, k ≤ s ∧ i = .int .i64 ((s : Int) - 1 - (k : Int)) ∧ Own wr B x (l ++ (big s n).take k) ∧ Grew w wr v x) (fun _ i _ => (intOf i + 1).toNat)
 case atStart => exact ⟨0, Nat.zero_le _, by simp, by simpa using hown, Grew.refl _ _⟩
 case round =>
  obtain ⟨k, hk, rfl, ho, hg⟩ := hrel
  have hsz := hg.size
  by_cases hlt : k < s
  ·have hle : (l ++ (big s n).take k).length ≤ l.length + 8 := by
    have : ((big s n).take k).length ≤ 8 := by rw [List.length_take, big_length]; omega
    simp only [List.length_append]; omega
   have HN : Hid (bs [byteOf (n / 2 ^ (8 * (s - 1 - k)))] = [.int .u8 (n / 2 ^ (8 * (s - 1 - k)) % 256)]) := by simp [bs, byteOf_val, Hid]
   obtain ⟨p, Hp⟩ : ∃ p : Nat, Hid (p = s - 1 - k) := ⟨_, rfl⟩
   have hp : ((s : Int) - 1 - (k : Int)) = (p : Int) := by rw [Hp.out]; omega
   have hp8 : p < 8 := by rw [Hp.out]; omega
   have HT : Hid ((big s n).take (k + 1) = (big s n).take k ++ [byteOf (n / 2 ^ (8 * p))]) := by rw [Hp.out]; exact big_at s n k hlt
   rw [← Hp.out] at HN
   rw [hp]
   have HP : Hid (((s : Int) - 1 - (k : Int)) = (p : Int)) := hp
   clear hp
   go_wp2_with (at_builtin; refine append_bytes _ rfl (.tmp 14) (.tmp 20) rfl B _ _ rfl (ho.alloc _) ⟨wr.heap.size, 0, none⟩ 1 1 [byteOf (n / 2 ^ (8 * p))] rfl rfl (by intro j u hj; rw [HN.out] at hj; exact cells_new _ _ _ j u hj) (by omega) (by simp; omega) ?_)
   intro v1 w1 ho1 hg1
   have hg2 := hg.trans hg1.ofAlloc
   clear ho hg hg1
   go_wp2
   go_roundw
   case rel => exact ⟨k + 1, by omega, by have := HP.out; congr 1; omega, by rw [HT.out]; simpa only [List.append_assoc] using ho1, hg2⟩
   case measure => simp [intOf]
  ·obtain rfl : k = s := by omega
   go_wp2
   go_ret
   exact ⟨_, rfl, by rw [List.take_of_length_le (by rw [big_length]; omega)] at ho; exact ho, hg⟩

theorem shl_or {n : Nat} (c : UInt8) (h : n < 72057594037927936) : bits .or .u64 ((n : Int) * 256) (c.toNat : Int) = ((n * 256 + c.toNat : Nat) : Int) := by
 have hc := c.toNat_lt
 have e : ((n : Int) * 256) = ((n * 256 : Nat) : Int) := by omega
 rw [e, u64_or_nat (n * 256) c.toNat (by omega) (by omega)]
 have e2 : n * 256 ||| c.toNat = n * 256 + c.toNat := by
  rw [Nat.mul_comm, show (256 : Nat) = 2 ^ 8 from rfl, Nat.two_pow_add_eq_or_of_lt (by omega)]
 rw [e2]

set_option maxRecDepth 100000 in
set_option maxHeartbeats 1000000 in
theorem readNumber_calls (ao : Option Addr) (cap : Nat) (l : List UInt8) (w : World) (hl : l.length ≤ 8) (h : BAt w ao l) :
  Calls Tryz.prog 61 #[.slice ao l.length cap] w fun e w' => e = .returned (.int .u64 (unbig l : Nat)) ∧ w' = w := by
 go_enter Tryz.func61, Tryz.ntmps61
 go_wp2
 go_loopw [3, 8] (fun s i wr => ∃ k : Nat, k ≤ l.length ∧ i = .int .i64 k ∧ s = .int .u64 (unbig (l.take k) : Nat) ∧ wr = w) (fun _ i _ => l.length - (intOf i).toNat)
 case atStart => exact ⟨0, Nat.zero_le _, rfl, by simp [unbig], rfl⟩
 case round =>
  obtain ⟨k, hk, rfl, rfl, rfl⟩ := hrel
  obtain ⟨t, Ht⟩ : ∃ t, Hid (t = unbig (l.take k)) := ⟨_, rfl⟩
  rw [← Ht.out]
  by_cases hlt : k < l.length
  ·have ht : t < 72057594037927936 := by
    have h1 := unbig_lt (l.take k).length (l.take k) rfl
    rw [← Ht.out] at h1
    have h2 : (l.take k).length ≤ 7 := by rw [List.length_take]; omega
    exact Nat.lt_of_lt_of_le h1 (Nat.le_trans (Nat.pow_le_pow_right (by decide) h2) (by decide))
   obtain ⟨b, off, rfl, hc⟩ := h.at k hlt
   obtain ⟨c, Hc⟩ : ∃ c, Hid (c = l[k]'hlt) := ⟨_, rfl⟩
   rw [← Hc.out] at hc
   have hcl := byte_le c
   have HN : Hid (unbig (l.take (k + 1)) = t * 256 + c.toNat) := by
    show _ = _
    rw [list_take_snoc l k hlt, unbig_snoc, ← Ht.out, ← Hc.out]
   have HO : Hid (bits .or .u64 ((t : Int) * 256) (c.toNat : Int) = ((t * 256 + c.toNat : Nat) : Int)) := shl_or c ht
   clear Ht Hc
   go_wp2
   go_roundw
   case rel => exact ⟨k + 1, by omega, by go_num, by rw [HN.out]; exact congrArg (Value.int .u64) HO.out, by trivial⟩
   case measure => simp [intOf]; omega
  ·have HE : Hid (t = unbig l) := by show _ = _; rw [Ht.out, List.take_of_length_le (by omega)]
   go_wp2
   go_ret
   exact ⟨by rw [HE.out]; rfl, rfl⟩
end Go.Proofs.YthgcnmilaifkoaaGreatDoor

/- append of a text's bytes to a slice of bytes that the call made itself, as one step of a walk. -/
namespace Go.Proofs.YthgcnmilaifkoaaGreatDoor
open Go.RowKit Go.Lib
set_option linter.unusedVariables false

theorem strCells_bs (s : ByteArray) : strCells s = bs s.data.toList := by simp [strCells, bs]
theorem append_text (w : World) {ops : Array Oper} {rest : List Oper} {o : Oper} {a : Act} {Q : Exit → Act → World → Prop} (hgd : o.guard = none) (sl x : Operand)
  (ho : o.op = .call { callee := .builtin .append, args := #[sl, x], argTypes := #[50, 9] })
  (B : Nat) (v : Value) (l : List UInt8) (hs : a.eval sl = v) (hown : Own w B v l) (s : ByteArray) (hx : a.eval x = .string s)
  (hlen : l.length + s.size ≤ 140737488355328) (hB : B ≤ w.heap.size)
  (h : ∀ v' w', Own w' B v' (l ++ s.data.toList) → Grew w w' v v' → wpList Tryz.prog ops Q rest (a.put o.dst v') w') : wpList Tryz.prog ops Q (o :: rest) a w := by
 obtain ⟨i, hi, hz0, hz1, hz2⟩ := info_parts info_u8
 refine wpList_plain hgd fun K hK => ?_
 obtain ⟨v', w', hr, h2, h3, h4⟩ := run_append_own_string (P := Tryz.prog) w B 50 9 o.type 5 i Tryz.underlying50 Tryz.underlying9 hi hz0 hz1 hz2 v l.length (bs l) hown s (by unfold maxLen; omega) hlen hB
 have hown2 : Own w' B v' (l ++ s.data.toList) := by
  unfold Own
  rw [bs_append, List.length_append, ← strCells_bs]
  have : s.data.toList.length = s.size := by simp
  rw [this]
  exact h2
 have hg : Grew w w' v v' := by
  refine ⟨h3, ?_⟩
  intro k hk
  rcases hown.2 with ⟨rfl, h0⟩ | ⟨g, cap, cur, rfl, hbg, hgg, hnc, hcm, hcs, htake⟩
  ·by_cases hm : s.size = 0
   ·have := h4.2 ⟨rfl, hm⟩; subst this; simp [Value.ownBlock] at hk
   ·have hr2 := run_append_nil_string (P := Tryz.prog) w 50 9 o.type 5 i (.int .u8 0) Tryz.underlying50 Tryz.underlying9 hi hz0 s (by omega) (by omega) (by rw [hz2]; omega)
    rw [hr] at hr2
    injection hr2 with e1 e2
    subst e1
    simp [Value.ownBlock] at hk
    right; omega
  ·have hcs' : cur.size = cap := by simpa using hcs
   by_cases hroom : l.length + s.size ≤ cap
   ·have hr2 := run_append_room_string (P := Tryz.prog) w 50 9 o.type 5 i Tryz.underlying50 Tryz.underlying9 hi hz1 g l.length cap cur hgg s hroom (by omega)
    rw [hr] at hr2
    injection hr2 with e1 e2
    subst e1
    left; exact hk
   ·have holds : ∀ j u, (bs l)[j]? = some u → w.cell? ((⟨g, 0, none⟩ : Addr).add j) = some u := World.ownsRow.cells (g := g) hown rfl
    have hr2 := run_append_grow_string (P := Tryz.prog) w 50 9 o.type 5 i (.int .u8 0) Tryz.underlying50 Tryz.underlying9 hi hz0 ⟨g, 0, none⟩ l.length cap (bs l) (by rw [hz1, bs_length]; omega) holds s (by omega) (by omega) (by rw [hz2]; exact growslice_fits (by omega) (by omega))
    rw [hr] at hr2
    injection hr2 with e1 e2
    subst e1
    simp [Value.ownBlock] at hk
    right; omega
 unfold Oper.wp execOp
 simp only [ho, resolve, invoke, builtin, Sem.run_bind, Sem.run_pure, Result.andThen_ok, List.map_toArray, List.map_cons, List.map_nil, hs, hx, hr]
 exact hK _ _ (h v' w' hown2 hg)
end Go.Proofs.YthgcnmilaifkoaaGreatDoor

/- Layer 13 (journal): texts as bytes: writeTexts. -/
namespace Go.Proofs.YthgcnmilaifkoaaGreatDoor
open Go.RowKit
set_option linter.unusedVariables false

def txtB (s : ByteArray) : List UInt8 := byteOf s.size :: s.data.toList
def txtsB (l : List ByteArray) : List UInt8 := l.flatMap txtB
theorem txtB_length (s : ByteArray) : (txtB s).length = s.size + 1 := by simp [txtB]
theorem txtsB_snoc (l : List ByteArray) (s : ByteArray) : txtsB (l ++ [s]) = txtsB l ++ txtB s := by simp [txtsB]
theorem txtsB_take_le : ∀ (l : List ByteArray) (k N : Nat), (∀ x ∈ l, x.size ≤ N) → (txtsB (l.take k)).length ≤ k * (N + 1)
 | [], k, N, _ => by simp [txtsB]
 | x :: l, 0, N, _ => by simp [txtsB]
 | x :: l, k + 1, N, h => by
  have ih := txtsB_take_le l k N (fun y hy => h y (List.mem_cons_of_mem _ hy))
  have h1 := h x (List.mem_cons_self ..)
  have e : txtsB ((x :: l).take (k + 1)) = txtB x ++ txtsB (l.take k) := by simp [txtsB]
  rw [e, List.length_append, txtB_length, Nat.succ_mul]
  omega

/-- Cells that lie apart from the slice v's own block. -/
def Apt (w : World) (v : Value) (ta : Option Addr) (cs : List Value) : Prop := CellsAt w ta cs ∧ (cs ≠ [] → ∀ k, v.ownBlock = some k → ∀ b off, ta = some ⟨b, off, none⟩ → b ≠ k)
theorem Apt.grew {w w' : World} {v v' : Value} {ta : Option Addr} {cs : List Value} (h : Apt w v ta cs) (hg : Grew w w' v v') : Apt w' v' ta cs := by
 constructor
 ·intro hne
  obtain ⟨b, off, ha, hc⟩ := h.1 hne
  exact ⟨b, off, ha, fun j u hj => hg.cell (hc j u hj) fun e => h.2 hne b e.symm b off ha rfl⟩
 ·intro hne k hk b off ha e
  subst e
  rcases hg.place b hk with h1 | h1
  ·exact h.2 hne b h1 b off ha rfl
  ·obtain ⟨b', off', ha', hc⟩ := h.1 hne
   rw [ha] at ha'
   injection ha' with ha'
   injection ha' with e1 e2
   obtain ⟨u, r, rfl⟩ := List.exists_cons_of_ne_nil hne
   have := World.block_lt_of_cell? w _ (hc 0 u rfl)
   simp only at this
   omega
theorem Apt.alloc {w : World} {v : Value} {ta : Option Addr} {cs : List Value} (h : Apt w v ta cs) (o : Obj) : Apt (w.alloc o) v ta cs := ⟨h.1.below ((Below.refl _ _).alloc (Nat.le_refl _) o), h.2⟩
theorem Apt.base {w w0 : World} {B : Nat} {v : Value} {l : List UInt8} {ta : Option Addr} {cs : List Value} (ho : Own w B v l) (hB : w0.heap.size ≤ B) (hb : Below w0.heap.size w0 w) (hc : CellsAt w0 ta cs) : Apt w v ta cs := by
 refine ⟨hc.below hb, fun hne k hk b off ha e => ?_⟩
 subst e
 have h1 := (ho.lt b hk).1
 obtain ⟨b', off', ha', hc⟩ := hc hne
 rw [ha] at ha'
 injection ha' with ha'
 injection ha' with e1 e2
 obtain ⟨u, r, rfl⟩ := List.exists_cons_of_ne_nil hne
 have := World.block_lt_of_cell? w0 _ (hc 0 u rfl)
 simp only at this
 omega

set_option maxRecDepth 100000 in
set_option maxHeartbeats 1000000 in
theorem writeTexts_calls (B : Nat) (v : Value) (l : List UInt8) (ta : Option Addr) (tc : Nat) (ts : List ByteArray) (w : World) (hown : Own w B v l) (hB : B ≤ w.heap.size) (hl : l.length ≤ 70368744177664) (hn : ts.length ≤ 1024) (ht : ∀ x ∈ ts, x.size ≤ 1048576) (hap : Apt w v ta (ts.map Value.string)) :
  Calls Tryz.prog 55 #[v, .slice ta ts.length tc] w fun e w' => ∃ v', e = .returned v' ∧ Own w' B v' (l ++ txtsB ts) ∧ Grew w w' v v' := by
 go_enter Tryz.func55, Tryz.ntmps55
 go_wp2
 go_loopw [0, 9] (fun x i wr => ∃ k : Nat, k ≤ ts.length ∧ i = .int .i64 k ∧ Own wr B x (l ++ txtsB (ts.take k)) ∧ Grew w wr v x) (fun _ i _ => ts.length - (intOf i).toNat)
 case atStart => exact ⟨0, Nat.zero_le _, rfl, by simpa [txtsB] using hown, Grew.refl _ _⟩
 case round =>
  obtain ⟨k, hk, rfl, ho, hg⟩ := hrel
  have hsz := hg.size
  by_cases hlt : k < ts.length
  ·have hle : (l ++ txtsB (ts.take k)).length ≤ 70368744177664 + 1024 * 1048577 := by
    have := txtsB_take_le ts k 1048576 ht
    simp only [List.length_append]
    have : k * 1048577 ≤ 1024 * 1048577 := Nat.mul_le_mul_right _ (by omega)
    omega
   obtain ⟨s, Hs⟩ : ∃ s, Hid (s = ts[k]'hlt) := ⟨_, rfl⟩
   have hss : s.size ≤ 1048576 := by rw [Hs.out]; exact ht _ (List.getElem_mem hlt)
   obtain ⟨b, off, rfl, hcell⟩ := (hap.grew hg).1.str k hlt
   rw [← Hs.out] at hcell
   have HT : Hid (l ++ txtsB (ts.take (k + 1)) = l ++ txtsB (ts.take k) ++ [byteOf s.size] ++ s.data.toList) := by
    show _ = _
    rw [list_take_snoc ts k hlt, txtsB_snoc, ← Hs.out]
    simp [txtB]
   have HN : Hid (bs [byteOf s.size] = [.int .u8 ((s.size : Int) % 256)]) := by simp [bs, byteOf_val, Hid]
   clear Hs
   obtain ⟨p, Hp⟩ : ∃ p, Hid (p = l ++ txtsB (ts.take k)) := ⟨_, rfl⟩
   rw [← Hp.out] at ho hle HT
   clear Hp
   go_wp2_with (at_builtin; refine append_bytes _ rfl (.tmp 13) (.tmp 17) rfl B _ _ rfl (ho.alloc _) ⟨wr.heap.size, 0, none⟩ 1 1 [byteOf s.size] rfl rfl (by intro j u hj; rw [HN.out] at hj; exact cells_new _ _ _ j u hj) (by omega) (by simp; omega) ?_)
   intro v1 w1 ho1 hg1
   have hg2 := hg.trans hg1.ofAlloc
   have hsz2 := hg2.size
   clear ho hg hg1 hcell
   have hle1 : (p ++ [byteOf s.size]).length ≤ 70368744177664 + 1024 * 1048577 + 1 := by simp only [List.length_append, List.length_cons, List.length_nil]; omega
   obtain ⟨p1, Hp1⟩ : ∃ p1, Hid (p1 = p ++ [byteOf s.size]) := ⟨_, rfl⟩
   rw [← Hp1.out] at ho1 hle1 HT
   clear Hp1
   go_wp2_with (at_builtin; refine append_text _ rfl (.tmp 19) (.tmp 20) rfl B _ _ rfl ho1 s rfl (by omega) (by omega) ?_)
   intro v2 w2 ho2 hg3
   have hg4 := hg2.trans hg3
   clear ho1 hg2 hg3
   go_wp2
   go_roundw
   case rel => exact ⟨k + 1, by omega, by go_num, by rw [HT.out]; exact ho2, hg4⟩
   case measure => simp [intOf]; omega
  ·obtain rfl : k = ts.length := by omega
   go_wp2
   go_ret
   exact ⟨_, rfl, by rw [List.take_of_length_le (by omega)] at ho; exact ho, hg⟩
theorem writeTexts_lit (B : Nat) (v : Value) (l : List UInt8) (ts : List ByteArray) (g n c : Nat) (cs : Array Value) (W : World) (hown : Own W B v l) (hB : B ≤ W.heap.size) (hl : l.length ≤ 70368744177664) (hg : g = W.heap.size) (hn : ts.length = n) (hcs : cs = (ts.map Value.string).toArray) (hk : n ≤ 1024) (ht : ∀ x ∈ ts, x.size ≤ 1048576) :
  Calls Tryz.prog 55 #[v, .slice (some ⟨g, 0, none⟩) n c] (W.alloc (.cells cs 9)) fun e w' => ∃ v', e = .returned v' ∧ Own w' B v' (l ++ txtsB ts) ∧ Grew W w' v v' := by
 subst hg hn hcs
 refine (writeTexts_calls B v l (some ⟨W.heap.size, 0, none⟩) c ts _ (hown.alloc _) (by simp; omega) hl hk ht ⟨?_, ?_⟩).mono ?_
 ·intro hne
  refine ⟨W.heap.size, 0, rfl, fun j u hj => ?_⟩
  rw [Nat.zero_add, World.cell?_alloc_mark]
  simpa using hj
 ·intro _ k hk b off e e2
  injection e with e
  injection e with e1
  subst e1 e2
  have := (hown.lt _ hk).2
  omega
 ·rintro e w' ⟨v', rfl, h1, h2⟩
  exact ⟨v', rfl, h1, h2.ofAlloc⟩
end Go.Proofs.YthgcnmilaifkoaaGreatDoor

/- Layer 13 (journal): the sum of bytes, plain. -/
namespace Go.Proofs.YthgcnmilaifkoaaGreatDoor
open Go.RowKit
set_option linter.unusedVariables false

def crcBit (s : Nat) : Nat := if s % 2 = 1 then (s / 2) ^^^ 3988292384 else s / 2
def crcN : Nat → Nat → Nat
 | 0, s => s
 | k + 1, s => crcBit (crcN k s)
def crcByte (s : Nat) (c : UInt8) : Nat := crcN 8 (s ^^^ c.toNat)
def crcs (s : Nat) (l : List UInt8) : Nat := l.foldl crcByte s
def sumB (l : List UInt8) : Nat := 4294967295 - crcs 4294967295 l

theorem crcBit_lt {s : Nat} (h : s < 4294967296) : crcBit s < 4294967296 := by
 unfold crcBit
 split
 ·have := Nat.xor_lt_two_pow (n := 32) (x := s / 2) (y := 3988292384) (by omega) (by omega)
  omega
 ·omega
theorem crcN_lt {s : Nat} (h : s < 4294967296) : ∀ k, crcN k s < 4294967296
 | 0 => h
 | k + 1 => crcBit_lt (crcN_lt h k)
theorem crcX_lt {s : Nat} (h : s < 4294967296) (c : UInt8) : s ^^^ c.toNat < 4294967296 := by
 have h2 := c.toNat_lt
 have := Nat.xor_lt_two_pow (n := 32) (x := s) (y := c.toNat) (by omega) (by omega)
 omega
theorem crcByte_lt {s : Nat} (h : s < 4294967296) (c : UInt8) : crcByte s c < 4294967296 := crcN_lt (crcX_lt h c) 8
theorem crcs_lt : ∀ (l : List UInt8) {s : Nat}, s < 4294967296 → crcs s l < 4294967296
 | [], _, h => h
 | c :: l, _, h => crcs_lt l (crcByte_lt h c)
theorem crcs_snoc (s : Nat) (l : List UInt8) (c : UInt8) : crcs s (l ++ [c]) = crcByte (crcs s l) c := by simp [crcs]
theorem sumB_lt (l : List UInt8) : sumB l < 4294967296 := by unfold sumB; omega

/-- The program's step. -/
theorem crc_step {t : Nat} (h : t < 4294967296) : bits .xor .u32 ((t : Int) / 2) (3988292384 * bits .and .u32 (t : Int) 1 % 4294967296) = (crcBit t : Int) := by
 have ha : bits .and .u32 (t : Int) 1 = ((t % 2 : Nat) : Int) := by
  have := u32_and_nat t 1 (by omega) (by omega)
  rw [Nat.and_one_is_mod] at this
  exact this
 rw [ha]
 unfold crcBit
 rcases Nat.mod_two_eq_zero_or_one t with h2 | h2
 ·rw [h2]
  rw [if_neg (by decide)]
  have e : 3988292384 * ((0 : Nat) : Int) % 4294967296 = ((0 : Nat) : Int) := by decide
  rw [e]
  have := u32_xor_nat (t / 2) 0 (by omega) (by omega)
  rw [Nat.xor_zero] at this
  exact this
 ·rw [h2, if_pos rfl]
  have e : 3988292384 * ((1 : Nat) : Int) % 4294967296 = ((3988292384 : Nat) : Int) := by decide
  rw [e]
  exact u32_xor_nat (t / 2) 3988292384 (by omega) (by omega)
theorem crc_in {t : Nat} (h : t < 4294967296) (c : UInt8) : bits .xor .u32 (t : Int) (c.toNat : Int) = ((t ^^^ c.toNat : Nat) : Int) :=
 u32_xor_nat t c.toNat h (by have := c.toNat_lt; omega)
theorem ones_xor {t : Nat} (h : t < 4294967296) : 4294967295 ^^^ t = 4294967295 - t := by
 have h1 := congrArg BitVec.toNat (BitVec.allOnes_xor (x := BitVec.ofNat 32 t))
 rw [BitVec.toNat_xor, BitVec.toNat_not, BitVec.toNat_allOnes, BitVec.toNat_ofNat, Nat.mod_eq_of_lt h] at h1
 exact h1
theorem crc_out {t : Nat} (h : t < 4294967296) : bits .xor .u32 IntKind.u32.max (t : Int) = ((4294967295 - t : Nat) : Int) := by
 have := u32_xor_nat 4294967295 t (by omega) h
 rw [ones_xor h] at this
 exact this
/-- The document's step: s and the rest of the byte apart. -/
theorem crc_ref {s c : Nat} : (if s % 2 ≠ c % 2 then (s / 2) ^^^ 3988292384 else s / 2) ^^^ (c / 2) = crcBit (s ^^^ c) := by
 unfold crcBit
 have h1 : (s ^^^ c) / 2 = s / 2 ^^^ c / 2 := Nat.xor_div_two
 have h2 : (s ^^^ c) % 2 = 1 ↔ s % 2 ≠ c % 2 := by
  rw [Nat.xor_mod_two_eq_one]
  omega
 rw [h1]
 by_cases h : s % 2 ≠ c % 2
 ·rw [if_pos h, if_pos (h2.2 h)]
  rw [Nat.xor_assoc, Nat.xor_comm 3988292384, ← Nat.xor_assoc]
 ·rw [if_neg h, if_neg (fun e => h (h2.1 e))]
end Go.Proofs.YthgcnmilaifkoaaGreatDoor

/- Layer 13 (journal): the bytes of operations and entries, plain; what is sound. -/
namespace Go.Proofs.YthgcnmilaifkoaaGreatDoor
open Go.RowKit
set_option linter.unusedVariables false

def casB (o : Opp) : List UInt8 := if o.cas then 1 :: big 8 o.want else [0]
def svcB (s : Sp) : List UInt8 := txtsB [s.node, s.id, s.name] ++ big 2 s.port ++ [byteOf s.tags.length] ++ txtsB s.tags
def chkB (c : Ck) : List UInt8 := txtsB [c.node, c.id, c.service] ++ [byteOf c.status] ++ txtsB [c.note]
def bodyB (o : Opp) : List UInt8 :=
 if o.kind = 1 then txtsB [o.node.name, o.node.addr] else if o.kind = 2 then svcB o.svc else if o.kind = 3 then chkB o.chk else
 if o.kind = 4 then txtsB [o.node.name] else if o.kind = 5 then txtsB [o.svc.node, o.svc.id] else txtsB [o.chk.node, o.chk.id]
def opB (o : Opp) : List UInt8 := byteOf o.kind :: casB o ++ bodyB o
def opsB (os : List Opp) : List UInt8 := os.flatMap opB
def payB (i : Int) (os : List Opp) : List UInt8 := big 8 i ++ [byteOf os.length] ++ opsB os
def frameB (p : List UInt8) : List UInt8 := [77] ++ big 4 p.length ++ p ++ big 4 (sumB p)

def sameN (a b : Nd) : Bool := decide (a.name = b.name) && decide (a.addr = b.addr) && (a.made == b.made) && (a.changed == b.changed)
def sameS (a b : Sp) : Bool := decide (a.node = b.node) && decide (a.id = b.id) && decide (a.name = b.name) && (a.port == b.port) && decide (a.tags = b.tags) && (a.made == b.made) && (a.changed == b.changed)
def sameC (a b : Ck) : Bool := decide (a.node = b.node) && decide (a.id = b.id) && decide (a.service = b.service) && (a.status == b.status) && decide (a.note = b.note) && (a.made == b.made) && (a.changed == b.changed)
def sameO (a b : Opp) : Bool := (a.kind == b.kind) && sameN a.node b.node && sameS a.svc b.svc && sameC a.chk b.chk && (a.cas == b.cas) && (a.want == b.want)
theorem sameN_iff (a b : Nd) : sameN a b = true ↔ a = b := by
 obtain ⟨a1, a2, a3, a4⟩ := a
 obtain ⟨b1, b2, b3, b4⟩ := b
 simp [sameN, and_assoc]
theorem sameS_iff (a b : Sp) : sameS a b = true ↔ a = b := by
 obtain ⟨a1, a2, a3, a4, a5, a6, a7⟩ := a
 obtain ⟨b1, b2, b3, b4, b5, b6, b7⟩ := b
 simp [sameS, and_assoc]
theorem sameC_iff (a b : Ck) : sameC a b = true ↔ a = b := by
 obtain ⟨a1, a2, a3, a4, a5, a6, a7⟩ := a
 obtain ⟨b1, b2, b3, b4, b5, b6, b7⟩ := b
 simp [sameC, and_assoc]
theorem sameO_iff (a b : Opp) : sameO a b = true ↔ a = b := by
 obtain ⟨a1, a2, a3, a4, a5, a6⟩ := a
 obtain ⟨b1, b2, b3, b4, b5, b6⟩ := b
 simp [sameO, and_assoc, sameN_iff, sameS_iff, sameC_iff]
/-- An operation that is its own normal form. -/
def sndB (o : Opp) : Bool := decide (oppE o = 0) && sameO o (oppF o)
theorem sndB_iff (o : Opp) : sndB o = true ↔ oppE o = 0 ∧ o = oppF o := by simp [sndB, sameO_iff]
/-- An entry that is sound. -/
def soundB (os : List Opp) : Bool := decide (1 ≤ os.length) && decide (os.length ≤ 64) && os.all sndB

theorem lab_le {s : ByteArray} : (labT s).size ≤ 63 := by
 unfold labT
 split
 ·rename_i h
  have := (labB_all h).2.1
  rw [lowS_size]
  exact this
 ·exact Nat.zero_le _
theorem dec_le {n : Nat} (h : n ≤ 255) : (Lib.decDigits n).length ≤ 3 := by
 by_cases h1 : n < 10
 ·rw [dec_one h1]; simp
 rw [dec_more h1]
 by_cases h2 : n / 10 < 10
 ·rw [dec_one h2]; simp
 rw [dec_more h2]
 rw [dec_one (by omega)]
 simp
theorem oct_short {l : List UInt8} (h : (octP l).isSome = true) : l.length ≤ 3 := by
 obtain ⟨n, hn⟩ := Option.isSome_iff_exists.1 h
 obtain ⟨h1, h2⟩ := oct_dec hn
 rw [← h1]
 exact dec_le h2
theorem sp_sum (c : UInt8) : ∀ l : List UInt8, (sp c l).flatten.length + (sp c l).length = l.length + 1
 | [] => by simp [sp]
 | b :: l => by
  have ih := sp_sum c l
  rw [sp_cons]
  split
  ·simp only [List.flatten_cons, List.length_append, List.length_cons, List.length_nil]; omega
  ·split
   ·next p r e =>
    rw [e] at ih
    simp only [List.flatten_cons, List.length_append, List.length_cons] at ih ⊢
    omega
   ·next e => exact absurd e (sp_ne c l)
theorem flat_le (N : Nat) : ∀ l : List (List UInt8), (∀ p ∈ l, p.length ≤ N) → l.flatten.length ≤ l.length * N
 | [], _ => by simp
 | p :: l, h => by
  have ih := flat_le N l fun q hq => h q (List.mem_cons_of_mem _ hq)
  have := h p (List.mem_cons_self ..)
  simp only [List.flatten_cons, List.length_append, List.length_cons, Nat.succ_mul]
  omega
theorem sp_total (c : UInt8) (l : List UInt8) (h1 : (sp c l).length ≤ 4) (h2 : ∀ p ∈ sp c l, p.length ≤ 3) : l.length ≤ 15 := by
 have a := sp_sum c l
 have b := flat_le 3 _ h2
 omega
theorem adr_le {s : ByteArray} (h : adrE s = 0) : s.size ≤ 15 := by
 have hk : adrOk s = true := by
  cases hk : adrOk s
  ·rw [(adr_no hk).2] at h; cases h
  ·rfl
 simp only [adrOk, Bool.and_eq_true, beq_iff_eq, List.all_eq_true] at hk
 have e := ws_sp s 46
 have hl : (sp 46 s.data.toList).length = 4 := by rw [← e, List.length_map]; exact hk.1
 have := sp_total 46 s.data.toList (by omega) (fun p hp => by
  rw [← e] at hp
  obtain ⟨q, hq, rfl⟩ := List.mem_map.1 hp
  exact oct_short (hk.2 q hq))
 simpa using this

/-- The six kinds of operations that are their own normal form. -/
inductive Snd : Opp → Prop
 | node (n a : ByteArray) (b : Bool) (x : Int) : (b = false → x = 0) → n.size ≤ 63 → a.size ≤ 15 → Snd ⟨1, ⟨n, a, 0, 0⟩, svcZ, chkZ, b, x⟩
 | svc (n i m : ByteArray) (p : Int) (t : List ByteArray) (b : Bool) (x : Int) : (b = false → x = 0) → n.size ≤ 63 → i.size ≤ 63 → m.size ≤ 63 → 1 ≤ p → p ≤ 65535 → t.length ≤ 16 → (∀ y ∈ t, y.size ≤ 63) → Snd ⟨2, nodeZ, ⟨n, i, m, p, t, 0, 0⟩, chkZ, b, x⟩
 | chk (n i m : ByteArray) (p : Int) (t : ByteArray) (b : Bool) (x : Int) : (b = false → x = 0) → n.size ≤ 63 → i.size ≤ 63 → m.size ≤ 63 → 1 ≤ p → p ≤ 3 → t.size ≤ 200 → Snd ⟨3, nodeZ, svcZ, ⟨n, i, m, p, t, 0, 0⟩, b, x⟩
 | dnode (n : ByteArray) (b : Bool) (x : Int) : (b = false → x = 0) → n.size ≤ 63 → Snd ⟨4, ⟨n, ⟨#[]⟩, 0, 0⟩, svcZ, chkZ, b, x⟩
 | dsvc (n i : ByteArray) (b : Bool) (x : Int) : (b = false → x = 0) → n.size ≤ 63 → i.size ≤ 63 → Snd ⟨5, nodeZ, ⟨n, i, ⟨#[]⟩, 0, [], 0, 0⟩, chkZ, b, x⟩
 | dchk (n i : ByteArray) (b : Bool) (x : Int) : (b = false → x = 0) → n.size ≤ 63 → i.size ≤ 63 → Snd ⟨6, nodeZ, svcZ, ⟨n, i, ⟨#[]⟩, 0, ⟨#[]⟩, 0, 0⟩, b, x⟩
theorem want_no {o : Opp} : o.cas = false → wantF o = 0 := fun h => by unfold wantF; rw [h]; rfl
theorem orE_zeros {a b : Int} (h : orE a b = 0) : a = 0 ∧ b = 0 := by
 unfold orE at h
 split at h
 ·rename_i h2; exact ⟨h2, h⟩
 ·rename_i h2; exact absurd h h2
theorem spT_le {s : ByteArray} : (spT s).size ≤ 63 := by
 unfold spT
 split
 ·exact Nat.zero_le _
 ·exact lab_le
theorem tagsB_le {l : List ByteArray} (h : tagsE l = 0) : (tagsB l).length ≤ 16 ∧ ∀ y ∈ tagsB l, y.size ≤ 63 := by
 by_cases hk : tagsOk l
 ·have h2 := (tags_yes hk).2
  constructor
  ·rw [tagsB_len, h2]
   refine Nat.le_trans (compact_le _) ?_
   rw [List.length_mergeSort, List.length_map]
   exact hk.1
  ·intro y hy
   obtain ⟨x, hx, rfl⟩ := tagsB_mem hk hy
   have := (labB_all (hk.2 x hx)).2.1
   rw [lowS_size]
   exact this
 ·rw [(tags_no hk).1] at h
  cases h
theorem snd_shape {o : Opp} (h : sndB o = true) : Snd o := by
 obtain ⟨he, hf⟩ := (sndB_iff o).1 h
 unfold oppF at hf
 rw [if_pos he] at hf
 rw [hf]
 unfold oppE at he
 unfold oppN
 by_cases h1 : o.kind = 1
 ·rw [if_pos h1] at he ⊢
  have hz := orE_zeros he
  rw [fixN_yes he, h1]
  exact .node _ _ _ _ want_no lab_le (adr_le hz.2)
 rw [if_neg h1] at he ⊢
 by_cases h2 : o.kind = 2
 ·rw [if_pos h2] at he ⊢
  have hz := svc_parts he
  rw [svc_yes he, h2]
  have hp := hz.2.2.1
  unfold portE at hp
  split at hp
  ·cases hp
  ·exact .svc _ _ _ _ _ _ _ want_no lab_le lab_le lab_le (by omega) (by omega) (tagsB_le hz.2.2.2).1 (tagsB_le hz.2.2.2).2
 rw [if_neg h2] at he ⊢
 by_cases h3 : o.kind = 3
 ·rw [if_pos h3] at he ⊢
  have hz := chk_parts he
  rw [chk_yes he, h3]
  have hp := hz.2.2.1
  have hn := hz.2.2.2
  unfold statE at hp
  unfold noteE at hn
  split at hp
  ·split at hn
   ·rename_i hh hh2
    exact .chk _ _ _ _ _ _ _ want_no lab_le lab_le spT_le (by omega) (by omega) hh2.1
   ·cases hn
  ·cases hp
 rw [if_neg h3] at he ⊢
 by_cases h4 : o.kind = 4
 ·rw [if_pos h4, h4]
  exact .dnode _ _ _ want_no lab_le
 rw [if_neg h4] at he ⊢
 by_cases h5 : o.kind = 5
 ·rw [if_pos h5, h5]
  exact .dsvc _ _ _ _ want_no lab_le lab_le
 rw [if_neg h5] at he ⊢
 by_cases h6 : o.kind = 6
 ·rw [h6]
  exact .dchk _ _ _ _ want_no lab_le lab_le
 rw [if_neg h6] at he
 cases he
end Go.Proofs.YthgcnmilaifkoaaGreatDoor
