import Derived.Test.YtieonnnlhhdfpaaGreatDoorSGenB
import Derived.Test.YtieonnnlhhdfpaaGreatDoorSBase
import Derived.Test.YtieonnnlhhdfpaaGreatDoorChecked
import Derived.Laws.BitsAllLaws
/- Layer 13 (journal): bytes in memory. -/
namespace Go.Proofs.YtieonnnlhhdfpaaGreatDoor
open Go.RowKit
set_option linter.unusedVariables false

/-- The bytes l lie one behind the other at the address. -/
def BAt (w : World) (ao : Option Addr) (l : List UInt8) : Prop := CellsAt w ao (bs l)
theorem BAt.below {w w' : World} {ao : Option Addr} {l : List UInt8} (h : BAt w ao l) (hb : Below w.heap.size w w') : BAt w' ao l := CellsAt.below h hb
theorem BAt.at {w : World} {ao : Option Addr} {l : List UInt8} (h : BAt w ao l) (k : Nat) (hk : k < l.length) : ∃ b off, ao = some ⟨b, off, none⟩ ∧ w.cell? ⟨b, off + k, none⟩ = some (.int .u8 (l[k].toNat : Int)) := by
  obtain ⟨b, off, ha, hc⟩ := h (fun e => by have := bs_length l; rw [e] at this; simp at this; omega)
  exact ⟨b, off, ha, hc k _ (by simp [bs, hk])⟩
theorem Own.bytes {w : World} {B : Nat} {ao : Option Addr} {cap : Nat} {l : List UInt8} (h : Own w B (.slice ao l.length cap) l) : BAt w ao l := row_cells h
theorem BAt.nil (w : World) (ao : Option Addr) : BAt w ao [] := fun h => absurd rfl h
theorem byte_le (c : UInt8) : (c.toNat : Int) ≤ 255 := by have := c.toNat_lt; omega
theorem list_take_snoc {α : Type} (l : List α) (k : Nat) (h : k < l.length) : l.take (k + 1) = l.take k ++ [l[k]] := List.take_succ_eq_append_getElem h
end Go.Proofs.YtieonnnlhhdfpaaGreatDoor

/- append on a slice of bytes that the call made itself, as one step of a walk. -/
namespace Go.Proofs.YtieonnnlhhdfpaaGreatDoor
open Go.RowKit
set_option linter.unusedVariables false

theorem info_u8 : (Tryz.prog.info? 5).map (fun i => (i.zero, i.size, i.bytes)) = some (some (.int .u8 0), 1, 1) := by kernel_rfl

theorem append_bytes (w : World) {ops : Array Oper} {rest : List Oper} {o : Oper} {a : Act} {Q : Exit → Act → World → Prop} (hgd : o.guard = none) (s x : Operand)
    (ho : o.op = .call { callee := .builtin .append, args := #[s, x], argTypes := #[28, 28] })
    (B : Nat) (v : Value) (l : List UInt8) (hs : a.eval s = v) (hown : Own w B v l)
    (ad : Addr) (m c : Nat) (news : List UInt8) (hx : a.eval x = .slice (some ad) m c) (hm : news.length = m) (hnews : ∀ j u, (bs news)[j]? = some u → w.cell? (ad.add j) = some u)
    (hlen : l.length + m ≤ 140737488355328) (hB : B ≤ w.heap.size)
    (h : ∀ v' w', Own w' B v' (l ++ news) → Grew w w' v v' → wpList Tryz.prog ops Q rest (a.put o.dst v') w') : wpList Tryz.prog ops Q (o :: rest) a w := by
  obtain ⟨i0, hi, hz0, hz1, hz2⟩ := info_parts info_u8
  subst hm
  refine wpList_append_grew w hgd s x 28 ho B 5 i0 (.int .u8 0) 1 1 Tryz.underlying28 hi hz0 hz1 hz2 rfl (by decide) v l.length (bs l) hs hown ad news.length c (bs news) hx (by simp [bs]) hnews (bs_one _) (by unfold maxLen; omega) (by omega) hB ?_
  intro v' w' h1 h2 _
  refine h v' w' ?_ h2
  unfold Own
  rw [bs_append, List.length_append]
  exact h1

/-- .. where what is appended is a literal that was laid right ahead of it. -/
theorem append_lit (W : World) {ops : Array Oper} {rest : List Oper} {o : Oper} {a : Act} {Q : Exit → Act → World → Prop} (hgd : o.guard = none) (s x : Operand)
    (ho : o.op = .call { callee := .builtin .append, args := #[s, x], argTypes := #[28, 28] })
    (B : Nat) (v : Value) (l : List UInt8) (hs : a.eval s = v) (news : List UInt8) (g m c : Nat) (cs : Array Value) (hx : a.eval x = .slice (some ⟨g, 0, none⟩) m c) (hm : news.length = m) (hc : cs = (bs news).toArray)
    (hg : g = W.heap.size) (hown : Own W B v l) (hlen : l.length + m ≤ 140737488355328) (hB : B ≤ W.heap.size)
    (h : ∀ v' w', Own w' B v' (l ++ news) → Grew W w' v v' → wpList Tryz.prog ops Q rest (a.put o.dst v') w') : wpList Tryz.prog ops Q (o :: rest) a (W.alloc (.cells cs 5)) := by
  subst hg hc
  exact append_bytes _ hgd s x ho B v l hs (hown.alloc _) ⟨W.heap.size, 0, none⟩ m c news hx hm (cells_new _ _ _) hlen (by simp; omega) fun v' w' h1 h2 => h v' w' h1 h2.ofAlloc

end Go.Proofs.YtieonnnlhhdfpaaGreatDoor

/- Layer 13 (journal): numbers as bytes, the highest first: writeNumber, readNumber. -/
namespace Go.Proofs.YtieonnnlhhdfpaaGreatDoor
open Go.RowKit
set_option linter.unusedVariables false

def byteOf (x : Int) : UInt8 := UInt8.ofNat (x % 256).toNat
theorem byteOf_val (x : Int) : ((byteOf x).toNat : Int) = x % 256 := by
  unfold byteOf
  rw [UInt8.toNat_ofNat']; omega
/-- The lowest k bytes of n, the highest first. -/
def big : Nat → Int → List UInt8
  | 0, _ => []
  | k + 1, n => big k (n / 256) ++ [byteOf n]
theorem big_length : ∀ (k : Nat) (n : Int), (big k n).length = k
  | 0, _ => rfl
  | k + 1, n => by simp [big, big_length k]
theorem pow_step (n : Int) (d : Nat) : n / 256 / 2 ^ (8 * d) = n / 2 ^ (8 * (d + 1)) := by
  rw [Int.ediv_ediv_of_nonneg (by omega), show 8 * (d + 1) = 8 + 8 * d by omega, Int.pow_add]
  rfl
theorem big_at : ∀ (s : Nat) (n : Int) (k : Nat), k < s → (big s n).take (k + 1) = (big s n).take k ++ [byteOf (n / 2 ^ (8 * (s - 1 - k)))]
  | 0, _, _, h => by omega
  | s + 1, n, k, h => by
    have hl := big_length s (n / 256)
    by_cases hk : k = s
    · subst hk
      have e0 : k + 1 - 1 - k = 0 := by omega
      rw [e0]
      simp only [big, Nat.mul_zero, Int.pow_zero, Int.ediv_one]
      rw [List.take_of_length_le (by simp [hl]), List.take_append_of_le_length (by omega), List.take_of_length_le (by omega)]
    · have ih := big_at s (n / 256) k (by omega)
      simp only [big]
      rw [List.take_append_of_le_length (by omega), List.take_append_of_le_length (by omega), ih, pow_step]
      rw [show s - 1 - k + 1 = s + 1 - 1 - k by omega]
/-- The number whose bytes those are. -/
def unbig (l : List UInt8) : Nat := l.foldl (fun n c => n * 256 + c.toNat) 0
theorem unbig_snoc (l : List UInt8) (c : UInt8) : unbig (l ++ [c]) = unbig l * 256 + c.toNat := by simp [unbig]
theorem unbig_lt : ∀ (k : Nat) (l : List UInt8), l.length = k → unbig l < 256 ^ k
  | 0, l, h => by
    obtain rfl := List.eq_nil_of_length_eq_zero h
    decide
  | k + 1, l, h => by
    rcases List.eq_nil_or_concat l with rfl | ⟨m, c, rfl⟩
    · simp at h
    · rw [List.concat_eq_append] at *
      rw [unbig_snoc]
      have := unbig_lt k m (by simp at h; omega)
      have := c.toNat_lt
      rw [Nat.pow_succ]
      omega
theorem big_unbig : ∀ (k : Nat) (l : List UInt8), l.length = k → big k (unbig l) = l
  | 0, l, h => by
    obtain rfl := List.eq_nil_of_length_eq_zero h
    rfl
  | k + 1, l, h => by
    rcases List.eq_nil_or_concat l with rfl | ⟨m, c, rfl⟩
    · simp at h
    · rw [List.concat_eq_append] at *
      have hm : m.length = k := by simp at h; omega
      rw [unbig_snoc]
      have := c.toNat_lt
      have e1 : ((unbig m * 256 + c.toNat : Nat) : Int) / 256 = (unbig m : Int) := by omega
      have e2 : byteOf ((unbig m * 256 + c.toNat : Nat) : Int) = c := by
        apply UInt8.toNat_inj.1
        have := byteOf_val ((unbig m * 256 + c.toNat : Nat) : Int)
        omega
      simp only [big]
      rw [e1, e2, big_unbig k m hm]
theorem unbig_big : ∀ (k : Nat) (n : Int), 0 ≤ n → n < 256 ^ k → (unbig (big k n) : Int) = n
  | 0, n, h0, h1 => by
    rw [Int.pow_zero] at h1
    have : n = 0 := by omega
    subst this
    rfl
  | k + 1, n, h0, h1 => by
    simp only [big]
    rw [unbig_snoc]
    have ih := unbig_big k (n / 256) (by omega) (by rw [Int.pow_succ] at h1; omega)
    have := byteOf_val n
    omega

set_option maxRecDepth 100000 in
set_option maxHeartbeats 1000000 in
theorem writeNumber_calls (B : Nat) (v : Value) (l : List UInt8) (n : Int) (s : Nat) (w : World) (hown : Own w B v l) (hB : B ≤ w.heap.size) (hl : l.length ≤ 140737488355000) (h0 : 0 ≤ n) (h1 : n ≤ 18446744073709551615) (hs : s ≤ 8) :
    Calls Tryz.prog 25 #[v, .int .u64 n, .int .i64 s] w fun e w' => ∃ v', e = .returned v' ∧ Own w' B v' (l ++ big s n) ∧ Grew w w' v v' := by
  go_enter Tryz.func25, Tryz.ntmps25
  go_wp2
  go_loopw [0, 7] (fun x i wr => ∃ k : Nat, k ≤ s ∧ i = .int .i64 ((s : Int) - 1 - (k : Int)) ∧ Own wr B x (l ++ (big s n).take k) ∧ Grew w wr v x) (fun _ i _ => (intOf i + 1).toNat)
  case atStart => exact ⟨0, Nat.zero_le _, by simp, by simpa using hown, Grew.refl _ _⟩
  case round =>
    obtain ⟨k, hk, rfl, ho, hg⟩ := hrel
    have hsz := hg.size
    by_cases hlt : k < s
    · have hle : (l ++ (big s n).take k).length ≤ l.length + 8 := by
        have : ((big s n).take k).length ≤ 8 := by rw [List.length_take, big_length]; omega
        simp only [List.length_append]; omega
      have HN : Hid (bs [byteOf (n / 2 ^ (8 * (s - 1 - k)))] = [.int .u8 (n / 2 ^ (8 * (s - 1 - k)) % 256)]) := by simp [bs, byteOf_val, Hid]
      obtain ⟨p, Hp⟩ : ∃ p : Nat, Hid (p = s - 1 - k) := ⟨_, rfl⟩
      have hp : ((s : Int) - 1 - (k : Int)) = (p : Int) := by rw [Hp.out]; omega
      have hp8 : p < 8 := by rw [Hp.out]; omega
      have HT : Hid ((big s n).take (k + 1) = (big s n).take k ++ [byteOf (n / 2 ^ (8 * p))]) := by rw [Hp.out]; exact big_at s n k hlt
      rw [← Hp.out] at HN
      rw [hp]
      have HP : Hid (((s : Int) - 1 - (k : Int)) = (p : Int)) := hp
      clear hp
      go_wp2_with (at_builtin; refine append_bytes _ rfl (.tmp 14) (.tmp 20) rfl B _ _ rfl (ho.alloc _) ⟨wr.heap.size, 0, none⟩ 1 1 [byteOf (n / 2 ^ (8 * p))] rfl rfl (by intro j u hj; rw [HN.out] at hj; exact cells_new _ _ _ j u hj) (by omega) (by simp; omega) ?_)
      intro v1 w1 ho1 hg1
      have hg2 := hg.trans hg1.ofAlloc
      clear ho hg hg1
      go_wp2
      go_roundw
      case rel => exact ⟨k + 1, by omega, by have := HP.out; congr 1; omega, by rw [HT.out]; simpa only [List.append_assoc] using ho1, hg2⟩
      case measure => simp [intOf]
    · obtain rfl : k = s := by omega
      go_wp2
      go_ret
      exact ⟨_, rfl, by rw [List.take_of_length_le (by rw [big_length]; omega)] at ho; exact ho, hg⟩

theorem shl_or {n : Nat} (c : UInt8) (h : n < 72057594037927936) : bits .or .u64 ((n : Int) * 256) (c.toNat : Int) = ((n * 256 + c.toNat : Nat) : Int) := by
  have hc := c.toNat_lt
  have e : ((n : Int) * 256) = ((n * 256 : Nat) : Int) := by omega
  rw [e, u64_or_nat (n * 256) c.toNat (by omega) (by omega)]
  have e2 : n * 256 ||| c.toNat = n * 256 + c.toNat := by
    rw [Nat.mul_comm, show (256 : Nat) = 2 ^ 8 from rfl, Nat.two_pow_add_eq_or_of_lt (by omega)]
  rw [e2]

set_option maxRecDepth 100000 in
set_option maxHeartbeats 1000000 in
theorem readNumber_calls (ao : Option Addr) (cap : Nat) (l : List UInt8) (w : World) (hl : l.length ≤ 8) (h : BAt w ao l) :
    Calls Tryz.prog 44 #[.slice ao l.length cap] w fun e w' => e = .returned (.int .u64 (unbig l : Nat)) ∧ w' = w := by
  go_enter Tryz.func44, Tryz.ntmps44
  go_wp2
  go_loopw [3, 8] (fun s i wr => ∃ k : Nat, k ≤ l.length ∧ i = .int .i64 k ∧ s = .int .u64 (unbig (l.take k) : Nat) ∧ wr = w) (fun _ i _ => l.length - (intOf i).toNat)
  case atStart => exact ⟨0, Nat.zero_le _, rfl, by simp [unbig], rfl⟩
  case round =>
    obtain ⟨k, hk, rfl, rfl, rfl⟩ := hrel
    obtain ⟨t, Ht⟩ : ∃ t, Hid (t = unbig (l.take k)) := ⟨_, rfl⟩
    rw [← Ht.out]
    by_cases hlt : k < l.length
    · have ht : t < 72057594037927936 := by
        have h1 := unbig_lt (l.take k).length (l.take k) rfl
        rw [← Ht.out] at h1
        have h2 : (l.take k).length ≤ 7 := by rw [List.length_take]; omega
        exact Nat.lt_of_lt_of_le h1 (Nat.le_trans (Nat.pow_le_pow_right (by decide) h2) (by decide))
      obtain ⟨b, off, rfl, hc⟩ := h.at k hlt
      obtain ⟨c, Hc⟩ : ∃ c, Hid (c = l[k]'hlt) := ⟨_, rfl⟩
      rw [← Hc.out] at hc
      have hcl := byte_le c
      have HN : Hid (unbig (l.take (k + 1)) = t * 256 + c.toNat) := by
        show _ = _
        rw [list_take_snoc l k hlt, unbig_snoc, ← Ht.out, ← Hc.out]
      have HO : Hid (bits .or .u64 ((t : Int) * 256) (c.toNat : Int) = ((t * 256 + c.toNat : Nat) : Int)) := shl_or c ht
      clear Ht Hc
      go_wp2
      go_roundw
      case rel => exact ⟨k + 1, by omega, by go_num, by rw [HN.out]; exact congrArg (Value.int .u64) HO.out, by trivial⟩
      case measure => simp [intOf]; omega
    · have HE : Hid (t = unbig l) := by show _ = _; rw [Ht.out, List.take_of_length_le (by omega)]
      go_wp2
      go_ret
      exact ⟨by rw [HE.out]; rfl, rfl⟩
end Go.Proofs.YtieonnnlhhdfpaaGreatDoor
