import Derived.Test.YtjbnbpclelbohaaKOwn
import Derived.Test.YtjbnbpclelbohaaChecked
/- append on a slice of bytes that the call made itself, as one step of a walk. -/
namespace Go.Proofs.Ytjbnbpclelbohaa
open Go.RowKit
set_option linter.unusedVariables false

theorem info_u8 : (Try.prog.info? 5).map (fun i => (i.zero, i.size, i.bytes)) = some (some (.int .u8 0), 1, 1) := by kernel_rfl

theorem append_bytes (w : World) {ops : Array Oper} {rest : List Oper} {o : Oper} {a : Act} {Q : Exit → Act → World → Prop} (hgd : o.guard = none) (s x : Operand)
    (ho : o.op = .call { callee := .builtin .append, args := #[s, x], argTypes := #[77, 77] })
    (B : Nat) (v : Value) (l : List UInt8) (hs : a.eval s = v) (hown : Own w B v l)
    (ad : Addr) (m c : Nat) (news : List UInt8) (hx : a.eval x = .slice (some ad) m c) (hm : news.length = m) (hnews : ∀ j u, (bs news)[j]? = some u → w.cell? (ad.add j) = some u)
    (hlen : l.length + m ≤ 140737488355328) (hB : B ≤ w.heap.size)
    (h : ∀ v' w', Own w' B v' (l ++ news) → Grew w w' v v' → wpList Try.prog ops Q rest (a.put o.dst v') w') : wpList Try.prog ops Q (o :: rest) a w := by
  obtain ⟨i0, hi, hz0, hz1, hz2⟩ := info_parts info_u8
  subst hm
  refine wpList_append_grew w hgd s x 77 ho B 5 i0 (.int .u8 0) 1 1 Try.underlying77 hi hz0 hz1 hz2 rfl (by decide) v l.length (bs l) hs hown ad news.length c (bs news) hx (by simp [bs]) hnews (bs_one _) (by unfold maxLen; omega) (by omega) hB ?_
  intro v' w' h1 h2 _
  refine h v' w' ?_ h2
  unfold Own
  rw [bs_append, List.length_append]
  exact h1

/-- .. where what is appended is a literal that was laid right ahead of it. -/
theorem append_lit (W : World) {ops : Array Oper} {rest : List Oper} {o : Oper} {a : Act} {Q : Exit → Act → World → Prop} (hgd : o.guard = none) (s x : Operand)
    (ho : o.op = .call { callee := .builtin .append, args := #[s, x], argTypes := #[77, 77] })
    (B : Nat) (v : Value) (l : List UInt8) (hs : a.eval s = v) (news : List UInt8) (g m c : Nat) (cs : Array Value) (hx : a.eval x = .slice (some ⟨g, 0, none⟩) m c) (hm : news.length = m) (hc : cs = (bs news).toArray)
    (hg : g = W.heap.size) (hown : Own W B v l) (hlen : l.length + m ≤ 140737488355328) (hB : B ≤ W.heap.size)
    (h : ∀ v' w', Own w' B v' (l ++ news) → Grew W w' v v' → wpList Try.prog ops Q rest (a.put o.dst v') w') : wpList Try.prog ops Q (o :: rest) a (W.alloc (.cells cs 5)) := by
  subst hg hc
  exact append_bytes _ hgd s x ho B v l hs (hown.alloc _) ⟨W.heap.size, 0, none⟩ m c news hx hm (cells_new _ _ _) hlen (by simp; omega) fun v' w' h1 h2 => h v' w' h1 h2.ofAlloc

end Go.Proofs.Ytjbnbpclelbohaa

/- The walks of appendText and appendNum. -/
namespace Go.Proofs.Ytjbnbpclelbohaa
open Go.RowKit
set_option linter.unusedVariables false

/-- A text's bytes as they stand in a piece: each byte 0 as 0 and 255. -/
def esc (l : List UInt8) : List UInt8 := l.flatMap fun c => if c = 0 then [0, 255] else [c]
theorem esc_append (l m : List UInt8) : esc (l ++ m) = esc l ++ esc m := by simp [esc]
theorem esc_length (l : List UInt8) : l.length ≤ (esc l).length ∧ (esc l).length ≤ 2 * l.length := by
  induction l with
  | nil => simp [esc]
  | cons c l ih =>
    have : esc (c :: l) = (if c = 0 then [0, 255] else [c]) ++ esc l := by simp [esc]
    rw [this]
    split <;> simp <;> omega

theorem take_snoc (s : ByteArray) (k : Nat) (h : k < s.size) : s.data.toList.take (k + 1) = s.data.toList.take k ++ [s[k]] := by
  rw [List.take_succ_eq_append_getElem (by simpa using h)]; rfl
theorem esc_snoc (l : List UInt8) (s : ByteArray) (k : Nat) (h : k < s.size) (hc : ¬ s[k] = 0) : l ++ esc (s.data.toList.take (k + 1)) = l ++ esc (s.data.toList.take k) ++ [s[k]] := by
  rw [take_snoc s k h, esc_append]; simp [esc, hc]
theorem esc_snoc0 (l : List UInt8) (s : ByteArray) (k : Nat) (h : k < s.size) (hc : s[k] = 0) : l ++ esc (s.data.toList.take (k + 1)) = l ++ esc (s.data.toList.take k) ++ [s[k]] ++ [255] := by
  rw [take_snoc s k h, esc_append]; simp [esc, hc]
theorem esc_take_le (l : List UInt8) (s : ByteArray) (k : Nat) (h : k < s.size) : (l ++ esc (s.data.toList.take k)).length + 2 ≤ l.length + 2 * s.size := by
  have := (esc_length (s.data.toList.take k)).2
  have h2 : (s.data.toList.take k).length ≤ k := List.length_take_le _ _
  simp only [List.length_append]; omega
theorem byte_eq0 {c : UInt8} (h : c = 0) : ((c.toNat : Int) == 0) = true := by subst h; rfl
theorem byte_ne0 {c : UInt8} (h : ¬ c = 0) : ((c.toNat : Int) == 0) = false := by
  have : c.toNat ≠ 0 := fun e => h (UInt8.toNat_inj.1 (by simpa using e))
  simpa using this

set_option maxHeartbeats 400000 in
theorem appendText_calls (B : Nat) (v : Value) (l : List UInt8) (t : ByteArray) (w : World) (hown : Own w B v l) (hB : B ≤ w.heap.size) (hl : l.length + 2 * t.size ≤ 140737488355328) :
    Calls Try.prog 82 #[v, .string t] w fun e w' => ∃ v', e = .returned v' ∧ Own w' B v' (l ++ esc t.data.toList) ∧ Grew w w' v v' := by
  go_enter Try.func82, Try.ntmps82
  go_wp2
  go_loopw [0, 8] (fun x i wr => ∃ k : Nat, k ≤ t.size ∧ i = .int .i64 k ∧ Own wr B x (l ++ esc (t.data.toList.take k)) ∧ Grew w wr v x) (fun _ i _ => t.size - (intOf i).toNat)
  case atStart => exact ⟨0, Nat.zero_le _, rfl, by simpa [esc] using hown, Grew.refl _ _⟩
  case round =>
    obtain ⟨k, hk, rfl, ho, hg⟩ := hrel
    by_cases hlt : k < t.size
    · have hle := esc_take_le l t k hlt
      have hs := hg.size
      by_cases hc : t[k] = 0
      · have hz := byte_eq0 hc
        have HC : Hid (t[k] = 0) := hc
        clear hc
        go_wp2_with (at_builtin; refine append_bytes _ rfl (.tmp 11) (.tmp 15) rfl B _ _ rfl (ho.alloc _) ⟨wr.heap.size, 0, none⟩ 1 1 [t[k]] rfl rfl (cells_new _ _ _) (by omega) (by simp; omega) ?_)
        intro v1 w1 ho1 hg1
        have hs1 := hg1.size
        simp at hs1
        have hg2 := hg.trans hg1.ofAlloc
        clear ho hg hg1
        go_wp2_with (at_builtin; refine append_bytes _ rfl (.tmp 21) (.tmp 22) rfl B _ _ rfl (ho1.alloc _) ⟨w1.heap.size, 0, none⟩ 1 1 [255] rfl rfl (cells_new _ _ _) (by simp at hle ⊢; omega) (by simp; omega) ?_)
        intro v2 w2 ho2 hg3
        have hg4 := hg2.trans hg3.ofAlloc
        clear ho1 hg2 hg3
        go_wp2
        go_roundw
        case rel => exact ⟨k + 1, by omega, by go_num, by rw [esc_snoc0 l t k hlt HC.out]; simpa only [List.append_assoc, List.cons_append, List.nil_append] using ho2, hg4⟩
        case measure => simp [intOf]; omega
      · have hz := byte_ne0 hc
        have HC : Hid (¬ t[k] = 0) := hc
        clear hc
        go_wp2_with (at_builtin; refine append_bytes _ rfl (.tmp 11) (.tmp 15) rfl B _ _ rfl (ho.alloc _) ⟨wr.heap.size, 0, none⟩ 1 1 [t[k]] rfl rfl (cells_new _ _ _) (by omega) (by simp; omega) ?_)
        intro v1 w1 ho1 hg1
        have hg2 := hg.trans hg1.ofAlloc
        clear ho hg hg1
        go_wp2
        go_roundw
        case rel => exact ⟨k + 1, by omega, by go_num, by rw [esc_snoc l t k hlt HC.out]; simpa only [List.append_assoc, List.cons_append, List.nil_append] using ho1, hg2⟩
        case measure => simp [intOf]; omega
    · go_wp2
      go_ret
      exact ⟨_, rfl, by rw [List.take_of_length_le (by simp; omega)] at ho; exact ho, hg⟩

/-- A number's eight bytes, the highest first. -/
def numByte (n : Int) (i : Nat) : UInt8 := UInt8.ofNat (n / 2 ^ (56 - 8 * i) % 256).toNat
def num8 (n : Int) : List UInt8 := (List.range 8).map (numByte n)

theorem byte_back (x : Int) (h0 : 0 ≤ x) (h1 : x < 256) : ((UInt8.ofNat x.toNat).toNat : Int) = x := by
  rw [UInt8.toNat_ofNat']; omega
theorem numByte_val (n : Int) (i : Nat) : ((numByte n i).toNat : Int) = n / 2 ^ (56 - 8 * i) % 256 := byte_back _ (by omega) (by omega)
theorem num_cell (n : Int) (k : Nat) : bs [numByte n k] = [.int .u8 (n / 2 ^ (56 - 8 * k) % 256)] := by simp [bs, numByte_val]
theorem num8_snoc (l : List UInt8) (n : Int) (k : Nat) (h : k < 8) : l ++ (num8 n).take (k + 1) = l ++ (num8 n).take k ++ [numByte n k] := by
  rw [List.take_succ_eq_append_getElem (by simpa [num8] using h)]; simp [num8]
theorem num8_take_le (l : List UInt8) (n : Int) (k : Nat) : (l ++ (num8 n).take k).length ≤ l.length + 8 := by
  have : ((num8 n).take k).length ≤ 8 := by
    refine Nat.le_trans (List.length_take_le' _ _) ?_; simp [num8]
  simp only [List.length_append]; omega

set_option maxHeartbeats 400000 in
theorem appendNum_calls (B : Nat) (v : Value) (l : List UInt8) (n : Int) (w : World) (hown : Own w B v l) (hB : B ≤ w.heap.size) (hl : l.length ≤ 140737488355000) (h0 : 0 ≤ n) (h1 : n ≤ 18446744073709551615) :
    Calls Try.prog 83 #[v, .int .u64 n] w fun e w' => ∃ v', e = .returned v' ∧ Own w' B v' (l ++ num8 n) ∧ Grew w w' v v' := by
  go_enter Try.func83, Try.ntmps83
  go_wp2
  go_loopw [0, 5] (fun x i wr => ∃ k : Nat, k ≤ 8 ∧ i = .int .i64 (56 - 8 * (k : Int)) ∧ Own wr B x (l ++ (num8 n).take k) ∧ Grew w wr v x) (fun _ i _ => (intOf i + 8).toNat)
  case atStart => exact ⟨0, Nat.zero_le _, rfl, by simpa using hown, Grew.refl _ _⟩
  case round =>
    obtain ⟨k, hk, rfl, ho, hg⟩ := hrel
    have hs := hg.size
    by_cases hlt : k < 8
    · have hle := num8_take_le l n k
      have hnc := num_cell n k
      have HN : Hid (bs [numByte n k] = [.int .u8 (n / 2 ^ (56 - 8 * k) % 256)]) := hnc
      clear hnc
      go_wp2_with (at_builtin; refine append_bytes _ rfl (.tmp 10) (.tmp 15) rfl B _ _ rfl (ho.alloc _) ⟨wr.heap.size, 0, none⟩ 1 1 [numByte n k] rfl rfl (by intro j u hj; rw [HN.out] at hj; exact cells_new _ _ _ j u hj) (by omega) (by simp; omega) ?_)
      intro v1 w1 ho1 hg1
      have hg2 := hg.trans hg1.ofAlloc
      clear ho hg hg1
      go_wp2
      go_roundw
      case rel => exact ⟨k + 1, by omega, by go_num, by rw [num8_snoc l n k hlt]; simpa only [List.append_assoc, List.cons_append, List.nil_append] using ho1, hg2⟩
      case measure => simp [intOf]; omega
    · obtain rfl : k = 8 := by omega
      go_wp2
      go_ret
      exact ⟨_, rfl, by rw [List.take_of_length_le (by simp [num8])] at ho; exact ho, hg⟩
end Go.Proofs.Ytjbnbpclelbohaa
