/- The walks of readFlag, readNum, readText, readPiece. -/
import Derived.Test.YtehbclliiphglabKWrite
import Derived.Laws.Bits64b
namespace Go.Proofs.Ytehbclliiphglab
open Go.RowKit
set_option linter.unusedVariables false

/-- What a reader answers: a part and its piece's length, or zeros. -/
def readAns : Option (Pt × Nat) → Value
  | none => .tuple #[.agg #[.int .i64 0, .string ⟨#[]⟩, .int .u64 0], .int .i64 0]
  | some (p, n) => .tuple #[.agg #[.int .i64 p.k, .string p.t, .int .u64 p.n], .int .i64 n]

def rdFlag (s : ByteArray) : Option (Pt × Nat) :=
  if h : 1 < s.size then if s[1].toNat ≤ 1 then some (⟨3, ⟨#[]⟩, s[1].toNat⟩, 2) else none else none

set_option maxHeartbeats 400000 in
theorem readFlag_calls (s : ByteArray) (w : World) (hs : s.size ≤ 1024) :
    Calls Try.prog 33 #[.string s] w fun e w' => e = .returned (readAns (rdFlag s)) ∧ Below w.heap.size w w' := by
  by_cases h1 : 1 < s.size
  · have hd : decide ((s.size : Int) < 2) = false := by simp; omega
    by_cases h2 : s[1].toNat ≤ 1
    · have HR : Hid (rdFlag s = some (⟨3, ⟨#[]⟩, s[1].toNat⟩, 2)) := by simp [rdFlag, h1, h2, Hid]
      have hc : ¬ ((1 : Int) < (s[1].toNat : Int)) := by omega
      go_enter Try.func33, Try.ntmps33
      go_wp2
      go_light
      exact bodyPost_ret (v := .tuple #[.agg #[.int .i64 3, .string ⟨#[]⟩, .int .u64 s[1].toNat], .int .i64 2]) (by simp [results, Try.results33, go_sem]) rfl ⟨by rw [HR.out]; rfl, (Below.refl _ _).alloc (Nat.le_refl _) _⟩
    · have HR : Hid (rdFlag s = none) := by simp [rdFlag, h1, h2, Hid]
      have hc : (1 : Int) < (s[1].toNat : Int) := by omega
      go_enter Try.func33, Try.ntmps33
      go_wp2
      go_light
      exact bodyPost_ret (v := .tuple #[.agg #[.int .i64 0, .string ⟨#[]⟩, .int .u64 0], .int .i64 0]) (by simp [results, Try.results33, go_sem]) rfl ⟨by rw [HR.out]; rfl, (Below.refl _ _).alloc (Nat.le_refl _) _⟩
  · have hd : decide ((s.size : Int) < 2) = true := by simp; omega
    have HR : Hid (rdFlag s = none) := by simp [rdFlag, h1, Hid]
    go_enter Try.func33, Try.ntmps33
    go_wp2
    go_light
    exact bodyPost_ret (v := .tuple #[.agg #[.int .i64 0, .string ⟨#[]⟩, .int .u64 0], .int .i64 0]) (by simp [results, Try.results33, go_sem]) rfl ⟨by rw [HR.out]; rfl, (Below.refl _ _).alloc (Nat.le_refl _) _⟩

/-- The number of bytes, the highest first. -/
def numOf (l : List UInt8) : Nat := l.foldl (fun n c => n * 256 + c.toNat) 0
theorem numOf_snoc (l : List UInt8) (c : UInt8) : numOf (l ++ [c]) = numOf l * 256 + c.toNat := by simp [numOf]
theorem numOf_lt (l : List UInt8) : numOf l < 256 ^ l.length := by
  suffices h : ∀ n, l.reverse.length = n → numOf l.reverse.reverse < 256 ^ n by
    have := h l.length (by simp); simpa using this
  intro n
  induction l.reverse generalizing n with
  | nil => intro h; subst h; simp [numOf]
  | cons c r ih =>
    intro h
    rw [List.reverse_cons, numOf_snoc]
    simp at h
    subst h
    have h1 := ih r.length rfl
    have h2 := c.toNat_lt
    rw [Nat.pow_succ]
    have h2' : c.toNat < 256 := h2
    omega

theorem or_byte (m b : Nat) (hm : m < 72057594037927936) (hb : b < 256) : bits BinOp.or IntKind.u64 ((m : Int) * 256) (IntKind.u64.wrap (b : Int)) = ((m * 256 + b : Nat) : Int) := by
  have hw : IntKind.u64.wrap (b : Int) = (b : Int) := by simp [IntKind.wrap, IntKind.signed, IntKind.bits]; omega
  rw [hw, show ((m : Int) * 256) = ((m * 256 : Nat) : Int) by omega, bits_or_u64_nat _ _ (by omega) (by omega)]
  have : (m * 256) ||| b = m * 256 + b := by
    rw [show m * 256 = m <<< 8 by rw [Nat.shiftLeft_eq]]
    rw [Nat.shiftLeft_add_eq_or_of_lt (show b < 2 ^ 8 from hb)]
  rw [this]

theorem bytes_snoc (s : ByteArray) (k : Nat) (h : k + 1 < s.size) : (s.data.toList.drop 1).take (k + 1) = (s.data.toList.drop 1).take k ++ [s[k + 1]] := by
  rw [List.take_succ_eq_append_getElem (by simp; omega), List.getElem_drop]
  congr 2
  show (s.data.toList[1 + k]'(by simp; omega)) = s.data[k + 1]'h
  simp [Nat.add_comm]

def rdNum (s : ByteArray) : Option (Pt × Nat) := if 9 ≤ s.size then some (⟨2, ⟨#[]⟩, numOf ((s.data.toList.drop 1).take 8)⟩, 9) else none

set_option maxHeartbeats 400000 in
theorem readNum_calls (s : ByteArray) (w : World) (hs : s.size ≤ 1024) :
    Calls Try.prog 32 #[.string s] w fun e w' => e = .returned (readAns (rdNum s)) ∧ Below w.heap.size w w' := by
  by_cases h1 : 9 ≤ s.size
  · have HR : Hid (rdNum s = some (⟨2, ⟨#[]⟩, numOf ((s.data.toList.drop 1).take 8)⟩, 9)) := by simp [rdNum, h1, Hid]
    have hd : decide ((s.size : Int) < 9) = false := by simp; omega
    go_enter Try.func32, Try.ntmps32
    go_wp2
    go_loop [4, 5] (fun x i => ∃ k : Nat, k ≤ 8 ∧ i = .int .i64 ((k : Int) + 1) ∧ x = .int .u64 (numOf ((s.data.toList.drop 1).take k))) (fun _ i => (9 - intOf i).toNat)
    case atStart => exact ⟨0, by omega, rfl, rfl⟩
    case round =>
      obtain ⟨k, hk, rfl, rfl⟩ := hrel
      by_cases hlt : k < 8
      · have hks : k + 1 < s.size := by omega
        obtain ⟨m, hm⟩ : ∃ m : Nat, m = numOf ((s.data.toList.drop 1).take k) := ⟨_, rfl⟩
        have hml : m < 72057594037927936 := by
          have := numOf_lt ((s.data.toList.drop 1).take k)
          have hl : ((s.data.toList.drop 1).take k).length ≤ 7 := by
            refine Nat.le_trans (List.length_take_le _ _) (by omega)
          have := Nat.lt_of_lt_of_le this (Nat.pow_le_pow_right (by decide : 0 < 256) hl)
          rw [hm]; exact this
        rw [← hm]
        have HM : Hid (m = numOf ((s.data.toList.drop 1).take k)) := hm
        clear hm
        go_wp2
        go_light
        refine ⟨⟨k + 1, by omega, by go_num, ?_⟩, by simp [intOf]; omega⟩
        rw [or_byte m _ hml (UInt8.toNat_lt _), bytes_snoc s k hks, numOf_snoc, ← HM.out]
      · obtain rfl : k = 8 := by omega
        go_wp2
        go_light
        exact bodyPost_ret (v := .tuple #[.agg #[.int .i64 2, .string ⟨#[]⟩, .int .u64 (numOf ((s.data.toList.drop 1).take 8))], .int .i64 9]) (by simp [results, Try.results32, go_sem]) rfl ⟨by rw [HR.out]; rfl, (Below.refl _ _).alloc (Nat.le_refl _) _⟩
  · have hd : decide ((s.size : Int) < 9) = true := by simp; omega
    have HR : Hid (rdNum s = none) := by simp [rdNum, h1, Hid]
    go_enter Try.func32, Try.ntmps32
    go_wp2
    go_light
    exact bodyPost_ret (v := .tuple #[.agg #[.int .i64 0, .string ⟨#[]⟩, .int .u64 0], .int .i64 0]) (by simp [results, Try.results32, go_sem]) rfl ⟨by rw [HR.out]; rfl, (Below.refl _ _).alloc (Nat.le_refl _) _⟩

/-- What readText finds behind 'at', l being the text from there on; plain: what it has found so far. -/
def rt : List UInt8 → List UInt8 → Nat → Option (List UInt8 × Nat)
  | c :: d :: r, plain, i => if c = 0 then if d = 1 then some (plain, i + 2) else if d = 255 then rt r (plain ++ [0]) (i + 2) else none else rt (d :: r) (plain ++ [c]) (i + 1)
  | _, _, _ => none

def rdText (s : ByteArray) : Option (Pt × Nat) := (rt (s.data.toList.drop 1) [] 1).map fun x => (⟨1, ⟨x.1.toArray⟩, 0⟩, x.2)

theorem drop_two (s : ByteArray) (k : Nat) (h : k + 1 < s.size) : s.data.toList.drop k = s[k] :: s[k + 1] :: s.data.toList.drop (k + 2) := by
  rw [List.drop_eq_getElem_cons (by simp; omega), List.drop_eq_getElem_cons (i := k + 1) (by simp; omega)]
  rfl
theorem drop_one (s : ByteArray) (k : Nat) (h : k + 1 < s.size) : s[k + 1] :: s.data.toList.drop (k + 2) = s.data.toList.drop (k + 1) := by
  rw [List.drop_eq_getElem_cons (i := k + 1) (by simp; omega)]
  rfl
theorem rt_end (s : ByteArray) (plain : List UInt8) (k i : Nat) (h : ¬ k + 1 < s.size) : rt (s.data.toList.drop k) plain i = none := by
  have hl : (s.data.toList.drop k).length ≤ 1 := by simp; omega
  match s.data.toList.drop k, hl with
  | [], _ => rfl
  | [_], _ => rfl
theorem byte_eq {c : UInt8} {n : Nat} (hn : n < 256) (h : c = UInt8.ofNat n) : ((c.toNat : Int) == (n : Int)) = true := by
  subst h; simp; omega
theorem byte_ne {c : UInt8} {n : Nat} (hn : n < 256) (h : ¬ c = UInt8.ofNat n) : ((c.toNat : Int) == (n : Int)) = false := by
  have : c.toNat ≠ n := fun e => h (UInt8.toNat_inj.1 (by rw [e]; simp; omega))
  rw [beq_eq_false_iff_ne]
  omega

set_option maxHeartbeats 1000000 in
theorem readText_calls (s : ByteArray) (w : World) (hs : s.size ≤ 1024) :
    Calls Try.prog 31 #[.string s] w fun e w' => e = .returned (readAns (rdText s)) ∧ Below w.heap.size w w' := by
  have hinit : Hid (Below (w.heap.size + 1) (w.alloc (.cells #[.int .i64 0, .string ⟨#[]⟩, .int .u64 0] 33)) (w.alloc (.cells #[.int .i64 0, .string ⟨#[]⟩, .int .u64 0] 33))) := Below.refl _ _
  go_enter Try.func31, Try.ntmps31
  go_wp2
  go_loopw [4, 5] (fun x i wr => ∃ (k : Nat) (plain : List UInt8), 1 ≤ k ∧ k ≤ s.size + 2 ∧ i = .int .i64 k ∧ plain.length ≤ k ∧ Own wr (w.heap.size + 1) x plain ∧ Hid (rt (s.data.toList.drop k) plain k = rt (s.data.toList.drop 1) [] 1) ∧ Below (w.heap.size + 1) (w.alloc (.cells #[.int .i64 0, .string ⟨#[]⟩, .int .u64 0] 33)) wr) (fun _ i _ => (2000 - intOf i).toNat)
  case atStart => exact ⟨1, [], by omega, by omega, rfl, by simp, Own.nil _ _, rfl, hinit.out⟩
  case round =>
    obtain ⟨k, plain, hk1, hk2, rfl, hpl, ho, HR, hb⟩ := hrel
    have hsz := hb.size
    simp at hsz
    have hc0 : wr.cell? ⟨w.heap.size, 0, none⟩ = some (.int .i64 0) := by rw [hb.cell (by simp), World.cell?_alloc_mark]; rfl
    have hc1 : wr.cell? ⟨w.heap.size, 1, none⟩ = some (.string ⟨#[]⟩) := by rw [hb.cell (by simp), World.cell?_alloc_mark]; rfl
    have hc2 : wr.cell? ⟨w.heap.size, 2, none⟩ = some (.int .u64 0) := by rw [hb.cell (by simp), World.cell?_alloc_mark]; rfl
    have hb2 : Below w.heap.size w wr := ((Below.refl _ _).alloc (Nat.le_refl _) _).trans (hb.mono (by omega))
    have hf : ∀ j, wr.frozen? ⟨w.heap.size, j, none⟩ = false := fun j => by rw [hb.frozen (by simp)]; simp
    have hf0 := hf 0
    have hf1 := hf 1
    have hf2 := hf 2
    clear hf
    by_cases hlt : k + 1 < s.size
    · have hlt0 : k < s.size := by omega
      have HD : Hid (s.data.toList.drop k = s[k] :: s[k + 1] :: s.data.toList.drop (k + 2)) := drop_two s k hlt
      by_cases hz : s[k] = 0
      · have hzb := byte_eq0 hz
        by_cases h1 : s[k + 1] = 1
        · have h1b : ((s[k + 1].toNat : Int) == 1) = true := byte_eq (n := 1) (by omega) h1
          have HT : Hid (rdText s = some (⟨1, ⟨plain.toArray⟩, 0⟩, k + 2)) := by
            show _ = _
            unfold rdText; rw [← HR.out, HD.out]; simp [rt, hz, h1]
          have hstr := ho.string
          clear hz h1
          go_wp2
          go_light
          refine bodyPost_ret (v := .tuple #[.agg #[.int .i64 1, .string ⟨plain.toArray⟩, .int .u64 0], .int .i64 (k + 1 + 1)]) (by simp [results, Try.results31, go_sem, hc0, hc1, hc2]) rfl ⟨?_, ?_⟩
          · rw [HT.out]; simp [readAns]; omega
          · exact (((hb2.setCell (by simp) _).setCell (by simp) _).setCell (by simp) _)
        · have h1b : ((s[k + 1].toNat : Int) == 1) = false := byte_ne (n := 1) (by omega) h1
          by_cases h2 : s[k + 1] = 255
          · have h2b : ((s[k + 1].toNat : Int) != 255) = false := by have := byte_eq (n := 255) (by omega) h2; simpa [bne] using this
            have HR2 : Hid (rt (s.data.toList.drop (k + 2)) (plain ++ [0]) (k + 2) = rt (s.data.toList.drop 1) [] 1) := by
              show _ = _
              rw [← HR.out, HD.out]; simp [rt, hz, h2]
            clear hz h1 h2
            go_wp2_with (at_builtin; refine append_lit _ rfl (.tmp 39) (.tmp 40) rfl (w.heap.size + 1) _ _ rfl [0] _ 1 1 _ rfl rfl rfl (by simp) ho (by omega) (by omega) ?_)
            intro v1 w1 ho1 hg1
            have hb1 := hb.trans (ho.toBelow (by omega) hg1)
            clear ho hg1 hc0 hc1 hc2 hf0 hf1 hf2
            go_wp2
            go_roundw
            case rel => exact ⟨k + 2, plain ++ [0], by omega, by omega, by go_num, by simp; omega, ho1, HR2, hb1⟩
            case measure => simp [intOf]; omega
          · have h2b : ((s[k + 1].toNat : Int) != 255) = true := by have := byte_ne (n := 255) (by omega) h2; simpa [bne] using this
            have HT : Hid (rdText s = none) := by
              show _ = _
              unfold rdText; rw [← HR.out, HD.out]; simp [rt, hz, h1, h2]
            clear hz h1 h2
            go_wp2
            go_light
            refine bodyPost_ret (v := .tuple #[.agg #[.int .i64 0, .string ⟨#[]⟩, .int .u64 0], .int .i64 0]) (by simp [results, Try.results31, go_sem, hc0, hc1, hc2]) rfl ⟨?_, ?_⟩
            · rw [HT.out]; rfl
            · exact (((hb2.setCell (by simp) _).setCell (by simp) _).setCell (by simp) _)
      · have hzb : ((s[k].toNat : Int) != 0) = true := by have := byte_ne0 hz; simpa [bne] using this
        have HR2 : Hid (rt (s.data.toList.drop (k + 1)) (plain ++ [s[k]]) (k + 1) = rt (s.data.toList.drop 1) [] 1) := by
          show _ = _
          rw [← HR.out, HD.out, ← drop_one s k hlt]; simp [rt, hz]
        clear hz
        go_wp2_with (at_builtin; refine append_lit _ rfl (.tmp 17) (.tmp 21) rfl (w.heap.size + 1) _ _ rfl [s[k]] _ 1 1 _ rfl rfl rfl (by simp) ho (by omega) (by omega) ?_)
        intro v1 w1 ho1 hg1
        have hb1 := hb.trans (ho.toBelow (by omega) hg1)
        clear ho hg1 hc0 hc1 hc2 hf0 hf1 hf2
        go_wp2
        go_roundw
        case rel => exact ⟨k + 1, plain ++ [s[k]], by omega, by omega, by go_num, by simp; omega, ho1, HR2, hb1⟩
        case measure => simp [intOf]; omega
    · have HT : Hid (rdText s = none) := by
        show _ = _
        unfold rdText; rw [← HR.out, rt_end s plain k k hlt]; rfl
      go_wp2
      go_light
      refine bodyPost_ret (v := .tuple #[.agg #[.int .i64 0, .string ⟨#[]⟩, .int .u64 0], .int .i64 0]) (by simp [results, Try.results31, go_sem, hc0, hc1, hc2]) rfl ⟨?_, ?_⟩
      · rw [HT.out]; rfl
      · exact (((hb2.setCell (by simp) _).setCell (by simp) _).setCell (by simp) _)
end Go.Proofs.Ytehbclliiphglab
