import Derived.Test.YthgcnmilaifkoaaGreatDoorKLaw
import Derived.Test.YthgcnmilaifkoaaGreatDoorRcAddr
/- Layer 6 (schema): the document's Split and Plain. -/
namespace Go.Proofs.YthgcnmilaifkoaaGreatDoor
open Go.RowKit
set_option linter.unusedVariables false

/-- Split's state at place k, the piece begun at f. -/
def SpI (s : ByteArray) (c : UInt8) (k f : Nat) (pre : List ByteArray) : Prop :=
 (k ≤ s.size ∧ f ≤ k ∧ (∀ j : Nat, f ≤ j → j < k → s.data.toList[j]? ≠ some c) ∧ pre.map (·.data.toList) ++ sp c (s.data.toList.drop f) = sp c s.data.toList) ∨ (k = s.size + 1 ∧ f ≤ k ∧ pre = wsOf s c)

theorem extract_piece (s : ByteArray) (f k : Nat) : (s.extract f k).data.toList = (s.data.toList.drop f).take (k - f) := by
 rw [ByteArray.data_extract, Array.toList_extract, List.extract_eq_take_drop]
theorem SpI.over {s : ByteArray} {c : UInt8} {k f : Nat} {pre : List ByteArray} (h : SpI s c k f pre) (hk : k < s.size) (hc : ¬ s[k] = c) : SpI s c (k + 1) f pre := by
 rcases h with ⟨h1, h2, h3, h4⟩ | ⟨h1, _⟩
 ·refine .inl ⟨by omega, by omega, fun j hj hjk => ?_, h4⟩
  rcases Nat.lt_or_ge j k with h | h
  ·exact h3 j hj h
  ·obtain rfl : j = k := by omega
   rw [List.getElem?_eq_getElem (by simpa using hk)]
   intro e
   exact hc (Option.some.inj e)
 ·omega
theorem SpI.cut {s : ByteArray} {c : UInt8} {k f : Nat} {pre : List ByteArray} (h : SpI s c k f pre) (hk : k < s.size) (hc : s[k] = c) : SpI s c (k + 1) (k + 1) (pre ++ [s.extract f k]) := by
 rcases h with ⟨h1, h2, h3, h4⟩ | ⟨h1, _⟩
 ·refine .inl ⟨by omega, by omega, fun j hj hjk => by omega, ?_⟩
  have e := sp_hit c (k - f) (s.data.toList.drop f) (by
   rw [List.getElem?_drop, show f + (k - f) = k by omega, List.getElem?_eq_getElem (by simpa using hk)]
   exact congrArg some hc) (fun j hj => by
   rw [List.getElem?_drop]
   exact h3 (f + j) (by omega) (by omega))
  rw [List.drop_drop, show f + (k - f + 1) = k + 1 by omega] at e
  rw [← h4, e, List.map_append, List.map_cons, List.map_nil, extract_piece]
  simp
 ·omega
theorem SpI.last {s : ByteArray} {c : UInt8} {k f : Nat} {pre : List ByteArray} (h : SpI s c k f pre) (hk : k = s.size) : SpI s c (k + 1) (k + 1) (pre ++ [s.extract f k]) := by
 rcases h with ⟨h1, h2, h3, h4⟩ | ⟨h1, _⟩
 ·refine .inr ⟨by omega, by omega, ?_⟩
  have e := sp_none c (s.data.toList.drop f) (fun j => by
   rw [List.getElem?_drop]
   by_cases hj : f + j < k
   ·exact h3 (f + j) (by omega) hj
   ·rw [List.getElem?_eq_none (by simp; omega)]; simp)
  have h5 : (pre ++ [s.extract f k]).map (fun a : ByteArray => a.data.toList) = (wsOf s c).map (fun a : ByteArray => a.data.toList) := by
   rw [ws_sp, ← h4, e, List.map_append, List.map_cons, List.map_nil, extract_piece, List.take_of_length_le (by simp; omega)]
  exact List.map_inj_right (fun a b hab => Go.WideShapes.bytes_inj hab) |>.1 h5
 ·omega
theorem SpI.done {s : ByteArray} {c : UInt8} {k f : Nat} {pre : List ByteArray} (h : SpI s c k f pre) (hk : ¬ k ≤ s.size) : pre = wsOf s c := by
 rcases h with ⟨h1, _⟩ | ⟨_, _, h⟩
 ·exact absurd h1 hk
 ·exact h
theorem byte_same {a b : UInt8} (h : ¬ a = b) : ((a.toNat : Int) == (b.toNat : Int)) = false := by
 have : a.toNat ≠ b.toNat := fun e => h (UInt8.toNat_inj.1 e)
 simp; omega

set_option maxRecDepth 100000 in
set_option maxHeartbeats 1000000 in
theorem rsplitL_calls (s : ByteArray) (c : UInt8) (w : World) (hs : s.size ≤ 1048576) :
  Calls Tryz.prog 58 #[.string s, .int .u8 c.toNat] w fun e w' => ∃ v, e = .returned v ∧ w'.ownsRow w.heap.size 9 1 v (wsOf s c).length ((wsOf s c).map Value.string) ∧ Below w.heap.size w w' := by
 go_enter Tryz.func58, Tryz.ntmps58
 go_wp2
 go_loopw [5, 6, 7] (fun x y i wr => ∃ (k f : Nat) (pre : List ByteArray), k ≤ s.size + 1 ∧ f ≤ k ∧ i = .int .i64 k ∧ y = .int .i64 f ∧ pre.length ≤ k ∧ wr.ownsRow w.heap.size 9 1 x pre.length (pre.map Value.string) ∧ Hid (SpI s c k f pre) ∧ Below w.heap.size w wr) (fun _ _ i _ => (s.size + 1) - (intOf i).toNat)
 case atStart =>
  refine ⟨0, 0, [], by omega, by omega, rfl, rfl, by simp, ?_, ?_, (Below.refl _ _).alloc (Nat.le_refl _) _⟩
  ·exact World.ownsRow_lit w #[] 0 (Nat.le_refl _) (by unfold maxLen; omega) rfl
  ·exact .inl ⟨by omega, by omega, fun j _ h => by omega, by simp⟩
 case round =>
  obtain ⟨k, f, pre, hk, hf, rfl, rfl, hp, ho, HI, hb⟩ := hrel
  have hsz := hb.size
  have hzk : ((k : Int) == (s.size : Int)) = decide (k = s.size) := by
   by_cases h : k = s.size
   ·simp [h]
   ·simp [h]; omega
  by_cases hlt : k < s.size
  ·have hz0 : ((k : Int) == (s.size : Int)) = false := by rw [hzk]; simp; omega
   by_cases hc : s[k] = c
   ·have hz : ((s[k].toNat : Int) == (c.toNat : Int)) = true := by rw [hc]; simp
    have HN : Hid (SpI s c (k + 1) (k + 1) (pre ++ [s.extract f k])) := HI.out.cut hlt hc
    clear hc HI
    go_wp2_with (at_builtin; refine append_row _ rfl (.tmp 26) (.tmp 31) _ 9 _ 1 16 Tryz.underlying39 info_str rfl (by decide) rfl w.heap.size _ pre.length _ rfl [.string (s.extract f k)] rfl (by simp [Value.oneCell']) _ _ rfl rfl rfl ho (by omega) (by omega) hsz ?_)
    intro v1 w1 ho1 hg1
    have hb1 : Below w.heap.size w w1 := hb.trans (hg1.toBelow hsz fun j hj => (World.ownsRow.lt ho j hj).1)
    clear ho hg1 hb
    go_wp2
    go_roundw
    case rel => exact ⟨k + 1, k + 1, pre ++ [s.extract f k], by omega, by omega, by go_num, by go_num, by simp; omega, by simpa using ho1, HN, hb1⟩
    case measure => simp [intOf]; omega
   ·have hz := byte_same hc
    have HN : Hid (SpI s c (k + 1) f pre) := HI.out.over hlt hc
    clear hc HI
    go_wp2
    go_roundw
    case rel => exact ⟨k + 1, f, pre, by omega, by omega, by go_num, rfl, by omega, ho, HN, hb⟩
    case measure => simp [intOf]; omega
  ·by_cases he : k = s.size
   ·have hz0 : ((k : Int) == (s.size : Int)) = true := by rw [hzk]; simpa using he
    have HN : Hid (SpI s c (k + 1) (k + 1) (pre ++ [s.extract f k])) := HI.out.last he
    subst he
    clear HI
    go_wp2_with (at_builtin; refine append_row _ rfl (.tmp 26) (.tmp 31) _ 9 _ 1 16 Tryz.underlying39 info_str rfl (by decide) rfl w.heap.size _ pre.length _ rfl [.string (s.extract f s.size)] rfl (by simp [Value.oneCell']) _ _ rfl rfl rfl ho (by omega) (by omega) hsz ?_)
    intro v1 w1 ho1 hg1
    have hb1 : Below w.heap.size w w1 := hb.trans (hg1.toBelow hsz fun j hj => (World.ownsRow.lt ho j hj).1)
    clear ho hg1 hb
    go_wp2
    go_roundw
    case rel => exact ⟨s.size + 1, s.size + 1, pre ++ [s.extract f s.size], by omega, by omega, by go_num, by go_num, by simp; omega, by simpa using ho1, HN, hb1⟩
    case measure => simp [intOf]
   ·have HN : Hid (pre = wsOf s c) := HI.out.done (by omega)
    clear HI
    go_wp2
    go_ret
    exact ⟨_, rfl, by rw [← HN.out]; exact ho, hb⟩
end Go.Proofs.YthgcnmilaifkoaaGreatDoor

/- Layer 9 (records): the document's Number and Addr. -/
namespace Go.Proofs.YthgcnmilaifkoaaGreatDoor
open Go.RowKit
set_option linter.unusedVariables false

def numA (l : List UInt8) : Int := match octP l with
 | some n => n
 | none => -1
def okOf : Lib.NumEnd Nat → Int
 | .ok n => n
 | _ => -1
theorem numA_zero {l : List UInt8} (h : 1 < l.length ∧ l.head? = some 48) : numA l = -1 := by
 unfold numA octP
 cases Lib.parseUintB 8 l <;> simp [h]
theorem numA_parse {l : List UInt8} (h0 : l ≠ []) (h : ¬ (1 < l.length ∧ l.head? = some 48)) : numA l = okOf (Lib.parseUintM 255 0 l) := by
 unfold numA octP Lib.parseUintB
 rw [if_neg h0]
 show _ = okOf (Lib.parseUintM (2 ^ 8 - 1) 0 l)
 cases Lib.parseUintM (2 ^ 8 - 1) 0 l <;> simp [okOf]
 simp only [if_neg h]
theorem parse_bad {M acc : Nat} {c : UInt8} {r : List UInt8} (h : ¬ (48 ≤ c.toNat ∧ c.toNat ≤ 57)) : Lib.parseUintM M acc (c :: r) = .«syntax» := by
 unfold Lib.parseUintM
 rw [if_neg h]
theorem parse_over {acc : Nat} {c : UInt8} {r : List UInt8} (h : 48 ≤ c.toNat ∧ c.toNat ≤ 57) (ha : acc ≤ 255) (ho : 255 < acc * 10 + (c.toNat - 48)) : Lib.parseUintM 255 acc (c :: r) = .range := by
 unfold Lib.parseUintM
 rw [if_pos h, if_neg (by omega), if_pos ho]
theorem parse_on {acc : Nat} {c : UInt8} {r : List UInt8} (h : 48 ≤ c.toNat ∧ c.toNat ≤ 57) (ha : acc ≤ 255) (ho : ¬ 255 < acc * 10 + (c.toNat - 48)) : Lib.parseUintM 255 acc (c :: r) = Lib.parseUintM 255 (acc * 10 + (c.toNat - 48)) r := by
 conv => lhs; unfold Lib.parseUintM
 rw [if_pos h, if_neg (by omega), if_neg ho]
theorem drop_at (s : ByteArray) (k : Nat) (hk : k < s.size) : s.data.toList.drop k = s[k] :: s.data.toList.drop (k + 1) := by
 rw [List.drop_eq_getElem_cons (by simpa using hk)]
 rfl
theorem byte48 {b : UInt8} (h : b = 48) : (b.toNat : Int) = 48 := by rw [h]; rfl
theorem not48 {b : UInt8} (h : ¬ b = 48) : ((b.toNat : Int) == 48) = false := by
 have := u8ne h
 exact this
where
 u8ne {b c : UInt8} (h : ¬ b = c) : ((b.toNat : Int) == (c.toNat : Int)) = false := by
  have : b.toNat ≠ c.toNat := fun e => h (UInt8.toNat_inj.1 e)
  simp; omega

theorem ret_i64 {a b : Int} (h : a = b) : Ending.returned (.int .i64 a) = .returned (.int .i64 b) := by rw [h]
set_option maxHeartbeats 2000000 in
theorem refNumber_calls (s : ByteArray) (w : World) (hs : s.size ≤ 140737488351296) :
  Calls Tryz.prog 59 #[.string s, .int .i64 255] w fun e w' => e = .returned (.int .i64 (numA s.data.toList)) ∧ w' = w := by
 by_cases he : s.toList = []
 ·have hn : Hid (-1 = numA s.data.toList) := by rw [Hid, ← ByteArray.toList_eq, he]; rfl
  go_enter Tryz.func59, Tryz.ntmps59
  go_wp2
  go_ret
  exact ⟨ret_i64 hn.out, rfl⟩
 have hemp : s.toList.isEmpty = false := by simpa using he
 have hne : s.data.toList ≠ [] := by rw [← ByteArray.toList_eq]; exact he
 have hl : s.data.toList.length = s.size := by rw [Array.length_toList]; rfl
 have h0 : 0 < s.size := by rw [← hl]; exact List.length_pos_iff.2 hne
 have hd0 : s.data.toList.head? = some s[0] := by
  have := drop_at s 0 h0
  rw [List.drop_zero] at this
  rw [this]
  rfl
 have HF : Hid (¬ (1 < s.size ∧ s[0] = 48) → numA s.data.toList = okOf (Lib.parseUintM 255 0 s.data.toList)) := fun h => numA_parse hne (by rw [hl, hd0]; simpa using h)
 have HZ : Hid (1 < s.size ∧ s[0] = 48 → -1 = numA s.data.toList) := fun h => (numA_zero (by rw [hl, hd0]; simpa using h)).symm
 clear hne hl hd0
 by_cases hz : 1 < s.size ∧ s[0] = 48
 ·have hn : Hid (-1 = numA s.data.toList) := HZ.out hz
  have q1 : (1 : Int) < (s.size : Int) := by omega
  have q2 : ((s[0].toNat : Int) == 48) = true := by rw [byte48 hz.2]; rfl
  clear hz HF HZ
  go_enter Tryz.func59, Tryz.ntmps59
  go_wp2
  go_ret
  exact ⟨ret_i64 hn.out, rfl⟩
 have HN : Hid (numA s.data.toList = okOf (Lib.parseUintM 255 0 s.data.toList)) := HF.out hz
 have hz2 : ¬ ((1 : Int) < (s.size : Int)) ∨ (1 : Int) < (s.size : Int) ∧ ((s[0].toNat : Int) == 48) = false := by
  by_cases h1 : 1 < s.size
  ·exact .inr ⟨by omega, not48 fun e => hz ⟨h1, e⟩⟩
  ·exact .inl (by omega)
 clear HF HZ hz he
 rcases hz2 with q1 | ⟨q1, q2⟩
 all_goals
  go_enter Tryz.func59, Tryz.ntmps59
  go_wp2
  go_loop [5, 6] (fun x y => ∃ k n : Nat, k ≤ s.size ∧ n ≤ 255 ∧ x = .int .i64 n ∧ y = .int .i64 k ∧ Hid (Lib.parseUintM 255 n (s.data.toList.drop k) = Lib.parseUintM 255 0 s.data.toList)) (fun _ y => s.size - (intOf y).toNat)
  case atStart => exact ⟨0, 0, Nat.zero_le _, by omega, rfl, rfl, by rw [List.drop_zero]; exact rfl⟩
  case round =>
   obtain ⟨k, n, hk, hn, rfl, rfl, HP⟩ := hrel
   by_cases hlt : k < s.size
   ·have hby : (s[k].toNat : Int) ≤ 255 := by have := s[k].toNat_lt; omega
    have HD := drop_at s k hlt
    by_cases h48 : 48 ≤ s[k].toNat
    ·have p1 : ¬ (s[k].toNat : Int) < 48 := by omega
     by_cases h57 : s[k].toNat ≤ 57
     ·have p2 : ¬ (57 : Int) < (s[k].toNat : Int) := by omega
      obtain ⟨m, hm⟩ : ∃ m : Nat, m = n * 10 + (s[k].toNat - 48) := ⟨_, rfl⟩
      have p3 : 10 * (n : Int) + ((s[k].toNat : Int) - 48) = (m : Int) := by omega
      by_cases ho : 255 < m
      ·have p4 : (255 : Int) < (m : Int) := by omega
       have HE : Hid (-1 = numA s.data.toList) := by rw [Hid, HN.out, ← HP.out, HD, parse_over ⟨h48, h57⟩ hn (by omega)]; rfl
       have hmb : m ≤ 10000 := by omega
       clear HD hm ho
       go_wp2
       go_ret
       exact ⟨ret_i64 HE.out, rfl⟩
      ·have p4 : ¬ (255 : Int) < (m : Int) := by omega
       have HE : Hid (Lib.parseUintM 255 m (s.data.toList.drop (k + 1)) = Lib.parseUintM 255 0 s.data.toList) := by
        rw [Hid, ← HP.out, HD, parse_on ⟨h48, h57⟩ hn (by omega), hm]
       have hmb : m ≤ 255 := by omega
       clear HD hm ho HP
       go_wp2
       go_round
       case rel => exact ⟨k + 1, m, by omega, hmb, by first | rfl | go_num, by go_num, HE⟩
       case measure => simp [intOf]; omega
     ·have p2 : (57 : Int) < (s[k].toNat : Int) := by omega
      have HE : Hid (-1 = numA s.data.toList) := by rw [Hid, HN.out, ← HP.out, HD, parse_bad (by omega)]; rfl
      clear HD
      go_wp2
      go_ret
      exact ⟨ret_i64 HE.out, rfl⟩
    ·have p1 : (s[k].toNat : Int) < 48 := by omega
     have HE : Hid (-1 = numA s.data.toList) := by rw [Hid, HN.out, ← HP.out, HD, parse_bad (by omega)]; rfl
     clear HD
     go_wp2
     go_ret
     exact ⟨ret_i64 HE.out, rfl⟩
   ·obtain rfl : k = s.size := by omega
    have HE : Hid ((n : Int) = numA s.data.toList) := by
     rw [Hid, HN.out, ← HP.out, List.drop_of_length_le (by simp)]
     rfl
    go_wp2
    go_ret
    exact ⟨ret_i64 HE.out, rfl⟩

/-- The loop of the document's Addr over its four words. -/
structure AdR (w : World) (ws : List ByteArray) (g k : Nat) (wr : World) : Prop where
 le : k ≤ 4
 res : wr.heap[w.heap.size]? = some (.cells (fourC [0, 0, 0, 0]) 92)
 arr : wr.heap[w.heap.size + 1]? = some (.cells (fourC (adrTo ws k)) 92)
 wrd : ∀ j (h : j < ws.length), wr.cell? ⟨g, j, none⟩ = some (.string ws[j])
 gne : w.heap.size + 1 < g
 below : Below w.heap.size w wr
 good : ∀ j (h : j < ws.length), j < k → ∃ n, octP ws[j].data.toList = some n
theorem AdR.store {w : World} {ws : List ByteArray} {g k : Nat} {wr : World} (h : AdR w ws g k wr) (hk : k < 4) (hl : ws.length = 4) {n : Nat} (hn : octP (ws[k]'(by omega)).data.toList = some n) : AdR w ws g (k + 1) (wr.setCell ⟨w.heap.size + 1, k, none⟩ (.int .u8 n)) := by
 have hz := h.gne
 refine ⟨by omega, ?_, ?_, fun j hj => ?_, hz, h.below.setCell (by show w.heap.size ≤ w.heap.size + 1; omega) _, fun j hj hjk => ?_⟩
 ·rw [heap_setCell_other _ _ _ _ (by show w.heap.size ≠ w.heap.size + 1; omega)]; exact h.res
 ·rw [Lib.heap_setCell_same h.arr]
  rw [fourC_set ws k n hk (by unfold octN; rw [List.getD_eq_getElem?_getD, List.getElem?_eq_getElem (by omega)]; simp [hn])]
 ·rw [World.cell?_setCell_other _ _ _ _ (fun e => by injection e; omega)]; exact h.wrd j hj
 ·rcases Nat.lt_or_ge j k with h' | h'
  ·exact h.good j hj h'
  ·obtain rfl : j = k := by omega
   exact ⟨n, hn⟩
theorem two_alloc (w : World) (o1 o2 : Obj) : ((w.alloc o1).alloc o2).heap[w.heap.size]? = some o1 ∧ ((w.alloc o1).alloc o2).heap[w.heap.size + 1]? = some o2 ∧ Below w.heap.size w ((w.alloc o1).alloc o2) ∧ ((w.alloc o1).alloc o2).heap.size = w.heap.size + 2 := by
 have h1 : (w.alloc o1).heap.size = w.heap.size + 1 := by rw [alloc_heap, Array.size_push]
 have h2 : ((w.alloc o1).alloc o2).heap.size = w.heap.size + 2 := by rw [alloc_heap, Array.size_push, h1]
 refine ⟨?_, ?_, ((Below.refl _ _).alloc (Nat.le_refl _) _).alloc (by omega) _, h2⟩
 ·rw [alloc_heap, Array.getElem?_push, if_neg (by omega), alloc_heap, Array.getElem?_push, if_pos rfl]
 ·rw [alloc_heap, Array.getElem?_push, if_pos h1.symm]
theorem numA_some {l : List UInt8} {n : Nat} (h : octP l = some n) : numA l = n := by simp [numA, h]
theorem numA_none {l : List UInt8} (h : octP l = none) : numA l = -1 := by simp [numA, h]
theorem ws_le (s p : ByteArray) (h : p ∈ wsOf s 46) : p.size ≤ s.size := splitB_le _ _ _ _ p h
theorem own_slice {w : World} {B : Nat} {t : TypeId} {v : Value} {l : List ByteArray} (h : w.ownsRow B t 1 v l.length (l.map Value.string)) (h0 : l.length ≠ 0) : ∃ g cap, v = .slice (some ⟨g, 0, none⟩) l.length cap ∧ B ≤ g ∧ ∀ j (hj : j < l.length), w.cell? ⟨g, j, none⟩ = some (.string l[j]) := by
 rcases h.2 with ⟨_, h1⟩ | ⟨g, cap, cur, rfl, hb, hh, _⟩
 ·exact absurd h1 h0
 ·refine ⟨g, cap, rfl, hb, fun j hj => ?_⟩
  have := World.ownsRow.cells h (g := g) rfl j (.string l[j]) (by simp [hj])
  rw [Lib.add_plain, Nat.zero_add] at this
  exact this

set_option maxRecDepth 100000 in
set_option maxHeartbeats 1000000 in
theorem refAddr_calls (s : ByteArray) (w : World) (hs : s.size ≤ 1048576) :
  Calls Tryz.prog 41 #[.string s] w fun e w' => e = .returned (.tuple (adrA s)) ∧ Below w.heap.size w w' := by
 have HS : Hid (∀ w, Calls Tryz.prog 58 #[.string s, .int .u8 46] w fun e w' => ∃ v, e = .returned v ∧ w'.ownsRow w.heap.size 9 1 v (wsOf s 46).length ((wsOf s 46).map Value.string) ∧ Below w.heap.size w w') := fun w => rsplitL_calls s 46 w hs
 obtain ⟨ha, hb, hc, hd⟩ := two_alloc w (.cells #[.int .u8 0, .int .u8 0, .int .u8 0, .int .u8 0] 92) (.cells #[.int .u8 0, .int .u8 0, .int .u8 0, .int .u8 0] 92)
 have HA : Hid _ := ha
 have HB : Hid _ := hb
 have HC : Hid (Below _ _ _) := hc
 have HD : Hid (_ = _) := hd
 clear ha hb hc hd
 by_cases h4 : (wsOf s 46).length = 4
 case neg =>
  have HN : Hid (adrA s = #[.agg (fourC [0, 0, 0, 0]), .int .i64 91]) := adrA_no (adr_len h4)
  have q5 : (((wsOf s 46).length : Int) != 4) = true := by rw [bne, beq_eq_false_iff_ne.2 (by omega)]; rfl
  have q6 : ¬ ((wsOf s 46).length : Int) = 4 := by omega
  go_enter Tryz.func41, Tryz.ntmps41
  go_wp2_with fail
  refine (HS.out _).mono ?_
  rintro e w1 ⟨v, rfl, ho, hb1⟩
  obtain ⟨ao, cap, rfl⟩ : ∃ ao cap, v = .slice ao (wsOf s 46).length cap := by
   rcases ho.2 with ⟨rfl, h1⟩ | ⟨g, cap, cur, rfl, _⟩
   ·exact ⟨none, 0, by rw [h1]⟩
   ·exact ⟨_, cap, rfl⟩
  have hr : w1.heap[w.heap.size]? = some (.cells (fourC [0, 0, 0, 0]) 92) := (hb1.block _ (by rw [HD.out]; omega)).trans HA.out
  have hr2 : w1.heap[w.heap.size + 1]? = some (.cells (fourC [0, 0, 0, 0]) 92) := (hb1.block _ (by rw [HD.out]; omega)).trans HB.out
  have HBl : Hid (Below w.heap.size w w1) := HC.out.trans (hb1.mono (by rw [HD.out]; omega))
  have c1 : ∀ j, j < 4 → w1.cell? ⟨w.heap.size + 1, j, none⟩ = some (.int .u8 0) := fun j hj => (cell_of_row _ _ _ _ _ _ hr2).trans ((fourC_at _ j hj).trans (by match j, hj with | 0, _ => rfl | 1, _ => rfl | 2, _ => rfl | 3, _ => rfl))
  have r0 := c1 0 (by omega)
  have r1 := c1 1 (by omega)
  have r2 := c1 2 (by omega)
  have r3 := c1 3 (by omega)
  have d1 : ∀ j, j < 4 → w1.cell? ⟨w.heap.size, j, none⟩ = some (.int .u8 0) := fun j hj => (cell_of_row _ _ _ _ _ _ hr).trans ((fourC_at _ j hj).trans (by match j, hj with | 0, _ => rfl | 1, _ => rfl | 2, _ => rfl | 3, _ => rfl))
  have d2 := d1 0 (by omega)
  have d3 := d1 1 (by omega)
  have d4 := d1 2 (by omega)
  have d5 := d1 3 (by omega)
  have z1 : ∀ j, w1.frozen? ⟨w.heap.size, j, none⟩ = false := fun j => by simp [World.frozen?, hr]
  have HR : Hid (w1.heap[w.heap.size]? = some (.cells (fourC [0, 0, 0, 0]) 92)) := hr
  clear c1 d1 hr hr2 ho hb1
  go_wp2
  exact ret_fourA (g := w.heap.size) (cs := fourC [0, 0, 0, 0]) (e := .int .i64 91) rfl rfl rfl rfl (put4_row HR.out [0, 0, 0, 0]) rfl ⟨by rw [HN.out], put4_below HBl.out (Nat.le_refl _) [0, 0, 0, 0]⟩
 obtain ⟨ws, Hws⟩ : ∃ ws, Hid (ws = wsOf s 46) := ⟨_, rfl⟩
 rw [← Hws.out] at HS h4
 have HL : Hid (ws.length = 4) := h4
 have HZ : Hid (∀ p ∈ ws, p.size ≤ s.size) := fun p hp => ws_le s p (by rw [← Hws.out]; exact hp)
 go_enter Tryz.func41, Tryz.ntmps41
 go_wp2_with fail
 refine (HS.out _).mono ?_
 rintro e w1 ⟨v, rfl, ho, hb1⟩
 obtain ⟨g, cap, rfl, hg, hcl⟩ := own_slice ho (by omega)
 have HI : Hid (AdR w ws g 0 w1) := by
  have hg : w.heap.size + 2 ≤ g := by rw [← HD.out]; exact hg
  exact ⟨by omega, (hb1.block _ (by rw [HD.out]; omega)).trans HA.out, (hb1.block _ (by rw [HD.out]; omega)).trans HB.out, hcl, by omega, HC.out.trans (hb1.mono (by rw [HD.out]; omega)), fun j _ h => by omega⟩
 rw [h4]
 clear hcl hg ho hb1 h4 HA HB HC HD HS
 go_wp2
 go_loopw [6] (fun x wr => ∃ k : Nat, k ≤ 4 ∧ x = .int .i64 k ∧ Hid (AdR w ws g k wr)) (fun x _ => 4 - (intOf x).toNat)
 case atStart => exact ⟨0, Nat.zero_le _, rfl, HI⟩
 case round =>
  obtain ⟨k, hk, rfl, HJ⟩ := hrel
  clear HI
  by_cases hlt : k < 4
  ·have hkw : k < ws.length := by rw [HL.out]; exact hlt
   obtain ⟨p, Hp⟩ : ∃ p, Hid (p = ws[k]) := ⟨ws[k], rfl⟩
   have c0 : wr.cell? ⟨g, k, none⟩ = some (.string p) := by rw [Hp.out]; exact HJ.out.wrd k hkw
   have HO : Hid (Calls Tryz.prog 59 #[.string p, .int .i64 255] wr fun e w' => e = .returned (.int .i64 (numA p.data.toList)) ∧ w' = wr) := refNumber_calls p wr (by rw [Hp.out]; have := HZ.out ws[k] (List.getElem_mem hkw); omega)
   cases ho : octP p.data.toList with
   | some n =>
    have hn := oct_le ho
    have qn : (n : Int) ≤ 255 := by omega
    have qm : (n : Int) % 256 = n := by omega
    rw [numA_some ho] at HO
    have HN : Hid (octP ws[k].data.toList = some n) := by rw [← Hp.out]; exact ho
    clear ho
    go_wp2_with fail
    refine HO.out.mono ?_
    rintro e w1 ⟨rfl, hw⟩
    subst hw
    have c1 : w1.cell? ⟨w.heap.size + 1, k, none⟩ = some (.int .u8 ((adrTo ws k).getD k 0)) := (cell_of_row _ _ _ _ _ _ HJ.out.arr).trans (fourC_at _ k hlt)
    have z1 : w1.frozen? ⟨w.heap.size + 1, k, none⟩ = false := by simp [World.frozen?, HJ.out.arr]
    have HJ2 : Hid (AdR w ws g (k + 1) (w1.setCell ⟨w.heap.size + 1, k, none⟩ (.int .u8 n))) := HJ.out.store hlt HL.out HN.out
    clear HO
    go_wp2
    go_roundw
    case rel => exact ⟨k + 1, by omega, by go_num, HJ2⟩
    case measure => simp [intOf]; omega
   | none =>
    have HN : Hid (adrA s = #[.agg (fourC [0, 0, 0, 0]), .int .i64 91]) := adrA_no (adr_bad (k := k) (by rw [← Hws.out]; exact hkw) (by simp only [← Hws.out]; rw [← Hp.out]; exact ho))
    rw [numA_none ho] at HO
    clear ho
    go_wp2_with fail
    refine HO.out.mono ?_
    rintro e w1 ⟨rfl, hw⟩
    subst hw
    have c1 : ∀ j, j < 4 → w1.cell? ⟨w.heap.size, j, none⟩ = some (.int .u8 0) := fun j hj => (cell_of_row _ _ _ _ _ _ HJ.out.res).trans ((fourC_at _ j hj).trans (by match j, hj with | 0, _ => rfl | 1, _ => rfl | 2, _ => rfl | 3, _ => rfl))
    have r0 := c1 0 (by omega)
    have r1 := c1 1 (by omega)
    have r2 := c1 2 (by omega)
    have r3 := c1 3 (by omega)
    have z1 : ∀ j, w1.frozen? ⟨w.heap.size, j, none⟩ = false := fun j => by simp [World.frozen?, HJ.out.res]
    clear HO c1
    go_wp2
    exact ret_fourA (g := w.heap.size) (cs := fourC [0, 0, 0, 0]) (e := .int .i64 91) rfl rfl rfl rfl (put4_row HJ.out.res [0, 0, 0, 0]) rfl ⟨by rw [HN.out], put4_below HJ.out.below (Nat.le_refl _) [0, 0, 0, 0]⟩
  ·obtain rfl : k = 4 := by omega
   have HG : Hid (adrA s = #[.agg (fourC (adrTo ws 4)), .int .i64 0]) := by
    rw [Hws.out]
    exact adrA_yes (adr_good (by rw [← Hws.out]; exact HL.out) fun k hk => by
     have := HJ.out.good k (by rw [Hws.out]; exact hk) (by rw [← Hws.out, HL.out] at hk; exact hk)
     simpa only [← Hws.out] using this)
   have c1 : ∀ j, j < 4 → wr.cell? ⟨w.heap.size + 1, j, none⟩ = some (.int .u8 ((adrTo ws 4).getD j 0)) := fun j hj => (cell_of_row _ _ _ _ _ _ HJ.out.arr).trans (fourC_at _ j hj)
   have r0 := c1 0 (by omega)
   have r1 := c1 1 (by omega)
   have r2 := c1 2 (by omega)
   have r3 := c1 3 (by omega)
   have d1 : ∀ j, j < 4 → wr.cell? ⟨w.heap.size, j, none⟩ = some (.int .u8 0) := fun j hj => (cell_of_row _ _ _ _ _ _ HJ.out.res).trans ((fourC_at _ j hj).trans (by match j, hj with | 0, _ => rfl | 1, _ => rfl | 2, _ => rfl | 3, _ => rfl))
   have d2 := d1 0 (by omega)
   have d3 := d1 1 (by omega)
   have d4 := d1 2 (by omega)
   have d5 := d1 3 (by omega)
   have z1 : ∀ j, wr.frozen? ⟨w.heap.size, j, none⟩ = false := fun j => by simp [World.frozen?, HJ.out.res]
   clear c1 d1
   go_wp2
   exact ret_fourA (g := w.heap.size) (cs := fourC (adrTo ws 4)) (e := .int .i64 0) rfl rfl rfl rfl (put4_row HJ.out.res (adrTo ws 4)) rfl ⟨by rw [HG.out], put4_below HJ.out.below (Nat.le_refl _) (adrTo ws 4)⟩
end Go.Proofs.YthgcnmilaifkoaaGreatDoor
