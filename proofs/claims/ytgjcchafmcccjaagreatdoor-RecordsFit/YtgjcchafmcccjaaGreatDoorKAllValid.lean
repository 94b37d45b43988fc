import Derived.Test.YtgjcchafmcccjaaGreatDoorRwLowR
import Derived.Test.YtgjcchafmcccjaaGreatDoorSBase
import Derived.Test.YtgjcchafmcccjaaGreatDoorChecked
/- The walks of appendText and appendNum. -/
namespace Go.Proofs.YtgjcchafmcccjaaGreatDoor
open Go.RowKit
set_option linter.unusedVariables false

/-- A text's bytes as they stand in a piece: each byte 0 as 0 and 255. -/
def esc (l : List UInt8) : List UInt8 := l.flatMap fun c => if c = 0 then [0, 255] else [c]
theorem esc_append (l m : List UInt8) : esc (l ++ m) = esc l ++ esc m := by simp [esc]
theorem esc_length (l : List UInt8) : l.length ≤ (esc l).length ∧ (esc l).length ≤ 2 * l.length := by
  induction l with
  | nil => simp [esc]
  | cons c l ih =>
    have : esc (c :: l) = (if c = 0 then [0, 255] else [c]) ++ esc l := by simp [esc]
    rw [this]
    split <;> simp <;> omega

theorem take_snoc (s : ByteArray) (k : Nat) (h : k < s.size) : s.data.toList.take (k + 1) = s.data.toList.take k ++ [s[k]] := by
  rw [List.take_succ_eq_append_getElem (by simpa using h)]; rfl
theorem esc_snoc (l : List UInt8) (s : ByteArray) (k : Nat) (h : k < s.size) (hc : ¬ s[k] = 0) : l ++ esc (s.data.toList.take (k + 1)) = l ++ esc (s.data.toList.take k) ++ [s[k]] := by
  rw [take_snoc s k h, esc_append]; simp [esc, hc]
theorem esc_snoc0 (l : List UInt8) (s : ByteArray) (k : Nat) (h : k < s.size) (hc : s[k] = 0) : l ++ esc (s.data.toList.take (k + 1)) = l ++ esc (s.data.toList.take k) ++ [s[k]] ++ [255] := by
  rw [take_snoc s k h, esc_append]; simp [esc, hc]
theorem esc_take_le (l : List UInt8) (s : ByteArray) (k : Nat) (h : k < s.size) : (l ++ esc (s.data.toList.take k)).length + 2 ≤ l.length + 2 * s.size := by
  have := (esc_length (s.data.toList.take k)).2
  have h2 : (s.data.toList.take k).length ≤ k := List.length_take_le _ _
  simp only [List.length_append]; omega
theorem byte_eq0 {c : UInt8} (h : c = 0) : ((c.toNat : Int) == 0) = true := by subst h; rfl
theorem byte_ne0 {c : UInt8} (h : ¬ c = 0) : ((c.toNat : Int) == 0) = false := by
  have : c.toNat ≠ 0 := fun e => h (UInt8.toNat_inj.1 (by simpa using e))
  simpa using this

set_option maxHeartbeats 400000 in
theorem appendText_calls (B : Nat) (v : Value) (l : List UInt8) (t : ByteArray) (w : World) (hown : Own w B v l) (hB : B ≤ w.heap.size) (hl : l.length + 2 * t.size ≤ 140737488355328) :
    Calls Tryz.prog 110 #[v, .string t] w fun e w' => ∃ v', e = .returned v' ∧ Own w' B v' (l ++ esc t.data.toList) ∧ Grew w w' v v' := by
  go_enter Tryz.func110, Tryz.ntmps110
  go_wp2
  go_loopw [0, 8] (fun x i wr => ∃ k : Nat, k ≤ t.size ∧ i = .int .i64 k ∧ Own wr B x (l ++ esc (t.data.toList.take k)) ∧ Grew w wr v x) (fun _ i _ => t.size - (intOf i).toNat)
  case atStart => exact ⟨0, Nat.zero_le _, rfl, by simpa [esc] using hown, Grew.refl _ _⟩
  case round =>
    obtain ⟨k, hk, rfl, ho, hg⟩ := hrel
    by_cases hlt : k < t.size
    · have hle := esc_take_le l t k hlt
      have hs := hg.size
      by_cases hc : t[k] = 0
      · have hz := byte_eq0 hc
        have HC : Hid (t[k] = 0) := hc
        clear hc
        go_wp2_with (at_builtin; refine append_bytes _ rfl (.tmp 11) (.tmp 15) rfl B _ _ rfl (ho.alloc _) ⟨wr.heap.size, 0, none⟩ 1 1 [t[k]] rfl rfl (cells_new _ _ _) (by omega) (by simp; omega) ?_)
        intro v1 w1 ho1 hg1
        have hs1 := hg1.size
        simp at hs1
        have hg2 := hg.trans hg1.ofAlloc
        clear ho hg hg1
        go_wp2_with (at_builtin; refine append_bytes _ rfl (.tmp 21) (.tmp 22) rfl B _ _ rfl (ho1.alloc _) ⟨w1.heap.size, 0, none⟩ 1 1 [255] rfl rfl (cells_new _ _ _) (by simp at hle ⊢; omega) (by simp; omega) ?_)
        intro v2 w2 ho2 hg3
        have hg4 := hg2.trans hg3.ofAlloc
        clear ho1 hg2 hg3
        go_wp2
        go_roundw
        case rel => exact ⟨k + 1, by omega, by go_num, by rw [esc_snoc0 l t k hlt HC.out]; simpa only [List.append_assoc, List.cons_append, List.nil_append] using ho2, hg4⟩
        case measure => simp [intOf]; omega
      · have hz := byte_ne0 hc
        have HC : Hid (¬ t[k] = 0) := hc
        clear hc
        go_wp2_with (at_builtin; refine append_bytes _ rfl (.tmp 11) (.tmp 15) rfl B _ _ rfl (ho.alloc _) ⟨wr.heap.size, 0, none⟩ 1 1 [t[k]] rfl rfl (cells_new _ _ _) (by omega) (by simp; omega) ?_)
        intro v1 w1 ho1 hg1
        have hg2 := hg.trans hg1.ofAlloc
        clear ho hg hg1
        go_wp2
        go_roundw
        case rel => exact ⟨k + 1, by omega, by go_num, by rw [esc_snoc l t k hlt HC.out]; simpa only [List.append_assoc, List.cons_append, List.nil_append] using ho1, hg2⟩
        case measure => simp [intOf]; omega
    · go_wp2
      go_ret
      exact ⟨_, rfl, by rw [List.take_of_length_le (by simp; omega)] at ho; exact ho, hg⟩

/-- A number's eight bytes, the highest first. -/
def numByte (n : Int) (i : Nat) : UInt8 := UInt8.ofNat (n / 2 ^ (56 - 8 * i) % 256).toNat
def num8 (n : Int) : List UInt8 := (List.range 8).map (numByte n)

theorem byte_back (x : Int) (h0 : 0 ≤ x) (h1 : x < 256) : ((UInt8.ofNat x.toNat).toNat : Int) = x := by
  rw [UInt8.toNat_ofNat']; omega
theorem numByte_val (n : Int) (i : Nat) : ((numByte n i).toNat : Int) = n / 2 ^ (56 - 8 * i) % 256 := byte_back _ (by omega) (by omega)
theorem num_cell (n : Int) (k : Nat) : bs [numByte n k] = [.int .u8 (n / 2 ^ (56 - 8 * k) % 256)] := by simp [bs, numByte_val]
theorem num8_snoc (l : List UInt8) (n : Int) (k : Nat) (h : k < 8) : l ++ (num8 n).take (k + 1) = l ++ (num8 n).take k ++ [numByte n k] := by
  rw [List.take_succ_eq_append_getElem (by simpa [num8] using h)]; simp [num8]
theorem num8_take_le (l : List UInt8) (n : Int) (k : Nat) : (l ++ (num8 n).take k).length ≤ l.length + 8 := by
  have : ((num8 n).take k).length ≤ 8 := by
    refine Nat.le_trans (List.length_take_le' _ _) ?_; simp [num8]
  simp only [List.length_append]; omega

set_option maxHeartbeats 400000 in
theorem appendNum_calls (B : Nat) (v : Value) (l : List UInt8) (n : Int) (w : World) (hown : Own w B v l) (hB : B ≤ w.heap.size) (hl : l.length ≤ 140737488355000) (h0 : 0 ≤ n) (h1 : n ≤ 18446744073709551615) :
    Calls Tryz.prog 111 #[v, .int .u64 n] w fun e w' => ∃ v', e = .returned v' ∧ Own w' B v' (l ++ num8 n) ∧ Grew w w' v v' := by
  go_enter Tryz.func111, Tryz.ntmps111
  go_wp2
  go_loopw [0, 5] (fun x i wr => ∃ k : Nat, k ≤ 8 ∧ i = .int .i64 (56 - 8 * (k : Int)) ∧ Own wr B x (l ++ (num8 n).take k) ∧ Grew w wr v x) (fun _ i _ => (intOf i + 8).toNat)
  case atStart => exact ⟨0, Nat.zero_le _, rfl, by simpa using hown, Grew.refl _ _⟩
  case round =>
    obtain ⟨k, hk, rfl, ho, hg⟩ := hrel
    have hs := hg.size
    by_cases hlt : k < 8
    · have hle := num8_take_le l n k
      have hnc := num_cell n k
      have HN : Hid (bs [numByte n k] = [.int .u8 (n / 2 ^ (56 - 8 * k) % 256)]) := hnc
      clear hnc
      go_wp2_with (at_builtin; refine append_bytes _ rfl (.tmp 10) (.tmp 15) rfl B _ _ rfl (ho.alloc _) ⟨wr.heap.size, 0, none⟩ 1 1 [numByte n k] rfl rfl (by intro j u hj; rw [HN.out] at hj; exact cells_new _ _ _ j u hj) (by omega) (by simp; omega) ?_)
      intro v1 w1 ho1 hg1
      have hg2 := hg.trans hg1.ofAlloc
      clear ho hg hg1
      go_wp2
      go_roundw
      case rel => exact ⟨k + 1, by omega, by go_num, by rw [num8_snoc l n k hlt]; simpa only [List.append_assoc, List.cons_append, List.nil_append] using ho1, hg2⟩
      case measure => simp [intOf]; omega
    · obtain rfl : k = 8 := by omega
      go_wp2
      go_ret
      exact ⟨_, rfl, by rw [List.take_of_length_le (by simp [num8])] at ho; exact ho, hg⟩
end Go.Proofs.YtgjcchafmcccjaaGreatDoor

/- The walk of appendPiece. -/
namespace Go.Proofs.YtgjcchafmcccjaaGreatDoor
open Go.RowKit
set_option linter.unusedVariables false

/-- A part's piece; open: a text without its end. -/
def piece (p : Pt) (op : Bool) : List UInt8 :=
  if p.k == 1 then 1 :: (esc p.t.data.toList ++ if op then [] else [0, 1]) else if p.k == 2 then 2 :: num8 p.n else [3, UInt8.ofNat p.n.toNat]

theorem piece_length (p : Pt) (op : Bool) : (piece p op).length ≤ 2 * p.t.size + 9 := by
  unfold piece
  have := (esc_length p.t.data.toList).2
  have h2 : p.t.data.toList.length = p.t.size := by simp
  split
  · cases op <;> simp <;> omega
  · split <;> simp [num8]

theorem vld_cases {p : Pt} (h : vldB p = true) : (p.k = 1 ∧ p.n = 0) ∨ (p.k = 2 ∧ p.t.toList = []) ∨ (p.k = 3 ∧ p.t.toList = [] ∧ (p.n = 0 ∨ p.n = 1)) := by
  unfold vldB at h
  split at h
  · exact .inl ⟨eq_of_beq ‹_›, by simpa using h⟩
  · split at h
    · exact .inr (.inl ⟨eq_of_beq ‹_›, by simpa using h⟩)
    · refine .inr (.inr ?_); simpa using h

set_option maxHeartbeats 1000000 in
theorem appendPiece_calls (B : Nat) (v : Value) (l : List UInt8) (k n : Int) (t : ByteArray) (op : Bool) (w : World) (hown : Own w B v l) (hB : B ≤ w.heap.size) (hl : l.length + 2 * t.size ≤ 140737488354000)
    (hv : vldB ⟨k, t, n⟩ = true) (hn0 : 0 ≤ n) (hn1 : n ≤ 18446744073709551615) :
    Calls Tryz.prog 78 #[v, .agg #[.int .i64 k, .string t, .int .u64 n], .bool op] w fun e w' => ∃ v', e = .returned v' ∧ Own w' B v' (l ++ piece ⟨k, t, n⟩ op) ∧ Grew w w' v v' := by
  have hlt := hown.lt
  rcases vld_cases hv with ⟨hk, hn⟩ | ⟨hk, ht⟩ | ⟨hk, ht, hn⟩
  · simp only at hk hn
    subst hk hn
    clear hv
    go_enter Tryz.func78, Tryz.ntmps78
    go_wp2_with (at_builtin; refine append_lit _ rfl (.tmp 7) (.tmp 11) rfl B _ l rfl [1] _ 1 1 _ rfl rfl rfl (by simp) (hown.alloc _) (by omega) (by simp; omega) ?_)
    intro v1 w1 ho1 hg1
    obtain ⟨hc0, hc1, hc2⟩ := hown.box hg1
    have hs1 := hg1.size
    simp at hs1
    go_wp2_with fail
    refine (appendText_calls B v1 (l ++ [1]) t _ ho1 (by omega) (by simp; omega)).mono ?_
    rintro e w2 ⟨v2, rfl, ho2, hg2⟩
    have hs2 := hg2.size
    have hg3 := hg1.ofAlloc.trans hg2
    clear hc0 hc1 hc2 hg1 hg2 ho1
    cases op with
    | true =>
      go_wp2
      go_ret
      exact ⟨_, rfl, by simpa [piece] using ho2, hg3⟩
    | false =>
      have hle := (esc_length t.data.toList).2
      have hsz : t.data.toList.length = t.size := by simp
      go_wp2_with (at_builtin; refine append_lit _ rfl (.tmp 23) (.tmp 24) rfl B _ _ rfl [0, 1] _ 2 2 _ rfl rfl rfl (by simp) ho2 (by simp; omega) (by omega) ?_)
      intro v3 w3 ho3 hg4
      have hg5 := hg3.trans hg4
      clear ho2 hg3 hg4
      go_wp2
      go_ret
      exact ⟨_, rfl, by simpa [piece] using ho3, hg5⟩
  · simp only at hk ht
    subst hk
    clear hv
    go_enter Tryz.func78, Tryz.ntmps78
    go_wp2_with (at_builtin; refine append_lit _ rfl (.tmp 7) (.tmp 11) rfl B _ l rfl [2] _ 1 1 _ rfl rfl rfl (by simp) (hown.alloc _) (by omega) (by simp; omega) ?_)
    intro v1 w1 ho1 hg1
    obtain ⟨hc0, hc1, hc2⟩ := hown.box hg1
    have hs1 := hg1.size
    simp at hs1
    go_wp2_with fail
    refine (appendNum_calls B v1 (l ++ [2]) n _ ho1 (by omega) (by simp; omega) hn0 hn1).mono ?_
    rintro e w2 ⟨v2, rfl, ho2, hg2⟩
    have hg3 := hg1.ofAlloc.trans hg2
    clear hc0 hc1 hc2 hg1 hg2 ho1
    go_wp2
    go_ret
    exact ⟨_, rfl, by simpa [piece] using ho2, hg3⟩
  · simp only at hk ht hn
    subst hk
    clear hv
    have hlit : Hid (#[Value.int IntKind.u8 n] = (bs [UInt8.ofNat n.toNat]).toArray) := by rcases hn with rfl | rfl <;> rfl
    have hle : n ≤ 1 := by omega
    clear hn
    go_enter Tryz.func78, Tryz.ntmps78
    go_wp2_with (at_builtin; refine append_lit _ rfl (.tmp 7) (.tmp 11) rfl B _ l rfl [3] _ 1 1 _ rfl rfl rfl (by simp) (hown.alloc _) (by omega) (by simp; omega) ?_)
    intro v1 w1 ho1 hg1
    obtain ⟨hc0, hc1, hc2⟩ := hown.box hg1
    have hs1 := hg1.size
    simp at hs1
    go_wp2_with (at_builtin; refine append_lit _ rfl (.tmp 34) (.tmp 38) rfl B _ _ rfl [UInt8.ofNat n.toNat] _ 1 1 _ rfl rfl hlit.out (by simp) ho1 (by simp; omega) (by omega) ?_)
    intro v2 w2 ho2 hg2
    have hg3 := hg1.ofAlloc.trans hg2
    clear hc0 hc1 hc2 hg1 hg2 ho1
    go_wp2
    go_ret
    exact ⟨_, rfl, by simpa [piece] using ho2, hg3⟩
end Go.Proofs.YtgjcchafmcccjaaGreatDoor

/- The walks of valid and Valid. -/
namespace Go.Proofs.YtgjcchafmcccjaaGreatDoor
open Go.RowKit
set_option linter.unusedVariables false

theorem vld_a {k n : Int} {t : ByteArray} (h : (k == 1) = true) : (n == 0) = vldB ⟨k, t, n⟩ := by simp [vldB, h]
theorem vld_b {k n : Int} {t : ByteArray} (h : (k == 1) = false) (h3 : (k == 3) = true) (hn : 1 < n) : false = vldB ⟨k, t, n⟩ := by
  have : k = 3 := by simpa using h3
  subst this
  simp [vldB]
  intros; omega
theorem vld_c {k n : Int} {t : ByteArray} (h : (k == 1) = false) (h3 : (k == 3) = true) (h0 : 0 ≤ n) (hn : n ≤ 1) : t.toList.isEmpty = vldB ⟨k, t, n⟩ := by
  have : k = 3 := by simpa using h3
  subst this
  have : n = 0 ∨ n = 1 := by omega
  simp [vldB, this]
theorem vld_d {k n : Int} {t : ByteArray} (h : (k == 1) = false) (h3 : (k == 2) = true) : t.toList.isEmpty = vldB ⟨k, t, n⟩ := by
  simp [vldB, h, h3]
theorem vld_e {k n : Int} {t : ByteArray} (h : (k == 1) = false) (h3 : (k == 3) = false) (h2 : (k == 2) = false) : false = vldB ⟨k, t, n⟩ := by
  simp [vldB, h, h3, h2]

set_option maxHeartbeats 400000 in
theorem valid_calls (k n : Int) (t : ByteArray) (w : World) (hn : 0 ≤ n) :
    Calls Tryz.prog 109 #[.agg #[.int .i64 k, .string t, .int .u64 n]] w fun e w' => e = .returned (.bool (vldB ⟨k, t, n⟩)) ∧ Below w.heap.size w w' := by
  go_enter Tryz.func109, Tryz.ntmps109
  go_wp2
  all_goals go_ret
  all_goals refine ⟨ret_bool ?_, (Below.refl _ _).alloc (Nat.le_refl _) _⟩
  all_goals go_light
  · exact vld_a ‹_›
  · exact vld_b ‹_› ‹_› ‹_›
  · exact vld_c ‹_› ‹_› hn ‹_›
  · exact vld_d ‹_› ‹_›
  · exact vld_e ‹_› ‹_› ‹_›

theorem vld_f {k n : Int} {t : ByteArray} (h1 : (k == 1) = false) (h2 : (k == 2) = false) (h3 : k = 3) (ht : t.toList = []) (hn : n = 0) : true = vldB ⟨k, t, n⟩ := by
  subst h3 hn; simp [vldB, ht]
theorem vld_g {k n : Int} {t : ByteArray} (h1 : (k == 1) = false) (h2 : (k == 2) = false) (h3 : k = 3) (ht : t.toList = []) : (n == 0 || n == 1) = vldB ⟨k, t, n⟩ := by
  subst h3; simp [vldB, ht]
theorem vld_h {k n : Int} {t : ByteArray} (h1 : (k == 1) = false) (h2 : (k == 2) = false) (h3 : k = 3) (ht : ¬ t.toList = []) : false = vldB ⟨k, t, n⟩ := by
  subst h3; simp [vldB, ht]
theorem vld_i {k n : Int} {t : ByteArray} (h1 : (k == 1) = false) (h2 : (k == 2) = false) (h3 : ¬ k = 3) : false = vldB ⟨k, t, n⟩ := by
  simp [vldB, h1, h2, h3]

end Go.Proofs.YtgjcchafmcccjaaGreatDoor

/- The walks of allValid and AllValid. -/
namespace Go.Proofs.YtgjcchafmcccjaaGreatDoor
open Go.RowKit
set_option linter.unusedVariables false

theorem all_take_succ (ps : List Pt) (k : Nat) (h : k < ps.length) : (ps.take (k + 1)).all vldB = ((ps.take k).all vldB && vldB ps[k]) := by
  rw [List.take_succ_eq_append_getElem h, List.all_append]; simp only [List.all_cons, List.all_nil, Bool.and_true]

theorem all_false_at (ps : List Pt) (k : Nat) (h : k < ps.length) (hv : vldB ps[k] = false) : false = ps.all vldB := by
  cases he : ps.all vldB with
  | false => rfl
  | true => rw [List.all_eq_true] at he; rw [he _ (List.getElem_mem h)] at hv; exact hv.symm

theorem all_true_at (ps : List Pt) (k : Nat) (h : ¬ k < ps.length) (hv : (ps.take k).all vldB = true) : true = ps.all vldB := by
  rw [List.take_of_length_le (by omega)] at hv; exact hv.symm

theorem below_call {B : Nat} {w wr w' : World} {o : Obj} (hb : Below B w wr) (hB : B ≤ wr.heap.size) (h : Below (wr.alloc o).heap.size (wr.alloc o) w') : Below B w w' :=
  (hb.alloc hB o).trans (h.mono (by simp; omega))

theorem below_size {w wr : World} (hb : Below w.heap.size w wr) : w.heap.size ≤ wr.heap.size := hb.size

set_option maxHeartbeats 400000 in
theorem allValid_calls (ao : Option Addr) (cap : Nat) (ps : List Pt) (w : World) (hl : ps.length ≤ 4398046511104) (hp : PartsAt w ao ps) :
    Calls Tryz.prog 77 #[.slice ao ps.length cap] w fun e w' => e = .returned (.bool (ps.all vldB)) ∧ Below w.heap.size w w' := by
  go_enter Tryz.func77, Tryz.ntmps77
  go_wp2
  go_loopw [7] (fun i wr => ∃ k : Nat, k ≤ ps.length ∧ i = .int .i64 k ∧ (ps.take k).all vldB = true ∧ Below w.heap.size w wr) (fun i _ => ps.length - (intOf i).toNat)
  case atStart => exact ⟨0, Nat.zero_le _, rfl, rfl, Below.refl _ _⟩
  case round =>
    obtain ⟨k, hk, rfl, hall, hb⟩ := hrel
    have HA : Hid ((ps.take k).all vldB = true) := hall
    clear hall
    by_cases hlt : k < ps.length
    · obtain ⟨b, off, rfl, h0, h1, h2, hwf⟩ := (hp.below hb) k ps[k] (by simp [hlt])
      go_wp2_with fail
      refine (valid_calls _ _ _ _ hwf.2.1.1).mono ?_
      rintro e w' ⟨rfl, hb1⟩
      have hb2 := below_call hb hb.size hb1
      clear h0 h1 h2 hb1
      cases hv : vldB ps[k] with
      | true =>
        go_wp2
        go_roundw
        case rel => exact ⟨k + 1, by omega, by go_num, by rw [all_take_succ ps k hlt, HA.out, hv]; rfl, hb2⟩
        case measure => simp [intOf]; omega
      | false =>
        go_wp2
        go_ret
        exact ⟨ret_bool (all_false_at ps k hlt hv), hb2⟩
    · go_wp2
      go_ret
      exact ⟨ret_bool (all_true_at ps k hlt HA.out), hb⟩

end Go.Proofs.YtgjcchafmcccjaaGreatDoor
