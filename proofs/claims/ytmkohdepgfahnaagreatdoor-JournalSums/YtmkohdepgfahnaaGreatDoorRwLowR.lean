import Derived.Test.YtmkohdepgfahnaaGreatDoorKLaw
import Derived.Test.YtmkohdepgfahnaaGreatDoorRcLow
/- What was written byte by byte, as a text. -/
namespace Go.Proofs.YtmkohdepgfahnaaGreatDoor
open Go.RowKit
set_option linter.unusedVariables false

theorem Own.string {w : World} {B : Nat} {v : Value} {l : List UInt8} (h : Own w B v l) : (convert 23 9 v).run Tryz.prog w = .ok (.string ⟨l.toArray⟩) w := by
  rcases h.2 with ⟨rfl, h0⟩ | ⟨g, cap, cur, rfl, _, _, _, _, _, _⟩
  · rw [run_convert_bytes_nil w _ _ Tryz.underlying23 Tryz.underlying5 0 0 _ Tryz.underlying9]
    rw [List.length_eq_zero_iff.1 h0]; rfl
  · refine run_convert_bytes_back w _ _ _ _ _ l Tryz.underlying23 Tryz.underlying5 Tryz.underlying9 ?_
    intro j hj
    refine World.ownsRow.cells h (g := g) rfl j _ ?_
    simp [bs, hj]

end Go.Proofs.YtmkohdepgfahnaaGreatDoor

/- Layer 7 (rows): the document's Low; RowsLow. -/
namespace Go.Proofs.YtmkohdepgfahnaaGreatDoor
open Go.RowKit
set_option linter.unusedVariables false

def lowTo (s : ByteArray) (k : Nat) : List UInt8 := (s.data.toList.take k).map lowB
theorem lowTo_succ (s : ByteArray) (k : Nat) (hk : k < s.size) : lowTo s (k + 1) = lowTo s k ++ [lowB s[k]] := by
  unfold lowTo
  rw [List.take_succ_eq_append_getElem (by simpa using hk), List.map_append]
  rfl
theorem lowTo_all (s : ByteArray) : (⟨(lowTo s s.size).toArray⟩ : ByteArray) = lowS s := by
  unfold lowTo lowS
  rw [List.take_of_length_le (by simp)]
theorem lowTo_len (s : ByteArray) (k : Nat) (hk : k ≤ s.size) : (lowTo s k).length = k := by
  unfold lowTo
  rw [List.length_map, List.length_take]
  simp only [Array.length_toList]
  exact Nat.min_eq_left hk

set_option maxRecDepth 100000 in
set_option maxHeartbeats 1000000 in
theorem refLow_calls (s : ByteArray) (w : World) (hs : s.size ≤ 140737488351296) :
    Calls Tryz.prog 66 #[.string s] w fun e w' => e = .returned (.string (lowS s)) ∧ Below w.heap.size w w' := by
  go_enter Tryz.func66, Tryz.ntmps66
  go_wp2
  go_loopw [3, 4] (fun v i wr => ∃ (k : Nat) (a : Option Addr) (c : Nat), k ≤ s.size ∧ i = .int .i64 k ∧ v = .slice a k c ∧ Hid (Own wr w.heap.size (.slice a k c) (lowTo s k)) ∧ Hid (Below w.heap.size w wr)) (fun _ i _ => s.size - (intOf i).toNat)
  case atStart => exact ⟨0, _, _, Nat.zero_le _, rfl, rfl, World.ownsRow_lit (size := 1) w #[] 0 (Nat.le_refl _) (by unfold maxLen; omega) rfl, (Below.refl _ _).alloc (Nat.le_refl _) _⟩
  case round =>
    obtain ⟨k, a, c, hk, rfl, rfl, HO, HB⟩ := hrel
    have hlen := lowTo_len s k hk
    by_cases hlt : k < s.size
    · have hby : (s[k].toNat : Int) ≤ 255 := by have := s[k].toNat_lt; omega
      have hsz := HB.out.size
      have HT : Hid (lowTo s (k + 1) = lowTo s k ++ [lowB s[k]]) := lowTo_succ s k hlt
      have hln := lowB_toNat s[k]
      by_cases hb : 65 ≤ s[k].toNat ∧ s[k].toNat ≤ 90
      · have q1 : (65 : Int) ≤ (s[k].toNat : Int) := by omega
        have q2 : (s[k].toNat : Int) ≤ 90 := by omega
        rw [if_pos hb] at hln
        have HC : Hid (#[Value.int .u8 ((s[k].toNat : Int) + 32)] = (bs [lowB s[k]]).toArray) := by
          rw [Hid]
          simp only [bs, List.map_cons, List.map_nil]
          rw [hln]
          simp
        clear hb hln
        go_wp2_with (at_builtin; refine append_lit _ rfl (.tmp 22) (.tmp 27) rfl w.heap.size _ (lowTo s k) rfl [lowB s[k]] _ 1 1 _ rfl rfl HC.out rfl HO.out (by omega) hsz ?_)
        intro v1 w1 ho1 hg1
        have HB1 : Hid (Below w.heap.size w w1) := HB.out.trans (HO.out.toBelow hsz hg1)
        have HO1 : Hid (Own w1 w.heap.size v1 (lowTo s (k + 1))) := by rw [Hid, HT.out]; exact ho1
        obtain ⟨a1, c1, rfl⟩ := HO1.out.shape
        rw [lowTo_len s (k + 1) hlt] at HO1 ⊢
        clear ho1 hg1
        go_wp2
        go_roundw
        case rel => exact ⟨k + 1, a1, c1, by omega, by go_num, rfl, HO1, HB1⟩
        case measure => simp [intOf]; omega
      · rw [if_neg hb] at hln
        have HC : Hid (#[Value.int .u8 (s[k].toNat : Int)] = (bs [lowB s[k]]).toArray) := by
          rw [Hid]
          simp only [bs, List.map_cons, List.map_nil]
          rw [hln]
        clear hln
        by_cases h65 : 65 ≤ s[k].toNat
        · have q1 : (65 : Int) ≤ (s[k].toNat : Int) := by omega
          have q2 : ¬ ((s[k].toNat : Int) ≤ 90) := by omega
          clear hb h65
          go_wp2_with (at_builtin; refine append_lit _ rfl (.tmp 29) (.tmp 33) rfl w.heap.size _ (lowTo s k) rfl [lowB s[k]] _ 1 1 _ rfl rfl HC.out rfl HO.out (by omega) hsz ?_)
          intro v1 w1 ho1 hg1
          have HB1 : Hid (Below w.heap.size w w1) := HB.out.trans (HO.out.toBelow hsz hg1)
          have HO1 : Hid (Own w1 w.heap.size v1 (lowTo s (k + 1))) := by rw [Hid, HT.out]; exact ho1
          obtain ⟨a1, c1, rfl⟩ := HO1.out.shape
          rw [lowTo_len s (k + 1) hlt] at HO1 ⊢
          clear ho1 hg1
          go_wp2
          go_roundw
          case rel => exact ⟨k + 1, a1, c1, by omega, by go_num, rfl, HO1, HB1⟩
          case measure => simp [intOf]; omega
        · have q1 : ¬ ((65 : Int) ≤ (s[k].toNat : Int)) := by omega
          clear hb h65
          go_wp2_with (at_builtin; refine append_lit _ rfl (.tmp 29) (.tmp 33) rfl w.heap.size _ (lowTo s k) rfl [lowB s[k]] _ 1 1 _ rfl rfl HC.out rfl HO.out (by omega) hsz ?_)
          intro v1 w1 ho1 hg1
          have HB1 : Hid (Below w.heap.size w w1) := HB.out.trans (HO.out.toBelow hsz hg1)
          have HO1 : Hid (Own w1 w.heap.size v1 (lowTo s (k + 1))) := by rw [Hid, HT.out]; exact ho1
          obtain ⟨a1, c1, rfl⟩ := HO1.out.shape
          rw [lowTo_len s (k + 1) hlt] at HO1 ⊢
          clear ho1 hg1
          go_wp2
          go_roundw
          case rel => exact ⟨k + 1, a1, c1, by omega, by go_num, rfl, HO1, HB1⟩
          case measure => simp [intOf]; omega
    · obtain rfl : k = s.size := by omega
      have hst := HO.out.string
      rw [lowTo_all] at hst
      go_wp2
      go_ret
      exact ⟨rfl, HB.out⟩
end Go.Proofs.YtmkohdepgfahnaaGreatDoor
