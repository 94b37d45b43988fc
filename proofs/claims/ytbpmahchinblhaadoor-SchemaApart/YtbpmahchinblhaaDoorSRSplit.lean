/- Layer 6 (schema): the document's Split and Plain. -/
import Derived.Test.YtbpmahchinblhaaDoorSGenB
namespace Go.Proofs.YtbpmahchinblhaaDoor
open Go.RowKit
set_option linter.unusedVariables false

/-- Split's state at place k, the piece begun at f. -/
def SpI (s : ByteArray) (c : UInt8) (k f : Nat) (pre : List ByteArray) : Prop :=
  (k ≤ s.size ∧ f ≤ k ∧ (∀ j : Nat, f ≤ j → j < k → s.data.toList[j]? ≠ some c) ∧ pre.map (·.data.toList) ++ sp c (s.data.toList.drop f) = sp c s.data.toList) ∨ (k = s.size + 1 ∧ f ≤ k ∧ pre = wsOf s c)

theorem extract_piece (s : ByteArray) (f k : Nat) : (s.extract f k).data.toList = (s.data.toList.drop f).take (k - f) := by
  rw [ByteArray.data_extract, Array.toList_extract, List.extract_eq_take_drop]
theorem SpI.over {s : ByteArray} {c : UInt8} {k f : Nat} {pre : List ByteArray} (h : SpI s c k f pre) (hk : k < s.size) (hc : ¬ s[k] = c) : SpI s c (k + 1) f pre := by
  rcases h with ⟨h1, h2, h3, h4⟩ | ⟨h1, _⟩
  · refine .inl ⟨by omega, by omega, fun j hj hjk => ?_, h4⟩
    rcases Nat.lt_or_ge j k with h | h
    · exact h3 j hj h
    · obtain rfl : j = k := by omega
      rw [List.getElem?_eq_getElem (by simpa using hk)]
      intro e
      exact hc (Option.some.inj e)
  · omega
theorem SpI.cut {s : ByteArray} {c : UInt8} {k f : Nat} {pre : List ByteArray} (h : SpI s c k f pre) (hk : k < s.size) (hc : s[k] = c) : SpI s c (k + 1) (k + 1) (pre ++ [s.extract f k]) := by
  rcases h with ⟨h1, h2, h3, h4⟩ | ⟨h1, _⟩
  · refine .inl ⟨by omega, by omega, fun j hj hjk => by omega, ?_⟩
    have e := sp_hit c (k - f) (s.data.toList.drop f) (by
      rw [List.getElem?_drop, show f + (k - f) = k by omega, List.getElem?_eq_getElem (by simpa using hk)]
      exact congrArg some hc) (fun j hj => by
      rw [List.getElem?_drop]
      exact h3 (f + j) (by omega) (by omega))
    rw [List.drop_drop, show f + (k - f + 1) = k + 1 by omega] at e
    rw [← h4, e, List.map_append, List.map_cons, List.map_nil, extract_piece]
    simp
  · omega
theorem SpI.last {s : ByteArray} {c : UInt8} {k f : Nat} {pre : List ByteArray} (h : SpI s c k f pre) (hk : k = s.size) : SpI s c (k + 1) (k + 1) (pre ++ [s.extract f k]) := by
  rcases h with ⟨h1, h2, h3, h4⟩ | ⟨h1, _⟩
  · refine .inr ⟨by omega, by omega, ?_⟩
    have e := sp_none c (s.data.toList.drop f) (fun j => by
      rw [List.getElem?_drop]
      by_cases hj : f + j < k
      · exact h3 (f + j) (by omega) hj
      · rw [List.getElem?_eq_none (by simp; omega)]; simp)
    have h5 : (pre ++ [s.extract f k]).map (fun a : ByteArray => a.data.toList) = (wsOf s c).map (fun a : ByteArray => a.data.toList) := by
      rw [ws_sp, ← h4, e, List.map_append, List.map_cons, List.map_nil, extract_piece, List.take_of_length_le (by simp; omega)]
    exact List.map_inj_right (fun a b hab => Go.WideShapes.bytes_inj hab) |>.1 h5
  · omega
theorem SpI.done {s : ByteArray} {c : UInt8} {k f : Nat} {pre : List ByteArray} (h : SpI s c k f pre) (hk : ¬ k ≤ s.size) : pre = wsOf s c := by
  rcases h with ⟨h1, _⟩ | ⟨_, _, h⟩
  · exact absurd h1 hk
  · exact h
theorem byte_same {a b : UInt8} (h : ¬ a = b) : ((a.toNat : Int) == (b.toNat : Int)) = false := by
  have : a.toNat ≠ b.toNat := fun e => h (UInt8.toNat_inj.1 e)
  simp; omega

set_option maxRecDepth 100000 in
set_option maxHeartbeats 1000000 in
theorem rsplitL_calls (s : ByteArray) (c : UInt8) (w : World) (hs : s.size ≤ 1048576) :
    Calls Tryd.prog 9 #[.string s, .int .u8 c.toNat] w fun e w' => ∃ v, e = .returned v ∧ w'.ownsRow w.heap.size 9 1 v (wsOf s c).length ((wsOf s c).map Value.string) ∧ Below w.heap.size w w' := by
  go_enter Tryd.func9, Tryd.ntmps9
  go_wp2
  go_loopw [5, 6, 7] (fun x y i wr => ∃ (k f : Nat) (pre : List ByteArray), k ≤ s.size + 1 ∧ f ≤ k ∧ i = .int .i64 k ∧ y = .int .i64 f ∧ pre.length ≤ k ∧ wr.ownsRow w.heap.size 9 1 x pre.length (pre.map Value.string) ∧ Hid (SpI s c k f pre) ∧ Below w.heap.size w wr) (fun _ _ i _ => (s.size + 1) - (intOf i).toNat)
  case atStart =>
    refine ⟨0, 0, [], by omega, by omega, rfl, rfl, by simp, ?_, ?_, (Below.refl _ _).alloc (Nat.le_refl _) _⟩
    · exact World.ownsRow_lit w #[] 0 (Nat.le_refl _) (by unfold maxLen; omega) rfl
    · exact .inl ⟨by omega, by omega, fun j _ h => by omega, by simp⟩
  case round =>
    obtain ⟨k, f, pre, hk, hf, rfl, rfl, hp, ho, HI, hb⟩ := hrel
    have hsz := hb.size
    have hzk : ((k : Int) == (s.size : Int)) = decide (k = s.size) := by
      by_cases h : k = s.size
      · simp [h]
      · simp [h]; omega
    by_cases hlt : k < s.size
    · have hz0 : ((k : Int) == (s.size : Int)) = false := by rw [hzk]; simp; omega
      by_cases hc : s[k] = c
      · have hz : ((s[k].toNat : Int) == (c.toNat : Int)) = true := by rw [hc]; simp
        have HN : Hid (SpI s c (k + 1) (k + 1) (pre ++ [s.extract f k])) := HI.out.cut hlt hc
        clear hc HI
        go_wp2_with (at_builtin; refine append_row _ rfl (.tmp 26) (.tmp 31) _ 9 _ 1 16 Tryd.underlying43 info_str rfl (by decide) rfl w.heap.size _ pre.length _ rfl [.string (s.extract f k)] rfl (by simp [Value.oneCell']) _ _ rfl rfl rfl ho (by omega) (by omega) hsz ?_)
        intro v1 w1 ho1 hg1
        have hb1 : Below w.heap.size w w1 := hb.trans (hg1.toBelow hsz fun j hj => (World.ownsRow.lt ho j hj).1)
        clear ho hg1 hb
        go_wp2
        go_roundw
        case rel => exact ⟨k + 1, k + 1, pre ++ [s.extract f k], by omega, by omega, by go_num, by go_num, by simp; omega, by simpa using ho1, HN, hb1⟩
        case measure => simp [intOf]; omega
      · have hz := byte_same hc
        have HN : Hid (SpI s c (k + 1) f pre) := HI.out.over hlt hc
        clear hc HI
        go_wp2
        go_roundw
        case rel => exact ⟨k + 1, f, pre, by omega, by omega, by go_num, rfl, by omega, ho, HN, hb⟩
        case measure => simp [intOf]; omega
    · by_cases he : k = s.size
      · have hz0 : ((k : Int) == (s.size : Int)) = true := by rw [hzk]; simpa using he
        have HN : Hid (SpI s c (k + 1) (k + 1) (pre ++ [s.extract f k])) := HI.out.last he
        subst he
        clear HI
        go_wp2_with (at_builtin; refine append_row _ rfl (.tmp 26) (.tmp 31) _ 9 _ 1 16 Tryd.underlying43 info_str rfl (by decide) rfl w.heap.size _ pre.length _ rfl [.string (s.extract f s.size)] rfl (by simp [Value.oneCell']) _ _ rfl rfl rfl ho (by omega) (by omega) hsz ?_)
        intro v1 w1 ho1 hg1
        have hb1 : Below w.heap.size w w1 := hb.trans (hg1.toBelow hsz fun j hj => (World.ownsRow.lt ho j hj).1)
        clear ho hg1 hb
        go_wp2
        go_roundw
        case rel => exact ⟨s.size + 1, s.size + 1, pre ++ [s.extract f s.size], by omega, by omega, by go_num, by go_num, by simp; omega, by simpa using ho1, HN, hb1⟩
        case measure => simp [intOf]
      · have HN : Hid (pre = wsOf s c) := HI.out.done (by omega)
        clear HI
        go_wp2
        go_ret
        exact ⟨_, rfl, by rw [← HN.out]; exact ho, hb⟩
theorem rsplit_calls (s : ByteArray) (c : UInt8) (w : World) (hs : s.size ≤ 8192) :
    Calls Tryd.prog 9 #[.string s, .int .u8 c.toNat] w fun e w' => ∃ v, e = .returned v ∧ w'.ownsRow w.heap.size 9 1 v (wsOf s c).length ((wsOf s c).map Value.string) ∧ Below w.heap.size w w' := rsplitL_calls s c w (by omega)
end Go.Proofs.YtbpmahchinblhaaDoor
