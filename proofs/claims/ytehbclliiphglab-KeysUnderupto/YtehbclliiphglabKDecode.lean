/- The walk of Decode. -/
import Derived.Test.YtehbclliiphglabKDec
import Derived.Test.YtehbclliiphglabKParts
namespace Go.Proofs.Ytehbclliiphglab
open Go.RowKit
set_option linter.unusedVariables false

/-- What Decode answers: the list and the error. -/
def decAns (l : List UInt8) : List Pt × Int :=
  if 1024 < l.length then ([], 11) else match dec l with
    | none => ([], 12)
    | some ps => (ps, 0)

theorem decF_empty (f : Nat) : decF f [] = some [] := by cases f <;> rfl
theorem decF_none (f : Nat) (l : List UInt8) (hl : l ≠ []) (h : rdPiece l = none) : decF f l = none := by
  cases f with
  | zero => simp [decF, hl]
  | succ f => simp [decF, hl, h]
theorem decF_some (f : Nat) (l : List UInt8) (p : Pt) (n : Nat) (hl : l ≠ []) (h : rdPiece l = some (p, n)) (hf : l.length ≤ f) : ∃ g, f = g + 1 ∧ decF f l = (decF g (l.drop n)).map fun r => p :: r := by
  cases f with
  | zero => exact absurd (List.eq_nil_of_length_eq_zero (by omega)) hl
  | succ f => exact ⟨f, rfl, by simp [decF, hl, h]⟩

theorem extract_list (s : ByteArray) (k : Nat) : (s.extract k s.size).data.toList = s.data.toList.drop k := by
  rw [ByteArray.data_extract]
  simp
  rw [List.take_of_length_le (by simp)]

theorem Pt.small.wf {p : Pt} (h : p.small 1024) : p.wf := ⟨by have := h.2.1; omega, h.2.2, by have := h.1; omega⟩

set_option maxHeartbeats 1000000 in
theorem decode_calls (s : ByteArray) (w : World) (hs : s.size ≤ 140737488351232) :
    Calls Try.prog 17 #[.string s] w fun e w' => ∃ v, e = .returned (.tuple #[v, .int .i64 (decAns s.data.toList).2]) ∧ OwnP w' w.heap.size v (decAns s.data.toList).1 ∧ Below w.heap.size w w' ∧ ∀ p ∈ (decAns s.data.toList).1, p.small 1024 := by
  have hlen : s.data.toList.length = s.size := by simp
  by_cases hlong : 1024 < s.size
  · have HA : Hid (decAns s.data.toList = ([], 11)) := by simp [decAns, hlong, Hid]
    clear hlen
    go_enter Try.func17, Try.ntmps17
    go_wp2
    go_ret2
    rw [HA.out]
    exact ⟨_, rfl, OwnP.nil _ _, Below.refl _ _, by simp⟩
  · have HA : Hid (decAns s.data.toList = match dec s.data.toList with | none => ([], 12) | some ps => (ps, 0)) := by
      show _ = _
      unfold decAns; rw [if_neg (by omega)]
    have HL : Hid (s.data.toList.length = s.size) := hlen
    clear hlen
    go_enter Try.func17, Try.ntmps17
    go_wp2
    go_loopw [4, 5] (fun x i wr => ∃ (k f : Nat) (pre : List Pt), k ≤ s.size ∧ i = .int .i64 k ∧ OwnP wr w.heap.size x pre ∧ pre.length ≤ k ∧ s.size ≤ k + f ∧ Hid ((decF f (s.data.toList.drop k)).map (fun r => pre ++ r) = dec s.data.toList) ∧ Hid (∀ p ∈ pre, p.small 1024) ∧ Below w.heap.size w wr) (fun _ i _ => (s.size - intOf i).toNat)
    case atStart =>
      refine ⟨0, s.size, [], Nat.zero_le _, rfl, OwnP.nil _ _, by simp, by omega, ?_, fun p hp => by simp at hp, Below.refl _ _⟩
      show _ = _
      unfold dec
      rw [HL.out]
      simp
    case round =>
      obtain ⟨k, f, pre, hk, rfl, ho, hpk, hkf, HR, HS, hb⟩ := hrel
      have hsz := hb.size
      by_cases hlt : k < s.size
      · have HX : Hid ((s.extract k s.size).data.toList = s.data.toList.drop k) := extract_list s k
        have hne : Hid (s.data.toList.drop k ≠ []) := by
          intro h; have := congrArg List.length h; simp at this; have := HL.out; omega
        have hxs : (s.extract k s.size).size = s.size - k := by simp
        have HXS : Hid ((s.extract k s.size).size = s.size - k) := hxs
        clear hxs
        go_wp2_with fail
        refine (readPiece_calls (s.extract k s.size) _ (by rw [HXS.out]; omega) (by rw [HXS.out]; omega)).mono ?_
        rintro e w1 ⟨rfl, hb1⟩
        have hb2 : Below w.heap.size w w1 := hb.trans (hb1.mono hsz)
        have ho1 := ho.below hb1
        have hsz1 := hb1.size
        rw [HX.out]
        clear ho hb
        cases hrd : rdPiece (s.data.toList.drop k) with
        | none =>
          have HD : Hid (dec s.data.toList = none) := by
            show _ = _
            rw [← HR.out, decF_none f _ hne.out hrd]; rfl
          rw [readAns_none]
          go_wp2
          go_light
          go_ret2
          rw [HA.out, HD.out]
          exact ⟨_, rfl, OwnP.nil _ _, hb2.alloc (by omega) _, by simp⟩
        | some pn =>
          obtain ⟨p, n⟩ := pn
          obtain ⟨hn2, hnl, hsm⟩ := rdPiece_bounds hrd
          have hdl : (s.data.toList.drop k).length = s.size - k := by rw [List.length_drop, HL.out]
          rw [hdl] at hnl hsm
          obtain ⟨g, hg1, hg2⟩ := decF_some f _ p n hne.out hrd (by rw [hdl]; omega)
          have HR2 : Hid ((decF g (s.data.toList.drop (k + n))).map (fun r => (pre ++ [p]) ++ r) = dec s.data.toList) := by
            show _ = _
            rw [← HR.out, hg2, List.drop_drop, Option.map_map]
            congr 1
            funext r; simp
          have HS2 : Hid (∀ q ∈ pre ++ [p], q.small 1024) := by
            intro q hq
            rcases List.mem_append.1 hq with h | h
            · exact HS.out q h
            · simp at h; subst h; exact ⟨by have := hsm.1; omega, hsm.2⟩
          have hgk : s.size ≤ k + n + g := by omega
          clear hg1 hg2 hdl hrd hsm HX HXS hne HS HR
          rw [show readAns (some (p, n)) = .tuple #[.agg #[.int .i64 p.k, .string p.t, .int .u64 p.n], .int .i64 n] from rfl]
          go_wp2_with (at_builtin; refine append_part _ rfl (.tmp 24) (.tmp 26) rfl w.heap.size _ pre rfl [p] _ 1 1 _ rfl rfl rfl (by simp) (ho1.alloc _) (by omega) (by simp; omega) ?_)
          intro v2 w2 ho2 hg2
          have hb3 := hb2.trans (ho1.toBelow (by omega) hg2.ofAlloc)
          clear ho1 hg2
          go_wp2
          go_roundw
          case rel => exact ⟨k + n, g, pre ++ [p], by omega, by go_num, ho2, by simp; omega, hgk, HR2, HS2, hb3⟩
          case measure => simp [intOf]; omega
      · have HD : Hid (dec s.data.toList = some pre) := by
          show _ = _
          rw [← HR.out, List.drop_eq_nil_of_le (by rw [HL.out]; omega), decF_empty]; simp
        go_wp2
        go_ret2
        rw [HA.out, HD.out]
        exact ⟨_, rfl, ho, hb, HS.out⟩
end Go.Proofs.Ytehbclliiphglab
