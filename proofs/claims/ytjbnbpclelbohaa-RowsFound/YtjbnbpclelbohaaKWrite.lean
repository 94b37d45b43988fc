/- The walk of write, Encode and Begin. -/
import Derived.Test.YtjbnbpclelbohaaKAllValid
import Derived.Laws.IdiomStrings
import Derived.Laws.BytesArg
namespace Go.Proofs.Ytjbnbpclelbohaa
open Go.RowKit
set_option linter.unusedVariables false

/-- The pieces one behind the other; op: the last text is left open. -/
def enc (op : Bool) : List Pt → List UInt8
  | [] => []
  | [p] => piece p op
  | p :: q :: r => piece p false ++ enc op (q :: r)

theorem enc_cons (op : Bool) (p : Pt) (r : List Pt) : enc op (p :: r) = piece p (op && r.isEmpty) ++ enc op r := by
  cases r with
  | nil => simp [enc]
  | cons q r => simp [enc]

theorem enc_drop (op : Bool) (ps : List Pt) (k : Nat) (h : k < ps.length) : enc op (ps.drop k) = piece ps[k] (op && decide (k + 1 = ps.length)) ++ enc op (ps.drop (k + 1)) := by
  rw [List.drop_eq_getElem_cons h, enc_cons]
  congr 3
  rw [Bool.eq_iff_iff]; simp; omega

theorem size_of_nil {t : ByteArray} (h : t.toList = []) : t.size = 0 := by
  have h' : t.data.toList = [] := by rw [← ByteArray.toList_eq]; exact h
  show t.data.size = 0
  rw [← Array.length_toList, h']; rfl

theorem piece_text_le (p : Pt) (op : Bool) (h : vldB p = true) : p.t.size + 1 ≤ (piece p op).length := by
  have h1 := (esc_length p.t.data.toList).1
  have h2 : p.t.data.toList.length = p.t.size := by simp
  rcases vld_cases h with ⟨hk, hn⟩ | ⟨hk, ht⟩ | ⟨hk, ht, hn⟩
  · simp [piece, hk]; omega
  · have := size_of_nil ht
    simp [piece, hk]
    omega
  · have := size_of_nil ht
    simp [piece, hk]
    omega

theorem Own.string {w : World} {B : Nat} {v : Value} {l : List UInt8} (h : Own w B v l) : (convert 77 9 v).run Try.prog w = .ok (.string ⟨l.toArray⟩) w := by
  rcases h.2 with ⟨rfl, h0⟩ | ⟨g, cap, cur, rfl, _, _, _, _, _, _⟩
  · rw [run_convert_bytes_nil w _ _ Try.underlying77 Try.underlying5 0 0 _ Try.underlying9]
    rw [List.length_eq_zero_iff.1 h0]; rfl
  · refine run_convert_bytes_back w _ _ _ _ _ l Try.underlying77 Try.underlying5 Try.underlying9 ?_
    intro j hj
    refine World.ownsRow.cells h (g := g) rfl j _ ?_
    simp [bs, hj]

/-- What Encode (op false) and Begin (op true) answer. -/
def encAns (op : Bool) (ps : List Pt) : List UInt8 × Int :=
  if ps.all vldB then if (enc op ps).length ≤ 1024 then (enc op ps, 0) else ([], 11) else ([], 10)

theorem ret_pair {s s' : ByteArray} {e e' : Int} (h : s = s') (h2 : e = e') : Ending.returned (.tuple #[.string s, .int .i64 e]) = .returned (.tuple #[.string s', .int .i64 e']) := by rw [h, h2]

set_option maxHeartbeats 1000000 in
theorem write_calls (ao : Option Addr) (cap : Nat) (ps : List Pt) (op : Bool) (w : World) (hl : ps.length ≤ 4398046511104) (hp : PartsAt w ao ps) :
    Calls Try.prog 45 #[.slice ao ps.length cap, .bool op] w fun e w' => e = .returned (.tuple #[.string ⟨(encAns op ps).1.toArray⟩, .int .i64 (encAns op ps).2]) ∧ Below w.heap.size w w' := by
  go_enter Try.func45, Try.ntmps45
  go_wp2_with fail
  refine (allValid_calls ao cap ps w hl hp).mono ?_
  rintro e w1 ⟨rfl, hb1⟩
  have hp1 := hp.below hb1
  cases hall : ps.all vldB with
  | false =>
    have HA : Hid (encAns op ps = ([], 10)) := by unfold encAns; rw [hall]; rfl
    go_wp2
    go_ret2
    rw [HA.out]
    exact ⟨rfl, hb1⟩
  | true =>
    have HA : Hid (encAns op ps = if (enc op ps).length ≤ 1024 then (enc op ps, 0) else ([], 11)) := by unfold encAns; rw [hall]; rfl
    have HV : Hid (∀ i (h : i < ps.length), vldB ps[i] = true) := fun i h => (List.all_eq_true.1 hall) _ (List.getElem_mem h)
    clear hall hp
    go_wp2_with fail
    go_loopw [6, 14] (fun x i wr => ∃ (k : Nat) (pre : List UInt8), k ≤ ps.length ∧ i = .int .i64 k ∧ Own wr w1.heap.size x pre ∧ Hid (pre ++ enc op (ps.drop k) = enc op ps) ∧ pre.length ≤ 1024 ∧ Below w1.heap.size w1 wr) (fun _ i _ => ps.length - (intOf i).toNat)
    case atStart => exact ⟨0, [], Nat.zero_le _, rfl, Own.nil _ _, rfl, by simp, Below.refl _ _⟩
    case round =>
      obtain ⟨k, pre, hk, rfl, ho, HP, hpre, hb⟩ := hrel
      have hs := hb.size
      by_cases hlt : k < ps.length
      · obtain ⟨b, off, rfl, h0, h1, h2, hwf⟩ := (hp1.below hb) k ps[k] (by simp [hlt])
        have hv := HV.out k hlt
        have HVk : Hid (vldB ps[k] = true) := hv
        clear hv
        have htl := piece_text_le ps[k] (op && decide (k + 1 = ps.length)) HVk.out
        have HE : Hid (enc op (ps.drop k) = piece ps[k] (op && decide (k + 1 = ps.length)) ++ enc op (ps.drop (k + 1))) := enc_drop op ps k hlt
        obtain ⟨hwk, ⟨hn0, hn1⟩, hts⟩ := hwf
        obtain ⟨ao', cap', hsh⟩ := ho.shape
        subst hsh
        by_cases hlong : 1024 < pre.length + ps[k].t.size
        · have HT : Hid (¬ (enc op ps).length ≤ 1024) := by
            rw [← HP.out, HE.out]; simp only [List.length_append]; show ¬ _; omega
          clear htl
          go_wp2
          go_light
          go_ret2
          rw [HA.out, if_neg HT.out]
          exact ⟨rfl, hb1.trans ((hb.alloc hs _).mono hb1.size)⟩
        · obtain ⟨o, hoeq⟩ : ∃ o : Bool, o = (op && decide (k + 1 = ps.length)) := ⟨_, rfl⟩
          have hdd : Hid (((k : Int) == (ps.length : Int) - 1) = decide (k + 1 = ps.length)) := by
            show _ = _
            rw [Bool.eq_iff_iff]; simp; omega
          rw [← hoeq] at HE
          clear htl
          cases op with
          | false =>
            simp only [Bool.false_and] at hoeq
            subst hoeq
            go_wp2_with fail
            refine (appendPiece_calls w1.heap.size _ pre ps[k].k ps[k].n ps[k].t false _ (ho.alloc _) (by simp; omega) (by omega) HVk.out hn0 hn1).mono ?_
            rintro e w2 ⟨v2, rfl, ho2, hg2⟩
            have hb2 : Below w1.heap.size w1 w2 := hb.trans (ho.toBelow hs hg2.ofAlloc)
            have HP2 : Hid ((pre ++ piece ps[k] false) ++ enc false (ps.drop (k + 1)) = enc false ps) := by
              show _ = _
              rw [List.append_assoc, ← HE.out]; exact HP.out
            clear h0 h1 h2 hg2 ho HE HP
            replace ho2 : Own w2 w1.heap.size v2 (pre ++ piece ps[k] false) := ho2
            obtain ⟨pre2, hpre2⟩ : ∃ pre2, pre2 = pre ++ piece ps[k] false := ⟨_, rfl⟩
            rw [← hpre2] at ho2 HP2
            clear hpre2
            obtain ⟨ao2, cap2, hsh⟩ := ho2.shape
            subst hsh
            by_cases hl2 : 1024 < pre2.length
            · have HT : Hid (¬ (enc false ps).length ≤ 1024) := by
                rw [← HP2.out]; simp only [List.length_append]; show ¬ _; omega
              go_wp2
              go_light
              go_ret2
              rw [HA.out, if_neg HT.out]
              exact ⟨rfl, hb1.trans (hb2.mono hb1.size)⟩
            · go_wp2
              go_roundw
              case rel => exact ⟨k + 1, pre2, by omega, by go_num, ho2, HP2, by omega, hb2⟩
              case measure => simp [intOf]; omega
          | true =>
            by_cases hlast : k + 1 = ps.length
            · have hd : ((k : Int) == (ps.length : Int) - 1) = true := by rw [hdd.out]; simpa using hlast
              simp only [Bool.true_and, hlast, decide_true] at hoeq
              subst hoeq
              have HL : Hid (k + 1 = ps.length) := hlast
              clear hlast
              go_wp2_with fail
              refine (appendPiece_calls w1.heap.size _ pre ps[k].k ps[k].n ps[k].t true _ (ho.alloc _) (by simp; omega) (by omega) HVk.out hn0 hn1).mono ?_
              rintro e w2 ⟨v2, rfl, ho2, hg2⟩
              have hb2 : Below w1.heap.size w1 w2 := hb.trans (ho.toBelow hs hg2.ofAlloc)
              have HP2 : Hid ((pre ++ piece ps[k] true) ++ enc true (ps.drop (k + 1)) = enc true ps) := by
                show _ = _
                rw [List.append_assoc, ← HE.out]; exact HP.out
              clear h0 h1 h2 hg2 ho HE HP
              replace ho2 : Own w2 w1.heap.size v2 (pre ++ piece ps[k] true) := ho2
              obtain ⟨pre2, hpre2⟩ : ∃ pre2, pre2 = pre ++ piece ps[k] true := ⟨_, rfl⟩
              rw [← hpre2] at ho2 HP2
              clear hpre2
              obtain ⟨ao2, cap2, hsh⟩ := ho2.shape
              subst hsh
              by_cases hl2 : 1024 < pre2.length
              · have HT : Hid (¬ (enc true ps).length ≤ 1024) := by
                  rw [← HP2.out]; simp only [List.length_append]; show ¬ _; omega
                go_wp2
                go_light
                go_ret2
                rw [HA.out, if_neg HT.out]
                exact ⟨rfl, hb1.trans (hb2.mono hb1.size)⟩
              · go_wp2
                go_roundw
                case rel => exact ⟨k + 1, pre2, by omega, by go_num, ho2, HP2, by omega, hb2⟩
                case measure => simp [intOf]; omega
            · have hd : ((k : Int) == (ps.length : Int) - 1) = false := by rw [hdd.out]; simpa using hlast
              simp only [Bool.true_and, hlast, decide_false] at hoeq
              subst hoeq
              clear hlast
              go_wp2_with fail
              refine (appendPiece_calls w1.heap.size _ pre ps[k].k ps[k].n ps[k].t false _ (ho.alloc _) (by simp; omega) (by omega) HVk.out hn0 hn1).mono ?_
              rintro e w2 ⟨v2, rfl, ho2, hg2⟩
              have hb2 : Below w1.heap.size w1 w2 := hb.trans (ho.toBelow hs hg2.ofAlloc)
              have HP2 : Hid ((pre ++ piece ps[k] false) ++ enc true (ps.drop (k + 1)) = enc true ps) := by
                show _ = _
                rw [List.append_assoc, ← HE.out]; exact HP.out
              clear h0 h1 h2 hg2 ho HE HP
              replace ho2 : Own w2 w1.heap.size v2 (pre ++ piece ps[k] false) := ho2
              obtain ⟨pre2, hpre2⟩ : ∃ pre2, pre2 = pre ++ piece ps[k] false := ⟨_, rfl⟩
              rw [← hpre2] at ho2 HP2
              clear hpre2
              obtain ⟨ao2, cap2, hsh⟩ := ho2.shape
              subst hsh
              by_cases hl2 : 1024 < pre2.length
              · have HT : Hid (¬ (enc true ps).length ≤ 1024) := by
                  rw [← HP2.out]; simp only [List.length_append]; show ¬ _; omega
                go_wp2
                go_light
                go_ret2
                rw [HA.out, if_neg HT.out]
                exact ⟨rfl, hb1.trans (hb2.mono hb1.size)⟩
              · go_wp2
                go_roundw
                case rel => exact ⟨k + 1, pre2, by omega, by go_num, ho2, HP2, by omega, hb2⟩
                case measure => simp [intOf]; omega
      · obtain rfl : k = ps.length := by omega
        have hpe : pre = enc op ps := by have := HP.out; simpa [enc] using this
        have hstr := ho.string
        go_wp2
        go_ret2
        rw [HA.out, if_pos (by rw [← hpe]; exact hpre)]
        exact ⟨rfl, hb1.trans (hb.mono hb1.size)⟩
end Go.Proofs.Ytjbnbpclelbohaa
