/- The walk of the document's Encode. -/
import Derived.Test.YtjbnbpclelbohaaKRPiece
import Derived.Test.YtjbnbpclelbohaaKWrite
namespace Go.Proofs.Ytjbnbpclelbohaa
open Go.RowKit
set_option linter.unusedVariables false

theorem piece_pos (p : Pt) (op : Bool) : 0 < (piece p op).length := by
  unfold piece
  split
  · simp
  · split <;> simp

theorem Own.some {w : World} {B : Nat} {v : Value} {l : List UInt8} (h : Own w B v l) (hp : 0 < l.length) : ∃ g cap, v = .slice (some ⟨g, 0, none⟩) l.length cap ∧ B ≤ g ∧ ∀ j u, (bs l)[j]? = some u → w.cell? ((⟨g, 0, none⟩ : Addr).add j) = some u := by
  rcases h.2 with ⟨rfl, h0⟩ | ⟨g, cap, cur, rfl, hb, _⟩
  · omega
  · exact ⟨g, cap, rfl, hb, World.ownsRow.cells h (g := g) rfl⟩

set_option maxRecDepth 100000 in
set_option maxHeartbeats 1000000 in
theorem rencode_calls (ao : Option Addr) (cap : Nat) (ps : List Pt) (op : Bool) (w : World) (hl : ps.length ≤ 4398046511104) (hp : PartsAt w ao ps) (hsum : (enc op ps).length ≤ 70368744177664) (hts : ∀ p ∈ ps, p.t.size ≤ 70368744177000) :
    Calls Try.prog 40 #[.slice ao ps.length cap, .bool op] w fun e w' => e = .returned (.tuple #[.string ⟨(encAns op ps).1.toArray⟩, .int .i64 (encAns op ps).2]) ∧ Below w.heap.size w w' := by
  go_enter Try.func40, Try.ntmps40
  go_wp2_with fail
  refine (rallValid_calls ao cap ps w hl hp).mono ?_
  rintro e w1 ⟨rfl, hb1⟩
  have hp1 := hp.below hb1
  cases hall : ps.all vldB with
  | false =>
    have HA : Hid (encAns op ps = ([], 10)) := by unfold encAns; rw [hall]; rfl
    go_wp2
    go_ret2
    rw [HA.out]
    exact ⟨rfl, hb1⟩
  | true =>
    have HA : Hid (encAns op ps = if (enc op ps).length ≤ 1024 then (enc op ps, 0) else ([], 11)) := by unfold encAns; rw [hall]; rfl
    have HV : Hid (∀ i (h : i < ps.length), vldB ps[i] = true) := fun i h => (List.all_eq_true.1 hall) _ (List.getElem_mem h)
    have HT : Hid (∀ i (h : i < ps.length), ps[i].t.size ≤ 70368744177000) := fun i h => hts _ (List.getElem_mem h)
    have HS : Hid ((enc op ps).length ≤ 70368744177664) := hsum
    clear hall hp hts hsum
    go_wp2_with fail
    go_loopw [6, 7] (fun x i wr => ∃ (k : Nat) (pre : List UInt8), k ≤ ps.length ∧ i = .int .i64 k ∧ Own wr w1.heap.size x pre ∧ Hid (pre ++ enc op (ps.drop k) = enc op ps) ∧ Below w1.heap.size w1 wr) (fun _ i _ => ps.length - (intOf i).toNat)
    case atStart =>
      refine ⟨0, [], Nat.zero_le _, rfl, ?_, rfl, (Below.refl _ _).alloc (Nat.le_refl _) _⟩
      have := own_lit w1 w1.heap.size [] (Nat.le_refl _) (by unfold maxLen; simp)
      simpa [bs] using this
    case round =>
      obtain ⟨k, pre, hk, rfl, ho, HP, hb⟩ := hrel
      have hs := hb.size
      have hprl : pre.length ≤ 70368744177664 := by
        have := HS.out; rw [← HP.out] at this; simp only [List.length_append] at this; omega
      obtain ⟨ao', cap', hsh⟩ := ho.shape
      subst hsh
      by_cases hlt : k < ps.length
      · obtain ⟨b, off, rfl, h0, h1, h2, hwf⟩ := (hp1.below hb) k ps[k] (by simp [hlt])
        have HVk : Hid (vldB ps[k] = true) := HV.out k hlt
        have htk := HT.out k hlt
        have HE : Hid (enc op (ps.drop k) = piece ps[k] (op && decide (k + 1 = ps.length)) ++ enc op (ps.drop (k + 1))) := enc_drop op ps k hlt
        obtain ⟨hwk, ⟨hn0, hn1⟩, _⟩ := hwf
        obtain ⟨o, hoeq⟩ : ∃ o : Bool, o = (op && decide (k + 1 = ps.length)) := ⟨_, rfl⟩
        rw [← hoeq] at HE
        cases op with
        | false =>
          simp only [Bool.false_and] at hoeq
          subst hoeq
          go_wp2_with fail
          refine (rpiece_calls ps[k].k ps[k].n ps[k].t false _ (by omega) HVk.out hn0 hn1).mono ?_
          rintro e w2 ⟨v2, rfl, ho2, hb2⟩
          have hb3 : Below w1.heap.size w1 w2 := hb.trans (hb2.mono hs)
          have hs2 := hb2.size
          have HP2 : Hid ((pre ++ piece ps[k] false) ++ enc false (ps.drop (k + 1)) = enc false ps) := by
            show _ = _
            rw [List.append_assoc, ← HE.out]; exact HP.out
          have hlen2 : pre.length + (piece ps[k] false).length ≤ 70368744177664 := by
            have := HS.out; rw [← HP2.out] at this; simp only [List.length_append] at this; omega
          replace ho2 : Own w2 wr.heap.size v2 (piece ps[k] false) := ho2
          have hpos := piece_pos ps[k] false
          have ho3 := ho.below hb2
          clear h0 h1 h2 ho HE HP hb
          obtain ⟨pc, hpc⟩ : ∃ pc, pc = piece ps[k] false := ⟨_, rfl⟩
          rw [← hpc] at ho2 HP2 hlen2 hpos
          clear hpc
          obtain ⟨g, cap2, hv2, hg2, hcs⟩ := ho2.some hpos
          subst hv2
          go_wp2_with (at_builtin; refine append_bytes _ rfl (.tmp 18) (.tmp 31) rfl w1.heap.size _ pre rfl ho3 ⟨g, 0, none⟩ pc.length cap2 pc rfl rfl hcs (by omega) (by omega) ?_)
          intro v4 w4 ho4 hg4
          have hb4 := hb3.trans (ho3.toBelow (by omega) hg4)
          clear ho2 ho3 hcs hg4
          go_wp2
          go_roundw
          case rel => exact ⟨k + 1, pre ++ pc, by omega, by go_num, ho4, HP2, hb4⟩
          case measure => simp [intOf]; omega
        | true =>
          by_cases hlast : k + 1 = ps.length
          · have hd : decide ((ps.length : Int) - 1 ≤ (k : Int)) = true := by simp; omega
            simp only [Bool.true_and, hlast, decide_true] at hoeq
            subst hoeq
            have HL : Hid (k + 1 = ps.length) := hlast
            clear hlast
            go_wp2_with fail
            refine (rpiece_calls ps[k].k ps[k].n ps[k].t true _ (by omega) HVk.out hn0 hn1).mono ?_
            rintro e w2 ⟨v2, rfl, ho2, hb2⟩
            have hb3 : Below w1.heap.size w1 w2 := hb.trans (hb2.mono hs)
            have hs2 := hb2.size
            have HP2 : Hid ((pre ++ piece ps[k] true) ++ enc true (ps.drop (k + 1)) = enc true ps) := by
              show _ = _
              rw [List.append_assoc, ← HE.out]; exact HP.out
            have hlen2 : pre.length + (piece ps[k] true).length ≤ 70368744177664 := by
              have := HS.out; rw [← HP2.out] at this; simp only [List.length_append] at this; omega
            replace ho2 : Own w2 wr.heap.size v2 (piece ps[k] true) := ho2
            have hpos := piece_pos ps[k] true
            have ho3 := ho.below hb2
            clear h0 h1 h2 ho HE HP hb
            obtain ⟨pc, hpc⟩ : ∃ pc, pc = piece ps[k] true := ⟨_, rfl⟩
            rw [← hpc] at ho2 HP2 hlen2 hpos
            clear hpc
            obtain ⟨g, cap2, hv2, hg2, hcs⟩ := ho2.some hpos
            subst hv2
            go_wp2_with (at_builtin; refine append_bytes _ rfl (.tmp 18) (.tmp 31) rfl w1.heap.size _ pre rfl ho3 ⟨g, 0, none⟩ pc.length cap2 pc rfl rfl hcs (by omega) (by omega) ?_)
            intro v4 w4 ho4 hg4
            have hb4 := hb3.trans (ho3.toBelow (by omega) hg4)
            clear ho2 ho3 hcs hg4
            go_wp2
            go_roundw
            case rel => exact ⟨k + 1, pre ++ pc, by omega, by go_num, ho4, HP2, hb4⟩
            case measure => simp [intOf]; omega
          · have hd : decide ((ps.length : Int) - 1 ≤ (k : Int)) = false := by simp; omega
            simp only [Bool.true_and, hlast, decide_false] at hoeq
            subst hoeq
            clear hlast
            go_wp2_with fail
            refine (rpiece_calls ps[k].k ps[k].n ps[k].t false _ (by omega) HVk.out hn0 hn1).mono ?_
            rintro e w2 ⟨v2, rfl, ho2, hb2⟩
            have hb3 : Below w1.heap.size w1 w2 := hb.trans (hb2.mono hs)
            have hs2 := hb2.size
            have HP2 : Hid ((pre ++ piece ps[k] false) ++ enc true (ps.drop (k + 1)) = enc true ps) := by
              show _ = _
              rw [List.append_assoc, ← HE.out]; exact HP.out
            have hlen2 : pre.length + (piece ps[k] false).length ≤ 70368744177664 := by
              have := HS.out; rw [← HP2.out] at this; simp only [List.length_append] at this; omega
            replace ho2 : Own w2 wr.heap.size v2 (piece ps[k] false) := ho2
            have hpos := piece_pos ps[k] false
            have ho3 := ho.below hb2
            clear h0 h1 h2 ho HE HP hb
            obtain ⟨pc, hpc⟩ : ∃ pc, pc = piece ps[k] false := ⟨_, rfl⟩
            rw [← hpc] at ho2 HP2 hlen2 hpos
            clear hpc
            obtain ⟨g, cap2, hv2, hg2, hcs⟩ := ho2.some hpos
            subst hv2
            go_wp2_with (at_builtin; refine append_bytes _ rfl (.tmp 18) (.tmp 31) rfl w1.heap.size _ pre rfl ho3 ⟨g, 0, none⟩ pc.length cap2 pc rfl rfl hcs (by omega) (by omega) ?_)
            intro v4 w4 ho4 hg4
            have hb4 := hb3.trans (ho3.toBelow (by omega) hg4)
            clear ho2 ho3 hcs hg4
            go_wp2
            go_roundw
            case rel => exact ⟨k + 1, pre ++ pc, by omega, by go_num, ho4, HP2, hb4⟩
            case measure => simp [intOf]; omega
      · obtain rfl : k = ps.length := by omega
        have hpe : pre = enc op ps := by have := HP.out; simpa [enc] using this
        subst hpe
        have hstr := ho.string
        have hb2 : Below w.heap.size w wr := hb1.trans (hb.mono hb1.size)
        by_cases hlong : 1024 < (enc op ps).length
        · go_wp2
          go_light
          go_ret2
          rw [HA.out, if_neg (by omega)]
          exact ⟨rfl, hb2⟩
        · go_wp2
          go_light
          go_ret2
          rw [HA.out, if_pos (by omega)]
          exact ⟨rfl, hb2⟩
end Go.Proofs.Ytjbnbpclelbohaa
