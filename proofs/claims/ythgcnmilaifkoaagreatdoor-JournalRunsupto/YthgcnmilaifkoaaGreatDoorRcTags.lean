import Derived.Test.YthgcnmilaifkoaaGreatDoorRcLabel
import Derived.Test.YthgcnmilaifkoaaGreatDoorKLaw
import Derived.Deep.QuietTactic
import Derived.BigQuiet
import Derived.Test.YthgcnmilaifkoaaGreatDoorRwPut
/- Layer 9 (records): the document's Label. -/
namespace Go.Proofs.YthgcnmilaifkoaaGreatDoor
open Go.RowKit
set_option linter.unusedVariables false

/-- The test of the document's Label, as the walk meets it. -/
def refOk (n k : Nat) (b : UInt8) : Bool := (decide (97 ≤ b.toNat ∧ b.toNat ≤ 122 ∨ 48 ≤ b.toNat ∧ b.toNat ≤ 57)) || (b == 45 && k != 0 && k + 1 != n)
theorem refOk_low (n k : Nat) (b : UInt8) : refOk n k (lowB b) = okAt n k b := by
 rw [← okAt_low]
 have h := lowB_toNat b
 unfold refOk okAt alB dgB
 congr 1
 rw [Bool.eq_iff_iff]
 simp only [Bool.or_eq_true, decide_eq_true_eq]
 constructor
 ·intro h; omega
 ·intro h2
  split at h <;> omega
theorem ref_let {n k : Nat} {b : UInt8} (h : 97 ≤ b.toNat ∧ b.toNat ≤ 122 ∨ 48 ≤ b.toNat ∧ b.toNat ≤ 57) : refOk n k b = true := by
 unfold refOk
 rw [decide_eq_true h]
 rfl
theorem ref_not {n k : Nat} {b : UInt8} (h : ¬ (97 ≤ b.toNat ∧ b.toNat ≤ 122 ∨ 48 ≤ b.toNat ∧ b.toNat ≤ 57)) (h2 : ¬ b = 45 ∨ k = 0 ∨ k + 1 = n) : refOk n k b = false := by
 unfold refOk
 rw [decide_eq_false h]
 rcases h2 with h2 | h2 | h2 <;> simp [h2]
theorem ref_hy {n k : Nat} {b : UInt8} (h : b = 45) (h0 : ¬ k = 0) (h1 : ¬ k + 1 = n) : refOk n k b = true := by
 unfold refOk
 simp [h, h0, h1]
theorem u8_ne45 {b : UInt8} (h : ¬ b = 45) : ¬ (b.toNat : Int) = 45 := fun e => h (UInt8.toNat_inj.1 (Int.ofNat.inj e))
theorem labTo_next {l : ByteArray} {k : Nat} (h : labTo l k) (hk : k < l.size) (hv : okAt l.size k l[k] = true) : labTo l (k + 1) := fun i hi hik => by
 rcases Nat.lt_or_ge i k with h' | h'
 ·exact h i hi h'
 ·obtain rfl : i = k := by omega
  exact hv
set_option maxRecDepth 100000 in
set_option maxHeartbeats 4000000 in
theorem refLabel_calls (s : ByteArray) (w : World) (hs : s.size ≤ 140737488351296) : Calls Tryz.prog 29 #[.string s] w fun e w' => e = .returned (.tuple #[.string (labT s), .int .i64 (labE s)]) ∧ Below w.heap.size w w' := by
 obtain ⟨l, Hl⟩ : ∃ l, Hid (l = lowS s) := ⟨_, rfl⟩
 have hls : l.size = s.size := by rw [Hl.out, lowS_size]
 have hls2 : l.size ≤ 140737488351296 := by omega
 have HT : Hid (labT l = labT s ∧ labE l = labE s) := by rw [Hl.out]; exact ⟨labT_low s, labE_low s⟩
 have HLow : Hid (∀ k (hk : k < l.size), refOk l.size k l[k] = okAt l.size k l[k]) := by
  rw [Hid]
  intro k hk
  have hk' : k < s.size := by omega
  have e : l[k] = lowB s[k] := by
   have := lowS_at s k hk' (by rw [lowS_size]; exact hk')
   rw [← this]
   congr 1
  rw [e, okAt_low, refOk_low]
 have HLL : Hid (lowS l = l) := by rw [Hl.out]; exact lowS_low s
 have HC : Hid (Calls Tryz.prog 43 #[.string s] w fun e w' => e = .returned (.string l) ∧ Below w.heap.size w w') := by rw [Hl.out]; exact refLow_calls s w hs
 clear hls Hl
 go_enter Tryz.func29, Tryz.ntmps29
 go_wp2_with fail
 refine HC.out.mono ?_
 rintro e w1 ⟨rfl, hb1⟩
 have HB : Hid (Below w.heap.size w w1) := hb1
 clear hb1 HC
 by_cases h0 : l.size = 0
 ·have HN : Hid (labT l = ⟨#[]⟩ ∧ labE l = 90) := lab_no (lab_empty h0)
  have q : ((l.size : Int) == 0) = true := by simp [h0]
  clear h0
  go_wp2
  go_ret2
  exact ⟨ret_pairS (HT.out.1.symm.trans HN.out.1).symm (HT.out.2.symm.trans HN.out.2).symm, HB.out⟩
 have q0 : ((l.size : Int) == 0) = false := by rw [beq_eq_false_iff_ne]; omega
 by_cases hl : l.size ≤ 63
 case neg =>
  have HN : Hid (labT l = ⟨#[]⟩ ∧ labE l = 90) := lab_no (lab_long hl)
  have hl' : (63 : Int) < (l.size : Int) := by omega
  go_wp2
  go_ret2
  exact ⟨ret_pairS (HT.out.1.symm.trans HN.out.1).symm (HT.out.2.symm.trans HN.out.2).symm, HB.out⟩
 have hl' : ¬ (63 : Int) < (l.size : Int) := by omega
 go_wp2
 go_loop [5] (fun x => ∃ k : Nat, k ≤ l.size ∧ x = .int .i64 k ∧ Hid (labTo l k)) (fun x => l.size - (intOf x).toNat)
 case atStart => exact ⟨0, Nat.zero_le _, rfl, fun i h h' => by omega⟩
 case round =>
  obtain ⟨k, hk, rfl, HK⟩ := hrel
  by_cases hlt : k < l.size
  ·have hby : (l[k].toNat : Int) ≤ 255 := by have := l[k].toNat_lt; omega
   have HE := HLow.out k hlt
   by_cases h97 : 97 ≤ l[k].toNat
   ·have q1 : (97 : Int) ≤ (l[k].toNat : Int) := by omega
    by_cases h122 : l[k].toNat ≤ 122
    ·have q2 : (l[k].toNat : Int) ≤ 122 := by omega
     have HN : Hid (labTo l (k + 1)) := labTo_next HK.out hlt (by rw [← HE]; exact ref_let (.inl ⟨h97, h122⟩))
     clear HE
     go_wp2
     go_round
     case rel => exact ⟨k + 1, by omega, by go_num, HN⟩
     case measure => simp [intOf]; omega
    ·have q2 : ¬ (l[k].toNat : Int) ≤ 122 := by omega
     have q3 : (48 : Int) ≤ (l[k].toNat : Int) := by omega
     have q4 : ¬ (l[k].toNat : Int) ≤ 57 := by omega
     have hy : ¬ l[k] = 45 := fun e => by rw [e] at h97; exact absurd h97 (by decide)
     have q5 : ¬ (l[k].toNat : Int) = 45 := u8_ne45 hy
     have q6 : ((l[k].toNat : Int) != 45) = true := u8_bne hy
     have HN : Hid (labT l = ⟨#[]⟩ ∧ labE l = 90) := lab_no (lab_bad hlt (by rw [← HE]; exact ref_not (by omega) (.inl hy)))
     clear HE
     go_wp2
     go_ret2
     exact ⟨ret_pairS (HT.out.1.symm.trans HN.out.1).symm (HT.out.2.symm.trans HN.out.2).symm, HB.out⟩
   ·have q1 : ¬ (97 : Int) ≤ (l[k].toNat : Int) := by omega
    by_cases h48 : 48 ≤ l[k].toNat
    ·have q3 : (48 : Int) ≤ (l[k].toNat : Int) := by omega
     have hy : ¬ l[k] = 45 := fun e => by rw [e] at h48; exact absurd h48 (by decide)
     by_cases h57 : l[k].toNat ≤ 57
     ·have q4 : (l[k].toNat : Int) ≤ 57 := by omega
      have HN : Hid (labTo l (k + 1)) := labTo_next HK.out hlt (by rw [← HE]; exact ref_let (.inr ⟨h48, h57⟩))
      clear HE
      go_wp2
      go_round
      case rel => exact ⟨k + 1, by omega, by go_num, HN⟩
      case measure => simp [intOf]; omega
     ·have q4 : ¬ (l[k].toNat : Int) ≤ 57 := by omega
      have q5 : ¬ (l[k].toNat : Int) = 45 := u8_ne45 hy
      have q6 : ((l[k].toNat : Int) != 45) = true := u8_bne hy
      have HN : Hid (labT l = ⟨#[]⟩ ∧ labE l = 90) := lab_no (lab_bad hlt (by rw [← HE]; exact ref_not (by omega) (.inl hy)))
      clear HE
      go_wp2
      go_ret2
      exact ⟨ret_pairS (HT.out.1.symm.trans HN.out.1).symm (HT.out.2.symm.trans HN.out.2).symm, HB.out⟩
    ·have q3 : ¬ (48 : Int) ≤ (l[k].toNat : Int) := by omega
     by_cases hy : l[k] = 45
     ·have q5 : (l[k].toNat : Int) = 45 := by rw [hy]; rfl
      by_cases hk0 : k = 0
      ·have q7 : ((k : Int) == 0) = true := by simp [hk0]
       have HN : Hid (labT l = ⟨#[]⟩ ∧ labE l = 90) := lab_no (lab_bad hlt (by rw [← HE]; exact ref_not (by omega) (.inr (.inl hk0))))
       clear HE hk0 hy
       go_wp2
       go_ret2
       exact ⟨ret_pairS (HT.out.1.symm.trans HN.out.1).symm (HT.out.2.symm.trans HN.out.2).symm, HB.out⟩
      ·have q7 : ((k : Int) == 0) = false := by rw [beq_eq_false_iff_ne]; omega
       by_cases hkl : k + 1 = l.size
       ·have q8 : ((k : Int) == (l.size : Int) - 1) = true := by rw [beq_iff_eq]; omega
        have HN : Hid (labT l = ⟨#[]⟩ ∧ labE l = 90) := lab_no (lab_bad hlt (by rw [← HE]; exact ref_not (by omega) (.inr (.inr hkl))))
        clear HE hk0 hy hkl
        go_wp2
        go_ret2
        exact ⟨ret_pairS (HT.out.1.symm.trans HN.out.1).symm (HT.out.2.symm.trans HN.out.2).symm, HB.out⟩
       ·have q8 : ((k : Int) == (l.size : Int) - 1) = false := by rw [beq_eq_false_iff_ne]; omega
        have HN : Hid (labTo l (k + 1)) := labTo_next HK.out hlt (by rw [← HE]; exact ref_hy hy hk0 hkl)
        clear HE hk0 hy hkl
        go_wp2
        go_round
        case rel => exact ⟨k + 1, by omega, by go_num, HN⟩
        case measure => simp [intOf]; omega
     ·have q5 : ¬ (l[k].toNat : Int) = 45 := u8_ne45 hy
      have q6 : ((l[k].toNat : Int) != 45) = true := u8_bne hy
      have HN : Hid (labT l = ⟨#[]⟩ ∧ labE l = 90) := lab_no (lab_bad hlt (by rw [← HE]; exact ref_not (by omega) (.inl hy)))
      clear HE
      go_wp2
      go_ret2
      exact ⟨ret_pairS (HT.out.1.symm.trans HN.out.1).symm (HT.out.2.symm.trans HN.out.2).symm, HB.out⟩
  ·obtain rfl : k = l.size := by omega
   have HN : Hid (labT l = lowS l ∧ labE l = 0) := lab_yes (lab_good (by omega) hl HK.out)
   rw [HLL.out] at HN
   go_wp2
   go_ret2
   exact ⟨ret_pairS (HT.out.1.symm.trans HN.out.1).symm (HT.out.2.symm.trans HN.out.2).symm, HB.out⟩
end Go.Proofs.YthgcnmilaifkoaaGreatDoor

/- The walk of the document's Less. -/
namespace Go.Proofs.YthgcnmilaifkoaaGreatDoor
open Go.RowKit
set_option linter.unusedVariables false

theorem less_nil (b : ByteArray) (a : List UInt8) (k : Nat) (h : k < b.size) (ha : a = []) : Op.bytesLess a (b.data.toList.drop k) = true := by
 subst ha
 rw [List.drop_eq_getElem_cons (by simpa using h)]; rfl
theorem less_end (b : ByteArray) (a : List UInt8) (k : Nat) (h : ¬ k < b.size) : Op.bytesLess a (b.data.toList.drop k) = false := by
 rw [List.drop_eq_nil_of_le (by simp; omega)]; cases a <;> rfl
theorem less_step (a b : ByteArray) (k : Nat) (ha : k < a.size) (hb : k < b.size) : Op.bytesLess (a.data.toList.drop k) (b.data.toList.drop k) = (decide (a[k].toNat < b[k].toNat) || (decide (a[k].toNat = b[k].toNat) && Op.bytesLess (a.data.toList.drop (k + 1)) (b.data.toList.drop (k + 1)))) := by
 rw [List.drop_eq_getElem_cons (l := a.data.toList) (by simpa using ha), List.drop_eq_getElem_cons (l := b.data.toList) (by simpa using hb)]
 rw [Op.bytesLess]
 have e1 : (a.data.toList[k]'(by simpa using ha) < b.data.toList[k]'(by simpa using hb)) ↔ a[k].toNat < b[k].toNat := UInt8.lt_iff_toNat_lt
 have e2 : (a.data.toList[k]'(by simpa using ha) == b.data.toList[k]'(by simpa using hb)) = decide (a[k].toNat = b[k].toNat) := by
  rw [Bool.eq_iff_iff, beq_iff_eq, decide_eq_true_iff]
  exact UInt8.toNat_inj.symm
 rw [e2]
 congr 1

set_option maxHeartbeats 1000000 in
theorem less_calls (a b : ByteArray) (w : World) (ha : a.size ≤ 140737488351232) (hb : b.size ≤ 140737488351232) :
  Calls Tryz.prog 60 #[.string a, .string b] w fun e w' => e = .returned (.bool (Op.bytesLess a.toList b.toList)) ∧ ∃ n, w' = w.drewN n := by
 have HL : Hid (Op.bytesLess a.toList b.toList = Op.bytesLess a.data.toList b.data.toList) := by
  show _ = _
  rw [ByteArray.toList_eq, ByteArray.toList_eq]
 go_enter Tryz.func60, Tryz.ntmps60
 go_wp2
 go_loopw [5] (fun i wr => ∃ k n : Nat, k ≤ b.size ∧ i = .int .i64 k ∧ Hid (Op.bytesLess (a.data.toList.drop k) (b.data.toList.drop k) = Op.bytesLess a.data.toList b.data.toList) ∧ wr = w.drewN n) (fun i _ => b.size - (intOf i).toNat)
 case atStart => exact ⟨0, 0, Nat.zero_le _, rfl, rfl, rfl⟩
 case round =>
  obtain ⟨k, n, hk, rfl, HC, rfl⟩ := hrel
  by_cases hlt : k < b.size
  ·by_cases hla : k < a.size
   ·have hd : decide ((a.size : Int) ≤ (k : Int)) = false := by simp; omega
    have hi1 : (0 : Int) ≤ (k : Int) ∧ (k : Int) < (a.size : Int) := by omega
    have hi2 : (0 : Int) ≤ (k : Int) ∧ (k : Int) < (b.size : Int) := by omega
    have HS : Hid (Op.bytesLess (a.data.toList.drop k) (b.data.toList.drop k) = (decide (a[k].toNat < b[k].toNat) || (decide (a[k].toNat = b[k].toNat) && Op.bytesLess (a.data.toList.drop (k + 1)) (b.data.toList.drop (k + 1))))) := less_step a b k hla hlt
    go_wp2
    go_quiet (fail)
    by_cases h1 : a[k].toNat < b[k].toNat
    ·have h1i : (a[k].toNat : Int) < (b[k].toNat : Int) := by omega
     have HT : Hid (Op.bytesLess a.data.toList b.data.toList = true) := by
      show _ = _
      rw [← HC.out, HS.out]; simp [h1]
     go_wp2
     go_ret
     exact ⟨ret_bool (HL.out.trans HT.out).symm, _, by first | rfl | exact World.drewN_drewN _ _ _⟩
    ·have h1i : ¬ (a[k].toNat : Int) < (b[k].toNat : Int) := by omega
     go_wp2
     go_quiet (fail)
     by_cases h2 : b[k].toNat < a[k].toNat
     ·have h2i : (b[k].toNat : Int) < (a[k].toNat : Int) := by omega
      have HT : Hid (Op.bytesLess a.data.toList b.data.toList = false) := by
       show _ = _
       rw [← HC.out, HS.out]; simp [h1]; intro h; omega
      go_wp2
      go_ret
      exact ⟨ret_bool (HL.out.trans HT.out).symm, _, by first | rfl | exact World.drewN_drewN _ _ _⟩
     ·have h2i : ¬ (b[k].toNat : Int) < (a[k].toNat : Int) := by omega
      have HC2 : Hid (Op.bytesLess (a.data.toList.drop (k + 1)) (b.data.toList.drop (k + 1)) = Op.bytesLess a.data.toList b.data.toList) := by
       show _ = _
       rw [← HC.out, HS.out]; simp [show a[k].toNat = b[k].toNat by omega]
      go_wp2
      go_roundw
      case rel => exact ⟨k + 1, _, by omega, by go_num, HC2, rfl⟩
      case measure => simp [intOf]; omega
   ·have hd : decide ((a.size : Int) ≤ (k : Int)) = true := by simp; omega
    have HT : Hid (Op.bytesLess a.data.toList b.data.toList = true) := by
     show _ = _
     rw [← HC.out]; exact less_nil b _ k hlt (List.drop_eq_nil_of_le (by simp; omega))
    go_wp2
    go_quiet (fail)
    go_wp2
    go_ret
    exact ⟨ret_bool (HL.out.trans HT.out).symm, _, by first | rfl | exact World.drewN_drewN _ _ _⟩
  ·have HT : Hid (Op.bytesLess a.data.toList b.data.toList = false) := by
    show _ = _
    rw [← HC.out]; exact less_end b _ k hlt
   go_wp2
   go_ret
   exact ⟨ret_bool (HL.out.trans HT.out).symm, n, rfl⟩
end Go.Proofs.YthgcnmilaifkoaaGreatDoor

/- Layer 9 (records): the document's Tags. -/
namespace Go.Proofs.YthgcnmilaifkoaaGreatDoor
open Go.RowKit
set_option linter.unusedVariables false
attribute [local go_sem] Oper.semAt_some

def KeysO (w : World) (B : Nat) (v : Value) (ks : List (List UInt8)) : Prop := w.ownsRow B 9 1 v ks.length (ks.map encS)
theorem keyso_push {w : World} {B : Nat} {v : Value} {out : List Bs} {k : Bs} (h : w.ownsRow B 9 1 v (out.length + 1) (out.map encS ++ [.string ⟨k.toArray⟩])) : KeysO w B v (out ++ [k]) := by
 unfold KeysO
 rw [List.length_append, List.map_append]
 exact h
theorem less_bt (x k : Bs) : Op.bytesLess (⟨x.toArray⟩ : ByteArray).toList (⟨k.toArray⟩ : ByteArray).toList = decide (x < k) := by
 rw [ByteArray.toList_eq, ByteArray.toList_eq]
 exact bytesLess_eq x k
theorem beq_bt (x k : Bs) : ((⟨x.toArray⟩ : ByteArray).toList == (⟨k.toArray⟩ : ByteArray).toList) = decide (x = k) := by
 rw [ByteArray.toList_eq, ByteArray.toList_eq]
 by_cases h : x = k
 ·subst h; simp
 ·simp [h]
theorem putR_step (k x : Bs) (pl : Bool) (l : List Bs) : putR k pl (x :: l) = (if !pl && !decide (x < k) then [k] else []) ++ ((if x = k then [] else [x]) ++ putR k (pl || !decide (x < k)) l) := rfl
theorem putAll_le (ks : List Bs) : (putAll ks).length ≤ ks.length := by
 rw [← compact_putAll]
 exact Nat.le_trans (compact_le _) (by rw [List.length_mergeSort]; exact Nat.le_refl _)
/-- What the first j tags have made. -/
structure TrI (w : World) (l : List ByteArray) (j : Nat) (v : Value) (ks : List Bs) (wr : World) : Prop where
 eq : ks = putAll ((l.take j).map lowL)
 own : KeysO wr w.heap.size v ks
 below : Below w.heap.size w wr
 good : ∀ i (h : i < l.length), i < j → labB l[i] = true
theorem TrI.len {w : World} {l : List ByteArray} {j : Nat} {v : Value} {ks : List Bs} {wr : World} (h : TrI w l j v ks wr) : ks.length ≤ j := by
 rw [h.eq]
 exact Nat.le_trans (putAll_le _) (by rw [List.length_map, List.length_take]; omega)
theorem TrI.short {w : World} {l : List ByteArray} {j : Nat} {v : Value} {ks : List Bs} {wr : World} (h : TrI w l j v ks wr) : ∀ y ∈ ks, y.length ≤ 63 := fun y hy => by
 rw [h.eq, putAll_mem] at hy
 obtain ⟨x, hx, rfl⟩ := List.mem_map.1 hy
 obtain ⟨i, hi, rfl⟩ := List.getElem_of_mem hx
 rw [List.length_take] at hi
 rw [List.getElem_take]
 have := labB_all (h.good i (by omega) (by omega))
 have h2 : (lowL l[i]).length = l[i].size := by show (lowS l[i]).data.toList.length = _; rw [Array.length_toList]; exact lowS_size _
 rw [h2]
 exact this.2.1
theorem encS_row (ks : List Bs) (w : World) (B : Nat) (a : Option Addr) (c : Nat) (h : KeysO w B (.slice a ks.length c) ks) : CellsAt w a (ks.map encS) := by
 intro hne
 rcases h.2 with ⟨_, h0⟩ | ⟨g, cap, cur, he, hb, hg, h1, h2, h3, h4⟩
 ·exact absurd (by simpa using h0) hne
 ·simp only [Value.slice.injEq] at he
  obtain ⟨rfl, _, _⟩ := he
  refine ⟨g, 0, rfl, fun q u hq => ?_⟩
  have := World.ownsRow.cells h (g := g) rfl q u hq
  rw [Lib.add_plain] at this
  exact this

set_option maxRecDepth 100000 in
set_option maxHeartbeats 4000000 in
theorem refTags_calls (ao : Option Addr) (cap : Nat) (l : List ByteArray) (w : World) (hl : l.length ≤ 8796093022208) (hs : ∀ x ∈ l, x.size ≤ 140737488351296) (hc : CellsAt w ao (l.map Value.string)) :
  Calls Tryz.prog 42 #[.slice ao l.length cap] w fun e w' => TagsA w l e w' := by
 have HC : Hid (CellsAt w ao (l.map Value.string)) := hc
 have HSz : Hid (∀ x ∈ l, x.size ≤ 140737488351296) := hs
 clear hc hs
 by_cases h16 : l.length ≤ 16
 case neg =>
  have q : (16 : Int) < (l.length : Int) := by omega
  have HN : Hid (¬ tagsOk l) := fun h => h16 h.1
  go_enter Tryz.func42, Tryz.ntmps42
  go_wp2
  go_ret2
  exact tags_bad HN.out ((Below.refl _ _).alloc (Nat.le_refl _) _)
 have q : ¬ (16 : Int) < (l.length : Int) := by omega
 obtain ⟨N, Hn⟩ : ∃ N, Hid (N = l.length) := ⟨_, rfl⟩
 rw [← Hn.out] at h16 q hl ⊢
 go_enter Tryz.func42, Tryz.ntmps42
 go_wp2
 go_loopw [4, 19] (fun v i wr => ∃ (j : Nat) (a : Option Addr) (c : Nat) (ks : List Bs), j ≤ N ∧ i = .int .i64 j ∧ v = .slice a ks.length c ∧ Hid (TrI w l j (.slice a ks.length c) ks wr)) (fun _ i _ => N - (intOf i).toNat)
 case atStart => exact ⟨0, _, _, [], Nat.zero_le _, rfl, rfl, ⟨rfl, World.ownsRow_lit (size := 1) w #[] 0 (Nat.le_refl _) (by unfold maxLen; omega) rfl, (Below.refl _ _).alloc (Nat.le_refl _) _, fun i _ h => by omega⟩⟩
 case round =>
  obtain ⟨j, a4, c4, ks, hj, rfl, rfl, HI⟩ := hrel
  obtain ⟨w0, hw0⟩ : ∃ w0, w0 = wr := ⟨_, rfl⟩
  subst hw0
  have hlk := HI.out.len
  by_cases hlt : j < N
  ·have hlt' : j < l.length := by rw [← Hn.out]; exact hlt
   obtain ⟨ab, af, rfl, c0⟩ := (HC.out.below HI.out.below).str j hlt'
   obtain ⟨z, Hz⟩ : ∃ z, Hid (z = l[j]) := ⟨l[j], rfl⟩
   have hzs : z.size ≤ 140737488351296 := by rw [Hz.out]; exact HSz.out _ (List.getElem_mem hlt')
   rw [← Hz.out] at c0
   have hsz0 := HI.out.below.size
   cases hb : labB z with
   | false =>
    have HN : Hid (¬ tagsOk l) := fun h => by have := h.2 l[j] (List.getElem_mem hlt'); rw [← Hz.out, hb] at this; cases this
    have HL : Hid (Calls Tryz.prog 29 #[.string z] w0 fun e w' => e = .returned (.tuple #[.string ⟨#[]⟩, .int .i64 90]) ∧ Below w0.heap.size w0 w') := by
     have := refLabel_calls z w0 hzs
     rw [(lab_no hb).1, (lab_no hb).2] at this
     exact this
    clear hb
    go_wp2_with fail
    refine HL.out.mono ?_
    rintro e w1 ⟨rfl, hb1⟩
    have HB1 : Hid (Below w.heap.size w w1) := HI.out.below.trans (hb1.mono hsz0)
    clear hb1
    go_wp2
    go_ret2
    exact tags_bad HN.out HB1.out
   | true =>
    obtain ⟨k, Hk⟩ : ∃ k, Hid (k = lowL z) := ⟨_, rfl⟩
    have hk : k.length ≤ 63 := by rw [Hk.out]; show (lowS z).data.toList.length ≤ 63; rw [Array.length_toList]; exact Nat.le_trans (Nat.le_of_eq (lowS_size z)) (labB_all hb).2.1
    have HL : Hid (Calls Tryz.prog 29 #[.string z] w0 fun e w' => e = .returned (.tuple #[.string ⟨k.toArray⟩, .int .i64 0]) ∧ Below w0.heap.size w0 w') := by
     have := refLabel_calls z w0 hzs
     rw [(lab_yes hb).1, (lab_yes hb).2] at this
     rw [Hk.out]
     exact this
    have HG : Hid (∀ i (h : i < l.length), i < j + 1 → labB l[i] = true) := fun i hi hij => by
     rcases Nat.lt_or_ge i j with h' | h'
     ·exact HI.out.good i hi h'
     ·obtain rfl : i = j := by omega
      rw [← Hz.out]; exact hb
    have HNx : Hid (putR k false ks = putAll ((l.take (j + 1)).map lowL)) := by
     rw [Hid, List.take_succ_eq_append_getElem hlt', List.map_append, List.map_cons, List.map_nil, putAll_snoc, ← HI.out.eq, ← Hz.out, Hk.out]
    clear hb
    go_wp2_with fail
    refine HL.out.mono ?_
    rintro e wq ⟨rfl, hbq⟩
    have HBq : Hid (Below w.heap.size w wq) := HI.out.below.trans (hbq.mono hsz0)
    have HKq : Hid (KeysO wq w.heap.size (.slice a4 ks.length c4) ks) := row_below HI.out.own hbq
    have HCk : Hid (CellsAt wq a4 (ks.map encS)) := encS_row ks wq _ a4 c4 HKq.out
    have HZ : Hid (∀ x ∈ ks, x.length ≤ 63) := HI.out.short
    have HWq : Hid (w.heap.size ≤ wq.heap.size) := HBq.out.size
    have HFin : Hid (∀ a c w', KeysO w' wq.heap.size (.slice a (putR k false ks).length c) (putR k false ks) → Below wq.heap.size wq w' → TrI w l (j + 1) (.slice a (putR k false ks).length c) (putR k false ks) w') := fun a c w' h1 h2 => ⟨HNx.out, row_weak HWq.out h1, HBq.out.trans (h2.mono HWq.out), HG.out⟩
    clear hbq HL HI c0 HC HSz
    go_wp2
    go_loopw [9, 10, 33] (fun v9 v10 i wr => ∃ (n : Nat) (a5 : Option Addr) (c5 : Nat) (out : List Bs) (pl : Bool), n ≤ ks.length ∧ i = .int .i64 n ∧ v9 = .slice a5 out.length c5 ∧ v10 = .bool pl ∧ out.length ≤ 2 * n ∧ Hid (out ++ putR k pl (ks.drop n) = putR k false ks) ∧ Hid (KeysO wr wq.heap.size (.slice a5 out.length c5) out) ∧ Hid (Below wq.heap.size wq wr)) (fun _ _ i _ => ks.length - (intOf i).toNat)
    case atStart => exact ⟨0, _, _, [], false, Nat.zero_le _, rfl, rfl, rfl, Nat.le_refl _, rfl, World.ownsRow_lit (size := 1) wq #[] 0 (Nat.le_refl _) (by unfold maxLen; omega) rfl, (Below.refl _ _).alloc (Nat.le_refl _) _⟩
    case round =>
     obtain ⟨n, a5, c5, out, pl, hn, rfl, rfl, rfl, hol, HP, HK, HB⟩ := hrel
     by_cases hlt2 : n < ks.length
     ·obtain ⟨b, off, rfl, c0⟩ : ∃ b off, a4 = some ⟨b, off, none⟩ ∧ wr.cell? ⟨b, off + n, none⟩ = some (.string ⟨ks[n].toArray⟩) := by
       obtain ⟨b, off, ha, hc⟩ := (HCk.out.below HB.out) (by intro e; have := congrArg List.length e; rw [List.length_map, List.length_nil] at this; omega)
       exact ⟨b, off, ha, hc _ _ (by simp [hlt2])⟩
      have HX : Hid (ks[n].length ≤ 63) := HZ.out _ (List.getElem_mem hlt2)
      have HS : Hid (out ++ ((if !pl && !decide (ks[n] < k) then [k] else []) ++ ((if ks[n] = k then [] else [ks[n]]) ++ putR k (pl || !decide (ks[n] < k)) (ks.drop (n + 1)))) = putR k false ks) := by
       rw [Hid, ← putR_step, ← List.drop_eq_getElem_cons hlt2]
       exact HP.out
      clear HP
      generalize ks[n] = x at *
      have hB0 : wq.heap.size ≤ wr.heap.size := HB.out.size
      have hbe := beq_bt x k
      cases pl with
      | true =>
       by_cases hxk : x = k
       ·have q1 : ((⟨x.toArray⟩ : ByteArray).toList == (⟨k.toArray⟩ : ByteArray).toList) = true := by rw [hbe]; simpa using hxk
        have q2 : (x == k) = true := by simpa using hxk
        clear hbe
        go_wp2
        go_roundw
        case rel => exact ⟨n + 1, a5, c5, out, true, by omega, by go_num, rfl, rfl, by first | omega | (simp; omega), by rw [Hid, ← HS.out]; simp [hxk], HK, HB⟩
        case measure => simp [intOf]; omega
       ·have q1 : ((⟨x.toArray⟩ : ByteArray).toList == (⟨k.toArray⟩ : ByteArray).toList) = false := by rw [hbe]; simpa using hxk
        have q2 : (x == k) = false := by simpa using hxk
        clear hbe
        have hr6 : wr.ownsRow wq.heap.size 9 1 (.slice a5 out.length c5) out.length (out.map encS) := HK.out
        go_wp2_with (at_builtin; refine append_row _ rfl (.tmp 52) (.tmp 54) _ 9 _ 1 16 Tryz.underlying39 info_str rfl (by decide) rfl wq.heap.size _ out.length _ rfl [.string ⟨x.toArray⟩] rfl (by simp [Value.oneCell']) _ _ rfl rfl rfl hr6 (by omega) (by omega) hB0 ?_)
        intro v6 w6 hq6 hg6
        have HB6 : Hid (Below wq.heap.size wq w6) := HB.out.trans (hg6.toBelow hB0 fun j hj => (World.ownsRow.lt hr6 j hj).1)
        obtain ⟨out6, ho6⟩ : ∃ o, o = out ++ [x] := ⟨_, rfl⟩
        have HO6 : Hid (out6 = out ++ [x]) := ho6
        have hl6 : out6.length = out.length + 1 := by rw [ho6]; simp
        have HK6 : Hid (KeysO w6 wq.heap.size v6 out6) := by rw [ho6]; exact keyso_push hq6
        obtain ⟨a6, c6, rfl, -⟩ := row_forms hq6
        rw [← hl6] at HK6 ⊢
        have hB6 : wq.heap.size ≤ w6.heap.size := HB6.out.size
        have hL6 : out6.length ≤ out.length + 1 := by omega
        clear hq6 hg6 hr6 ho6 hl6
        go_wp2
        go_roundw
        case rel => exact ⟨n + 1, a6, c6, out6, true, by omega, by go_num, rfl, rfl, by first | omega | (simp; omega), by rw [Hid, ← HS.out]; rw [HO6.out]; simp [hxk], HK6, HB6⟩
        case measure => simp [intOf]; omega
      | false =>
       have HLC : Hid (Calls Tryz.prog 60 #[.string ⟨x.toArray⟩, .string ⟨k.toArray⟩] wr fun e w' => e = .returned (.bool (decide (x < k))) ∧ ∃ m, w' = wr.drewN m) := by
        have := less_calls ⟨x.toArray⟩ ⟨k.toArray⟩ wr (Nat.le_trans (by simpa [ByteArray.size] using HX.out) (by decide)) (Nat.le_trans (by simpa [ByteArray.size] using hk) (by decide))
        rw [less_bt] at this
        exact this
       by_cases hlk2 : x < k
       ·have hxk : ¬ x = k := fun e => by subst e; exact List.lt_irrefl _ hlk2
        have hld : decide (x < k) = true := decide_eq_true hlk2
        rw [hld] at HLC HS
        have q1 : ((⟨x.toArray⟩ : ByteArray).toList == (⟨k.toArray⟩ : ByteArray).toList) = false := by rw [hbe]; simpa using hxk
        have q2 : (x == k) = false := by simpa using hxk
        clear hbe hld
        go_wp2_with fail
        refine HLC.out.mono ?_
        clear HLC
        rintro e w7 ⟨rfl, m, hw7⟩
        have HB7 : Hid (Below wq.heap.size wq w7) := by rw [hw7]; exact below_drewN HB.out m
        have HK7 : Hid (KeysO w7 wq.heap.size (.slice a5 out.length c5) out) := by rw [hw7]; exact row_below HK.out (below_drewN (Below.refl _ _) m)
        have hB7 : wq.heap.size ≤ w7.heap.size := HB7.out.size
        clear hw7 HB HK c0 hlk2
        have hr6 : w7.ownsRow wq.heap.size 9 1 (.slice a5 out.length c5) out.length (out.map encS) := HK7.out
        go_wp2_with (at_builtin; refine append_row _ rfl (.tmp 52) (.tmp 54) _ 9 _ 1 16 Tryz.underlying39 info_str rfl (by decide) rfl wq.heap.size _ out.length _ rfl [.string ⟨x.toArray⟩] rfl (by simp [Value.oneCell']) _ _ rfl rfl rfl hr6 (by omega) (by omega) hB7 ?_)
        intro v6 w6 hq6 hg6
        have HB6 : Hid (Below wq.heap.size wq w6) := HB7.out.trans (hg6.toBelow hB7 fun j hj => (World.ownsRow.lt hr6 j hj).1)
        obtain ⟨out6, ho6⟩ : ∃ o, o = out ++ [x] := ⟨_, rfl⟩
        have HO6 : Hid (out6 = out ++ [x]) := ho6
        have hl6 : out6.length = out.length + 1 := by rw [ho6]; simp
        have HK6 : Hid (KeysO w6 wq.heap.size v6 out6) := by rw [ho6]; exact keyso_push hq6
        obtain ⟨a6, c6, rfl, -⟩ := row_forms hq6
        rw [← hl6] at HK6 ⊢
        have hB6 : wq.heap.size ≤ w6.heap.size := HB6.out.size
        have hL6 : out6.length ≤ out.length + 1 := by omega
        clear hq6 hg6 hr6 ho6 hl6
        go_wp2
        go_roundw
        case rel => exact ⟨n + 1, a6, c6, out6, false, by omega, by go_num, rfl, rfl, by first | omega | (simp; omega), by rw [Hid, ← HS.out]; rw [HO6.out]; simp [hxk], HK6, HB6⟩
        case measure => simp [intOf]; omega
       ·have hld : decide (x < k) = false := decide_eq_false hlk2
        rw [hld] at HLC HS
        clear hld
        go_wp2_with fail
        refine HLC.out.mono ?_
        clear HLC
        rintro e w7 ⟨rfl, m, hw7⟩
        have HB7 : Hid (Below wq.heap.size wq w7) := by rw [hw7]; exact below_drewN HB.out m
        have HK7 : Hid (KeysO w7 wq.heap.size (.slice a5 out.length c5) out) := by rw [hw7]; exact row_below HK.out (below_drewN (Below.refl _ _) m)
        have hB7 : wq.heap.size ≤ w7.heap.size := HB7.out.size
        clear hw7 HB HK c0 hlk2
        have hr6 : w7.ownsRow wq.heap.size 9 1 (.slice a5 out.length c5) out.length (out.map encS) := HK7.out
        go_wp2_with (at_builtin; refine append_row _ rfl (.tmp 45) (.tmp 47) _ 9 _ 1 16 Tryz.underlying39 info_str rfl (by decide) rfl wq.heap.size _ out.length _ rfl [.string ⟨k.toArray⟩] rfl (by simp [Value.oneCell']) _ _ rfl rfl rfl hr6 (by omega) (by omega) hB7 ?_)
        intro v6 w6 hq6 hg6
        have HB6 : Hid (Below wq.heap.size wq w6) := HB7.out.trans (hg6.toBelow hB7 fun j hj => (World.ownsRow.lt hr6 j hj).1)
        obtain ⟨out6, ho6⟩ : ∃ o, o = out ++ [k] := ⟨_, rfl⟩
        have HO6 : Hid (out6 = out ++ [k]) := ho6
        have hl6 : out6.length = out.length + 1 := by rw [ho6]; simp
        have HK6 : Hid (KeysO w6 wq.heap.size v6 out6) := by rw [ho6]; exact keyso_push hq6
        obtain ⟨a6, c6, rfl, -⟩ := row_forms hq6
        rw [← hl6] at HK6 ⊢
        have hB6 : wq.heap.size ≤ w6.heap.size := HB6.out.size
        have hL6 : out6.length ≤ out.length + 1 := by omega
        clear hq6 hg6 hr6 ho6 hl6
        by_cases hxk : x = k
        ·have q1 : ((⟨x.toArray⟩ : ByteArray).toList == (⟨k.toArray⟩ : ByteArray).toList) = true := by rw [hbe]; simpa using hxk
         have q2 : (x == k) = true := by simpa using hxk
         clear hbe
         go_wp2
         go_roundw
         case rel => exact ⟨n + 1, a6, c6, out6, true, by omega, by go_num, rfl, rfl, by first | omega | (simp; omega), by rw [Hid, ← HS.out]; rw [HO6.out]; simp [hxk], HK6, HB6⟩
         case measure => simp [intOf]; omega
        ·have q1 : ((⟨x.toArray⟩ : ByteArray).toList == (⟨k.toArray⟩ : ByteArray).toList) = false := by rw [hbe]; simpa using hxk
         have q2 : (x == k) = false := by simpa using hxk
         clear hbe
         have hr8 : w6.ownsRow wq.heap.size 9 1 (.slice a6 out6.length c6) out6.length (out6.map encS) := HK6.out
         go_wp2_with (at_builtin; refine append_row _ rfl (.tmp 52) (.tmp 54) _ 9 _ 1 16 Tryz.underlying39 info_str rfl (by decide) rfl wq.heap.size _ out6.length _ rfl [.string ⟨x.toArray⟩] rfl (by simp [Value.oneCell']) _ _ rfl rfl rfl hr8 (by omega) (by omega) hB6 ?_)
         intro v8 w8 hq8 hg8
         have HB8 : Hid (Below wq.heap.size wq w8) := HB6.out.trans (hg8.toBelow hB6 fun j hj => (World.ownsRow.lt hr8 j hj).1)
         obtain ⟨out8, ho8⟩ : ∃ o, o = out6 ++ [x] := ⟨_, rfl⟩
         have HO8 : Hid (out8 = out6 ++ [x]) := ho8
         have hl8 : out8.length = out6.length + 1 := by rw [ho8]; simp
         have HK8 : Hid (KeysO w8 wq.heap.size v8 out8) := by rw [ho8]; exact keyso_push hq8
         obtain ⟨a8, c8, rfl, -⟩ := row_forms hq8
         rw [← hl8] at HK8 ⊢
         have hB8 : wq.heap.size ≤ w8.heap.size := HB8.out.size
         have hL8 : out8.length ≤ out6.length + 1 := by omega
         clear hq8 hg8 hr8 ho8 hl8
         go_wp2
         go_roundw
         case rel => exact ⟨n + 1, a8, c8, out8, true, by omega, by go_num, rfl, rfl, by first | omega | (simp; omega), by rw [Hid, ← HS.out]; rw [HO8.out, HO6.out]; simp [hxk], HK8, HB8⟩
         case measure => simp [intOf]; omega
     ·obtain rfl : n = ks.length := by omega
      rw [List.drop_length] at HP
      cases pl with
      | true =>
       have HE : Hid (out = putR k false ks) := by have := HP.out; simpa [putR, Hid] using this
       have HF : Hid (TrI w l (j + 1) (.slice a5 out.length c5) out wr) := by have := HFin.out a5 c5 wr; rw [← HE.out] at this; exact this HK.out HB.out
       clear HP HK HB HE HFin
       go_wp2
       go_roundw
       case rel => exact ⟨j + 1, a5, c5, out, by omega, by go_num, rfl, HF⟩
       case measure => simp [intOf]; omega
      | false =>
       have HE : Hid (out ++ [k] = putR k false ks) := by have := HP.out; simpa [putR, Hid] using this
       have hB0 : wq.heap.size ≤ wr.heap.size := HB.out.size
       have hr6 : wr.ownsRow wq.heap.size 9 1 (.slice a5 out.length c5) out.length (out.map encS) := HK.out
       go_wp2_with (at_builtin; refine append_row _ rfl (.tmp 59) (.tmp 61) _ 9 _ 1 16 Tryz.underlying39 info_str rfl (by decide) rfl wq.heap.size _ out.length _ rfl [.string ⟨k.toArray⟩] rfl (by simp [Value.oneCell']) _ _ rfl rfl rfl hr6 (by omega) (by omega) hB0 ?_)
       intro v6 w6 hq6 hg6
       have HB6 : Hid (Below wq.heap.size wq w6) := HB.out.trans (hg6.toBelow hB0 fun j hj => (World.ownsRow.lt hr6 j hj).1)
       obtain ⟨out6, ho6⟩ : ∃ o, o = out ++ [k] := ⟨_, rfl⟩
       have HO6 : Hid (out6 = out ++ [k]) := ho6
       have hl6 : out6.length = out.length + 1 := by rw [ho6]; simp
       have HK6 : Hid (KeysO w6 wq.heap.size v6 out6) := by rw [ho6]; exact keyso_push hq6
       obtain ⟨a6, c6, rfl, -⟩ := row_forms hq6
       rw [← hl6] at HK6 ⊢
       have hB6 : wq.heap.size ≤ w6.heap.size := HB6.out.size
       have hL6 : out6.length ≤ out.length + 1 := by omega
       clear hq6 hg6 hr6 ho6 hl6
       have HF : Hid (TrI w l (j + 1) (.slice a6 out6.length c6) out6 w6) := by have := HFin.out a6 c6 w6; rw [← HE.out, ← HO6.out] at this; exact this HK6.out HB6.out
       clear HP HK HB HE HFin HK6 HB6
       go_wp2
       go_roundw
       case rel => exact ⟨j + 1, a6, c6, out6, by omega, by go_num, rfl, HF⟩
       case measure => simp [intOf]; omega
  ·obtain rfl : j = N := by omega
   have HO : Hid (tagsOk l) := ⟨by rw [← Hn.out]; exact h16, fun x hx => by
    obtain ⟨i, hi, rfl⟩ := List.getElem_of_mem hx
    exact HI.out.good i hi (by rw [Hn.out]; exact hi)⟩
   have HF : Hid (TagsA w l (.returned (.tuple #[.slice a4 ks.length c4, .int .i64 0])) w0) := by
    have e : tagsL l = ks := by
     rw [(tags_yes HO.out).2, compact_putAll, HI.out.eq, List.take_of_length_le (by rw [Hn.out]; exact Nat.le_refl _)]
    exact ⟨_, by rw [(tags_yes HO.out).1], by rw [e]; exact HI.out.own, HI.out.below⟩
   clear HI HC HO
   go_wp2
   go_ret2
   exact HF.out
end Go.Proofs.YthgcnmilaifkoaaGreatDoor
