import Derived.Test.YtcdfbbjakkmmoaaRToward2
import Derived.Test.YtcdfbbjakkmmoaaXOrd
import Derived.Deep.QuietTactic
import Derived.BigQuiet
import Derived.Test.YtcdfbbjakkmmoaaXRow
/- The document's Less and Starts. -/
namespace Go.Proofs.Ytcdfbbjakkmmoaa
open Go.RowKit
set_option linter.unusedVariables false

theorem less_nil (b : ByteArray) (a : List UInt8) (k : Nat) (h : k < b.size) (ha : a = []) : Op.bytesLess a (b.data.toList.drop k) = true := by
  subst ha
  rw [List.drop_eq_getElem_cons (by simpa using h)]; rfl
theorem less_end (b : ByteArray) (a : List UInt8) (k : Nat) (h : ¬ k < b.size) : Op.bytesLess a (b.data.toList.drop k) = false := by
  rw [List.drop_eq_nil_of_le (by simp; omega)]; cases a <;> rfl
theorem less_step (a b : ByteArray) (k : Nat) (ha : k < a.size) (hb : k < b.size) : Op.bytesLess (a.data.toList.drop k) (b.data.toList.drop k) = (decide (a[k].toNat < b[k].toNat) || (decide (a[k].toNat = b[k].toNat) && Op.bytesLess (a.data.toList.drop (k + 1)) (b.data.toList.drop (k + 1)))) := by
  rw [List.drop_eq_getElem_cons (l := a.data.toList) (by simpa using ha), List.drop_eq_getElem_cons (l := b.data.toList) (by simpa using hb)]
  rw [Op.bytesLess]
  have e1 : (a.data.toList[k]'(by simpa using ha) < b.data.toList[k]'(by simpa using hb)) ↔ a[k].toNat < b[k].toNat := UInt8.lt_iff_toNat_lt
  have e2 : (a.data.toList[k]'(by simpa using ha) == b.data.toList[k]'(by simpa using hb)) = decide (a[k].toNat = b[k].toNat) := by
    rw [Bool.eq_iff_iff, beq_iff_eq, decide_eq_true_iff]
    exact UInt8.toNat_inj.symm
  rw [e2]
  congr 1

set_option maxHeartbeats 1000000 in
theorem less_calls (a b : ByteArray) (w : World) (ha : a.size ≤ 140737488351296) (hb : b.size ≤ 140737488351296) :
    Calls Try.prog 56 #[.string a, .string b] w fun e w' => e = .returned (.bool (Op.bytesLess a.toList b.toList)) ∧ ∃ n, w' = w.drewN n := by
  have HL : Hid (Op.bytesLess a.toList b.toList = Op.bytesLess a.data.toList b.data.toList) := by
    show _ = _
    rw [ByteArray.toList_eq, ByteArray.toList_eq]
  go_enter Try.func56, Try.ntmps56
  go_wp2
  go_loopw [5] (fun i wr => ∃ k n : Nat, k ≤ b.size ∧ i = .int .i64 k ∧ Hid (Op.bytesLess (a.data.toList.drop k) (b.data.toList.drop k) = Op.bytesLess a.data.toList b.data.toList) ∧ wr = w.drewN n) (fun i _ => b.size - (intOf i).toNat)
  case atStart => exact ⟨0, 0, Nat.zero_le _, rfl, rfl, rfl⟩
  case round =>
    obtain ⟨k, n, hk, rfl, HC, rfl⟩ := hrel
    by_cases hlt : k < b.size
    · by_cases hla : k < a.size
      · have hd : decide ((a.size : Int) ≤ (k : Int)) = false := by simp; omega
        have hi1 : (0 : Int) ≤ (k : Int) ∧ (k : Int) < (a.size : Int) := by omega
        have hi2 : (0 : Int) ≤ (k : Int) ∧ (k : Int) < (b.size : Int) := by omega
        have HS : Hid (Op.bytesLess (a.data.toList.drop k) (b.data.toList.drop k) = (decide (a[k].toNat < b[k].toNat) || (decide (a[k].toNat = b[k].toNat) && Op.bytesLess (a.data.toList.drop (k + 1)) (b.data.toList.drop (k + 1))))) := less_step a b k hla hlt
        go_wp2
        go_quiet (fail)
        by_cases h1 : a[k].toNat < b[k].toNat
        · have h1i : (a[k].toNat : Int) < (b[k].toNat : Int) := by omega
          have HT : Hid (Op.bytesLess a.data.toList b.data.toList = true) := by
            show _ = _
            rw [← HC.out, HS.out]; simp [h1]
          go_wp2
          go_ret
          exact ⟨ret_bool (HL.out.trans HT.out).symm, _, by first | rfl | exact World.drewN_drewN _ _ _⟩
        · have h1i : ¬ (a[k].toNat : Int) < (b[k].toNat : Int) := by omega
          go_wp2
          go_quiet (fail)
          by_cases h2 : b[k].toNat < a[k].toNat
          · have h2i : (b[k].toNat : Int) < (a[k].toNat : Int) := by omega
            have HT : Hid (Op.bytesLess a.data.toList b.data.toList = false) := by
              show _ = _
              rw [← HC.out, HS.out]; simp [h1]; intro h; omega
            go_wp2
            go_ret
            exact ⟨ret_bool (HL.out.trans HT.out).symm, _, by first | rfl | exact World.drewN_drewN _ _ _⟩
          · have h2i : ¬ (b[k].toNat : Int) < (a[k].toNat : Int) := by omega
            have HC2 : Hid (Op.bytesLess (a.data.toList.drop (k + 1)) (b.data.toList.drop (k + 1)) = Op.bytesLess a.data.toList b.data.toList) := by
              show _ = _
              rw [← HC.out, HS.out]; simp [show a[k].toNat = b[k].toNat by omega]
            go_wp2
            go_roundw
            case rel => exact ⟨k + 1, _, by omega, by go_num, HC2, rfl⟩
            case measure => simp [intOf]; omega
      · have hd : decide ((a.size : Int) ≤ (k : Int)) = true := by simp; omega
        have HT : Hid (Op.bytesLess a.data.toList b.data.toList = true) := by
          show _ = _
          rw [← HC.out]; exact less_nil b _ k hlt (List.drop_eq_nil_of_le (by simp; omega))
        go_wp2
        go_quiet (fail)
        go_wp2
        go_ret
        exact ⟨ret_bool (HL.out.trans HT.out).symm, _, by first | rfl | exact World.drewN_drewN _ _ _⟩
    · have HT : Hid (Op.bytesLess a.data.toList b.data.toList = false) := by
        show _ = _
        rw [← HC.out]; exact less_end b _ k hlt
      go_wp2
      go_ret
      exact ⟨ret_bool (HL.out.trans HT.out).symm, n, rfl⟩


def startsB (s p : List UInt8) : Bool := decide (p.length ≤ s.length) && (s.take p.length == p)

theorem extract_take (s : ByteArray) (k : Nat) : (s.extract 0 k).data.toList = s.data.toList.take k := by
  rw [ByteArray.data_extract]
  simp

set_option maxHeartbeats 400000 in
theorem starts_calls (s p : ByteArray) (w : World) (hs : s.size ≤ 281474976702464) (hp : p.size ≤ 281474976702464) :
    Calls Try.prog 58 #[.string s, .string p] w fun e w' => e = .returned (.bool (startsB s.data.toList p.data.toList)) ∧ w' = w := by
  by_cases h : p.size ≤ s.size
  · have hi : (p.size : Int) ≤ (s.size : Int) := by omega
    have hd : decide ((p.size : Int) ≤ (s.size : Int)) = true := by simpa using h
    go_enter Try.func58, Try.ntmps58
    go_wp2
    go_light
    go_ret
    refine ⟨ret_bool ?_, rfl⟩
    rw [ByteArray.toList_eq, ByteArray.toList_eq, extract_take]
    simp [startsB, h]
  · have hd : decide ((p.size : Int) ≤ (s.size : Int)) = false := by simp; omega
    go_enter Try.func58, Try.ntmps58
    go_wp2
    go_ret
    refine ⟨ret_bool ?_, rfl⟩
    simp [startsB, h]


/-- .. over the plain order. -/
theorem less_lt (a b : ByteArray) : Op.bytesLess a.toList b.toList = decide (Lt a.data.toList b.data.toList) := by
  rw [ByteArray.toList_eq, ByteArray.toList_eq, less_dec]
end Go.Proofs.Ytcdfbbjakkmmoaa

/- The document's sorted lists: Find, Common. -/
namespace Go.Proofs.Ytcdfbbjakkmmoaa
open Go.RowKit
set_option linter.unusedVariables false

def strs (l : List ByteArray) : List Value := l.map .string
def ints (l : List Int) : List Value := l.map (.int .i64)
theorem strs_length (l : List ByteArray) : (strs l).length = l.length := by simp [strs]
theorem ints_length (l : List Int) : (ints l).length = l.length := by simp [ints]
theorem strs_one (l : List ByteArray) : ∀ u ∈ strs l, u.oneCell' = true := by
  intro u hu; obtain ⟨x, _, rfl⟩ := List.mem_map.1 hu; rfl
theorem ints_one (l : List Int) : ∀ u ∈ ints l, u.oneCell' = true := by
  intro u hu; obtain ⟨x, _, rfl⟩ := List.mem_map.1 hu; rfl
theorem Sv.At.str {w : World} {x : Sv} {ks : List ByteArray} (h : x.At w) (hv : x.vs = strs ks) (i : Nat) (hi : i < ks.length) : ∃ b off, x.ao = some ⟨b, off, none⟩ ∧ w.cell? ⟨b, off + i, none⟩ = some (.string ks[i]) := by
  obtain ⟨b, off, ha, hc⟩ := h.cells i (by rw [hv, strs_length]; exact hi)
  refine ⟨b, off, ha, ?_⟩
  rw [hc]; simp [hv, strs]
theorem Sv.At.int {w : World} {x : Sv} {ks : List Int} (h : x.At w) (hv : x.vs = ints ks) (i : Nat) (hi : i < ks.length) : ∃ b off, x.ao = some ⟨b, off, none⟩ ∧ w.cell? ⟨b, off + i, none⟩ = some (.int .i64 ks[i]) := by
  obtain ⟨b, off, ha, hc⟩ := h.cells i (by rw [hv, ints_length]; exact hi)
  refine ⟨b, off, ha, ?_⟩
  rw [hc]; simp [hv, ints]

set_option maxRecDepth 100000 in
set_option maxHeartbeats 1000000 in
theorem find_calls (x : Sv) (ks : List ByteArray) (k : ByteArray) (w : World) (hx : x.At w) (hv : x.vs = strs ks) (hs : SortedK ks) (hz : ∀ p ∈ ks, p.size ≤ 140737488351296) (hk : k.size ≤ 140737488351296) (hl : ks.length ≤ 17592186044416) :
    Calls Try.prog 34 #[.slice x.ao ks.length x.cap, .string k] w fun e w' => e = .returned (.tuple #[.int .i64 (place ks k : Int), .bool (decide (k ∈ ks))]) ∧ ∃ n, w' = w.drewN n := by
  have HX : Hid (∀ i (hi : i < ks.length), ∃ b off, x.ao = some ⟨b, off, none⟩ ∧ w.cell? ⟨b, off + i, none⟩ = some (.string ks[i])) := fun i hi => hx.str hv i hi
  have HS : Hid (SortedK ks) := hs
  have HZ : Hid (∀ p ∈ ks, p.size ≤ 140737488351296) := hz
  clear hx hv hs hz
  obtain ⟨xao, xcap, xvs⟩ := x
  dsimp only at HX ⊢
  go_enter Try.func34, Try.ntmps34
  go_wp2
  go_loopw [6, 7] (fun lo hi wr => ∃ a b n : Nat, a ≤ b ∧ b ≤ ks.length ∧ lo = .int .i64 a ∧ hi = .int .i64 b ∧ Hid (∀ j (hj : j < ks.length), j < a → Lt (kyb ks[j]) (kyb k)) ∧ Hid (∀ j (hj : j < ks.length), b ≤ j → ¬ Lt (kyb ks[j]) (kyb k)) ∧ wr = w.drewN n) (fun lo hi _ => (intOf hi).toNat - (intOf lo).toNat)
  case atStart => exact ⟨0, ks.length, 0, Nat.zero_le _, Nat.le_refl _, rfl, rfl, fun j _ h => absurd h (Nat.not_lt_zero j), fun j h1 h2 => absurd h1 (by omega), rfl⟩
  case round =>
    obtain ⟨a, b, n, hab, hb, rfl, rfl, H1, H2, rfl⟩ := hrel
    by_cases hlt : a < b
    · obtain ⟨m, HM⟩ : ∃ m : Nat, m = a + (b - a) / 2 := ⟨_, rfl⟩
      have hm1 : a ≤ m ∧ m < b := by omega
      have hq : Int.tdiv ((b : Int) - (a : Int)) 2 = ((m - a : Nat) : Int) := by
        rw [Int.tdiv_eq_ediv_of_nonneg (by omega)]; omega
      have hmi : (a : Int) + ((m - a : Nat) : Int) = (m : Int) := by omega
      obtain ⟨bb, off, rfl, hc⟩ := HX.out m (by omega)
      have HC := less_calls ks[m] k (w.drewN n) (HZ.out _ (List.getElem_mem _)) hk
      rw [less_lt] at HC
      clear HM
      go_wp2_with fail
      refine HC.mono ?_
      clear HC
      rintro e w1 ⟨rfl, q, rfl⟩
      by_cases hL : Lt ks[m].data.toList k.data.toList
      · rw [decide_eq_true hL]
        have H1' : Hid (∀ j (hj : j < ks.length), j < m + 1 → Lt (kyb ks[j]) (kyb k)) := fun j hj hjm => by
          rcases Nat.lt_or_ge j m with h3 | h3
          · exact lt_tr (sortedK_at HS.out h3 (by omega)) hL
          · have : j = m := by omega
            subst this; exact hL
        go_wp2
        go_roundw
        case rel => exact ⟨m + 1, b, _, by omega, hb, by go_num, rfl, H1', H2, rfl⟩
        case measure => simp [intOf]; omega
      · rw [decide_eq_false hL]
        have H2' : Hid (∀ j (hj : j < ks.length), m ≤ j → ¬ Lt (kyb ks[j]) (kyb k)) := fun j hj hjm => by
          rcases Nat.lt_or_ge m j with h3 | h3
          · exact fun h4 => hL (lt_tr (sortedK_at HS.out h3 hj) h4)
          · have : j = m := by omega
            subst this; exact hL
        go_wp2
        go_roundw
        case rel => exact ⟨a, m, _, by omega, by omega, rfl, rfl, H1, H2', rfl⟩
        case measure => simp [intOf]; omega
    · have : b = a := by omega
      subst this
      have HP : Hid (place ks k = b) := place_eq hb H1.out (fun h => H2.out b h (Nat.le_refl _))
      by_cases hin : b < ks.length
      · obtain ⟨bb, off, rfl, hc⟩ := HX.out b hin
        have hd : decide ((b : Int) < (ks.length : Int)) = true := by simp; omega
        have hi1 : (0 : Int) ≤ (b : Int) ∧ (b : Int) < (ks.length : Int) := by omega
        have hp := HP.out
        have HMEM : Hid ((ks[b].toList == k.toList) = decide (k ∈ ks)) := by
          show _ = _
          rw [Bool.eq_iff_iff, decide_eq_true_iff, ← place_mem HS.out]
          constructor
          · intro h; exact ⟨by omega, by simp only [hp]; rw [beq_iff_eq, ByteArray.toList_eq, ByteArray.toList_eq] at h; exact ky_inj h⟩
          · rintro ⟨h, e⟩; simp only [hp] at e; rw [e]; simp
        clear hp
        go_wp2
        go_quiet (fail)
        go_wp2
        go_ret2
        rw [HP.out, HMEM.out]
        exact ⟨rfl, _, World.drewN_drewN _ _ _⟩
      · have hd : decide ((b : Int) < (ks.length : Int)) = false := by simp; omega
        have hp := HP.out
        have HNO : Hid (decide (k ∈ ks) = false) := by
          show _ = _
          rw [decide_eq_false_iff_not, ← place_mem HS.out]
          rintro ⟨h, -⟩; omega
        clear hp
        go_wp2
        go_quiet (fail)
        go_wp2
        go_ret2
        rw [HP.out, HNO.out]
        exact ⟨rfl, _, World.drewN_drewN _ _ _⟩
end Go.Proofs.Ytcdfbbjakkmmoaa
