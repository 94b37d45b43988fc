/- Layer 9 (records): the document's Tags. -/
import Derived.Test.YtbhhjnbomhkdmaaGreatDoorKLessB
import Derived.Test.YtbhhjnbomhkdmaaGreatDoorRcFixC
import Derived.Test.YtbhhjnbomhkdmaaGreatDoorJPay
namespace Go.Proofs.YtbhhjnbomhkdmaaGreatDoor
open Go.RowKit
set_option linter.unusedVariables false
attribute [local go_sem] Oper.semAt_some

def KeysO (w : World) (B : Nat) (v : Value) (ks : List (List UInt8)) : Prop := w.ownsRow B 9 1 v ks.length (ks.map encS)
theorem keyso_push {w : World} {B : Nat} {v : Value} {out : List Bs} {k : Bs} (h : w.ownsRow B 9 1 v (out.length + 1) (out.map encS ++ [.string ⟨k.toArray⟩])) : KeysO w B v (out ++ [k]) := by
 unfold KeysO
 rw [List.length_append, List.map_append]
 exact h
theorem less_bt (x k : Bs) : Op.bytesLess (⟨x.toArray⟩ : ByteArray).toList (⟨k.toArray⟩ : ByteArray).toList = decide (x < k) := by
 rw [ByteArray.toList_eq, ByteArray.toList_eq]
 exact bytesLess_eq x k
theorem beq_bt (x k : Bs) : ((⟨x.toArray⟩ : ByteArray).toList == (⟨k.toArray⟩ : ByteArray).toList) = decide (x = k) := by
 rw [ByteArray.toList_eq, ByteArray.toList_eq]
 by_cases h : x = k
 ·subst h; simp
 ·simp [h]
theorem putR_step (k x : Bs) (pl : Bool) (l : List Bs) : putR k pl (x :: l) = (if !pl && !decide (x < k) then [k] else []) ++ ((if x = k then [] else [x]) ++ putR k (pl || !decide (x < k)) l) := rfl
theorem putAll_le (ks : List Bs) : (putAll ks).length ≤ ks.length := by
 rw [← compact_putAll]
 exact Nat.le_trans (compact_le _) (by rw [List.length_mergeSort]; exact Nat.le_refl _)
/-- What the first j tags have made. -/
structure TrI (w : World) (l : List ByteArray) (j : Nat) (v : Value) (ks : List Bs) (wr : World) : Prop where
 eq : ks = putAll ((l.take j).map lowL)
 own : KeysO wr w.heap.size v ks
 below : Below w.heap.size w wr
 good : ∀ i (h : i < l.length), i < j → labB l[i] = true
theorem TrI.len {w : World} {l : List ByteArray} {j : Nat} {v : Value} {ks : List Bs} {wr : World} (h : TrI w l j v ks wr) : ks.length ≤ j := by
 rw [h.eq]
 exact Nat.le_trans (putAll_le _) (by rw [List.length_map, List.length_take]; omega)
theorem TrI.short {w : World} {l : List ByteArray} {j : Nat} {v : Value} {ks : List Bs} {wr : World} (h : TrI w l j v ks wr) : ∀ y ∈ ks, y.length ≤ 63 := fun y hy => by
 rw [h.eq, putAll_mem] at hy
 obtain ⟨x, hx, rfl⟩ := List.mem_map.1 hy
 obtain ⟨i, hi, rfl⟩ := List.getElem_of_mem hx
 rw [List.length_take] at hi
 rw [List.getElem_take]
 have := labB_all (h.good i (by omega) (by omega))
 have h2 : (lowL l[i]).length = l[i].size := by show (lowS l[i]).data.toList.length = _; rw [Array.length_toList]; exact lowS_size _
 rw [h2]
 exact this.2.1
theorem encS_row (ks : List Bs) (w : World) (B : Nat) (a : Option Addr) (c : Nat) (h : KeysO w B (.slice a ks.length c) ks) : CellsAt w a (ks.map encS) := by
 intro hne
 rcases h.2 with ⟨_, h0⟩ | ⟨g, cap, cur, he, hb, hg, h1, h2, h3, h4⟩
 ·exact absurd (by simpa using h0) hne
 ·simp only [Value.slice.injEq] at he
  obtain ⟨rfl, _, _⟩ := he
  refine ⟨g, 0, rfl, fun q u hq => ?_⟩
  have := World.ownsRow.cells h (g := g) rfl q u hq
  rw [Lib.add_plain] at this
  exact this

set_option maxRecDepth 100000 in
set_option maxHeartbeats 4000000 in
theorem refTags_calls (ao : Option Addr) (cap : Nat) (l : List ByteArray) (w : World) (hl : l.length ≤ 8796093022208) (hs : ∀ x ∈ l, x.size ≤ 140737488351296) (hc : CellsAt w ao (l.map Value.string)) :
  Calls Tryz.prog 62 #[.slice ao l.length cap] w fun e w' => TagsA w l e w' := by
 have HC : Hid (CellsAt w ao (l.map Value.string)) := hc
 have HSz : Hid (∀ x ∈ l, x.size ≤ 140737488351296) := hs
 clear hc hs
 by_cases h16 : l.length ≤ 16
 case neg =>
  have q : (16 : Int) < (l.length : Int) := by omega
  have HN : Hid (¬ tagsOk l) := fun h => h16 h.1
  go_enter Tryz.func62, Tryz.ntmps62
  go_wp2
  go_ret2
  exact tags_bad HN.out ((Below.refl _ _).alloc (Nat.le_refl _) _)
 have q : ¬ (16 : Int) < (l.length : Int) := by omega
 obtain ⟨N, Hn⟩ : ∃ N, Hid (N = l.length) := ⟨_, rfl⟩
 rw [← Hn.out] at h16 q hl ⊢
 go_enter Tryz.func62, Tryz.ntmps62
 go_wp2
 go_loopw [4, 19] (fun v i wr => ∃ (j : Nat) (a : Option Addr) (c : Nat) (ks : List Bs), j ≤ N ∧ i = .int .i64 j ∧ v = .slice a ks.length c ∧ Hid (TrI w l j (.slice a ks.length c) ks wr)) (fun _ i _ => N - (intOf i).toNat)
 case atStart => exact ⟨0, _, _, [], Nat.zero_le _, rfl, rfl, ⟨rfl, World.ownsRow_lit (size := 1) w #[] 0 (Nat.le_refl _) (by unfold maxLen; omega) rfl, (Below.refl _ _).alloc (Nat.le_refl _) _, fun i _ h => by omega⟩⟩
 case round =>
  obtain ⟨j, a4, c4, ks, hj, rfl, rfl, HI⟩ := hrel
  obtain ⟨w0, hw0⟩ : ∃ w0, w0 = wr := ⟨_, rfl⟩
  subst hw0
  have hlk := HI.out.len
  by_cases hlt : j < N
  ·have hlt' : j < l.length := by rw [← Hn.out]; exact hlt
   obtain ⟨ab, af, rfl, c0⟩ := (HC.out.below HI.out.below).str j hlt'
   obtain ⟨z, Hz⟩ : ∃ z, Hid (z = l[j]) := ⟨l[j], rfl⟩
   have hzs : z.size ≤ 140737488351296 := by rw [Hz.out]; exact HSz.out _ (List.getElem_mem hlt')
   rw [← Hz.out] at c0
   have hsz0 := HI.out.below.size
   cases hb : labB z with
   | false =>
    have HN : Hid (¬ tagsOk l) := fun h => by have := h.2 l[j] (List.getElem_mem hlt'); rw [← Hz.out, hb] at this; cases this
    have HL : Hid (Calls Tryz.prog 45 #[.string z] w0 fun e w' => e = .returned (.tuple #[.string ⟨#[]⟩, .int .i64 90]) ∧ Below w0.heap.size w0 w') := by
     have := refLabel_calls z w0 hzs
     rw [(lab_no hb).1, (lab_no hb).2] at this
     exact this
    clear hb
    go_wp2_with fail
    refine HL.out.mono ?_
    rintro e w1 ⟨rfl, hb1⟩
    have HB1 : Hid (Below w.heap.size w w1) := HI.out.below.trans (hb1.mono hsz0)
    clear hb1
    go_wp2
    go_ret2
    exact tags_bad HN.out HB1.out
   | true =>
    obtain ⟨k, Hk⟩ : ∃ k, Hid (k = lowL z) := ⟨_, rfl⟩
    have hk : k.length ≤ 63 := by rw [Hk.out]; show (lowS z).data.toList.length ≤ 63; rw [Array.length_toList]; exact Nat.le_trans (Nat.le_of_eq (lowS_size z)) (labB_all hb).2.1
    have HL : Hid (Calls Tryz.prog 45 #[.string z] w0 fun e w' => e = .returned (.tuple #[.string ⟨k.toArray⟩, .int .i64 0]) ∧ Below w0.heap.size w0 w') := by
     have := refLabel_calls z w0 hzs
     rw [(lab_yes hb).1, (lab_yes hb).2] at this
     rw [Hk.out]
     exact this
    have HG : Hid (∀ i (h : i < l.length), i < j + 1 → labB l[i] = true) := fun i hi hij => by
     rcases Nat.lt_or_ge i j with h' | h'
     ·exact HI.out.good i hi h'
     ·obtain rfl : i = j := by omega
      rw [← Hz.out]; exact hb
    have HNx : Hid (putR k false ks = putAll ((l.take (j + 1)).map lowL)) := by
     rw [Hid, List.take_succ_eq_append_getElem hlt', List.map_append, List.map_cons, List.map_nil, putAll_snoc, ← HI.out.eq, ← Hz.out, Hk.out]
    clear hb
    go_wp2_with fail
    refine HL.out.mono ?_
    rintro e wq ⟨rfl, hbq⟩
    have HBq : Hid (Below w.heap.size w wq) := HI.out.below.trans (hbq.mono hsz0)
    have HKq : Hid (KeysO wq w.heap.size (.slice a4 ks.length c4) ks) := row_below HI.out.own hbq
    have HCk : Hid (CellsAt wq a4 (ks.map encS)) := encS_row ks wq _ a4 c4 HKq.out
    have HZ : Hid (∀ x ∈ ks, x.length ≤ 63) := HI.out.short
    have HWq : Hid (w.heap.size ≤ wq.heap.size) := HBq.out.size
    have HFin : Hid (∀ a c w', KeysO w' wq.heap.size (.slice a (putR k false ks).length c) (putR k false ks) → Below wq.heap.size wq w' → TrI w l (j + 1) (.slice a (putR k false ks).length c) (putR k false ks) w') := fun a c w' h1 h2 => ⟨HNx.out, row_weak HWq.out h1, HBq.out.trans (h2.mono HWq.out), HG.out⟩
    clear hbq HL HI c0 HC HSz
    go_wp2
    go_loopw [9, 10, 33] (fun v9 v10 i wr => ∃ (n : Nat) (a5 : Option Addr) (c5 : Nat) (out : List Bs) (pl : Bool), n ≤ ks.length ∧ i = .int .i64 n ∧ v9 = .slice a5 out.length c5 ∧ v10 = .bool pl ∧ out.length ≤ 2 * n ∧ Hid (out ++ putR k pl (ks.drop n) = putR k false ks) ∧ Hid (KeysO wr wq.heap.size (.slice a5 out.length c5) out) ∧ Hid (Below wq.heap.size wq wr)) (fun _ _ i _ => ks.length - (intOf i).toNat)
    case atStart => exact ⟨0, _, _, [], false, Nat.zero_le _, rfl, rfl, rfl, Nat.le_refl _, rfl, World.ownsRow_lit (size := 1) wq #[] 0 (Nat.le_refl _) (by unfold maxLen; omega) rfl, (Below.refl _ _).alloc (Nat.le_refl _) _⟩
    case round =>
     obtain ⟨n, a5, c5, out, pl, hn, rfl, rfl, rfl, hol, HP, HK, HB⟩ := hrel
     by_cases hlt2 : n < ks.length
     ·obtain ⟨b, off, rfl, c0⟩ : ∃ b off, a4 = some ⟨b, off, none⟩ ∧ wr.cell? ⟨b, off + n, none⟩ = some (.string ⟨ks[n].toArray⟩) := by
       obtain ⟨b, off, ha, hc⟩ := (HCk.out.below HB.out) (by intro e; have := congrArg List.length e; rw [List.length_map, List.length_nil] at this; omega)
       exact ⟨b, off, ha, hc _ _ (by simp [hlt2])⟩
      have HX : Hid (ks[n].length ≤ 63) := HZ.out _ (List.getElem_mem hlt2)
      have HS : Hid (out ++ ((if !pl && !decide (ks[n] < k) then [k] else []) ++ ((if ks[n] = k then [] else [ks[n]]) ++ putR k (pl || !decide (ks[n] < k)) (ks.drop (n + 1)))) = putR k false ks) := by
       rw [Hid, ← putR_step, ← List.drop_eq_getElem_cons hlt2]
       exact HP.out
      clear HP
      generalize ks[n] = x at *
      have hB0 : wq.heap.size ≤ wr.heap.size := HB.out.size
      have hbe := beq_bt x k
      cases pl with
      | true =>
       by_cases hxk : x = k
       ·have q1 : ((⟨x.toArray⟩ : ByteArray).toList == (⟨k.toArray⟩ : ByteArray).toList) = true := by rw [hbe]; simpa using hxk
        have q2 : (x == k) = true := by simpa using hxk
        clear hbe
        go_wp2
        go_roundw
        case rel => exact ⟨n + 1, a5, c5, out, true, by omega, by go_num, rfl, rfl, by first | omega | (simp; omega), by rw [Hid, ← HS.out]; simp [hxk], HK, HB⟩
        case measure => simp [intOf]; omega
       ·have q1 : ((⟨x.toArray⟩ : ByteArray).toList == (⟨k.toArray⟩ : ByteArray).toList) = false := by rw [hbe]; simpa using hxk
        have q2 : (x == k) = false := by simpa using hxk
        clear hbe
        have hr6 : wr.ownsRow wq.heap.size 9 1 (.slice a5 out.length c5) out.length (out.map encS) := HK.out
        go_wp2_with (at_builtin; refine append_row _ rfl (.tmp 52) (.tmp 54) _ 9 _ 1 16 Tryz.underlying46 info_str rfl (by decide) rfl wq.heap.size _ out.length _ rfl [.string ⟨x.toArray⟩] rfl (by simp [Value.oneCell']) _ _ rfl rfl rfl hr6 (by omega) (by omega) hB0 ?_)
        intro v6 w6 hq6 hg6
        have HB6 : Hid (Below wq.heap.size wq w6) := HB.out.trans (hg6.toBelow hB0 fun j hj => (World.ownsRow.lt hr6 j hj).1)
        obtain ⟨out6, ho6⟩ : ∃ o, o = out ++ [x] := ⟨_, rfl⟩
        have HO6 : Hid (out6 = out ++ [x]) := ho6
        have hl6 : out6.length = out.length + 1 := by rw [ho6]; simp
        have HK6 : Hid (KeysO w6 wq.heap.size v6 out6) := by rw [ho6]; exact keyso_push hq6
        obtain ⟨a6, c6, rfl, -⟩ := row_forms hq6
        rw [← hl6] at HK6 ⊢
        have hB6 : wq.heap.size ≤ w6.heap.size := HB6.out.size
        have hL6 : out6.length ≤ out.length + 1 := by omega
        clear hq6 hg6 hr6 ho6 hl6
        go_wp2
        go_roundw
        case rel => exact ⟨n + 1, a6, c6, out6, true, by omega, by go_num, rfl, rfl, by first | omega | (simp; omega), by rw [Hid, ← HS.out]; rw [HO6.out]; simp [hxk], HK6, HB6⟩
        case measure => simp [intOf]; omega
      | false =>
       have HLC : Hid (Calls Tryz.prog 75 #[.string ⟨x.toArray⟩, .string ⟨k.toArray⟩] wr fun e w' => e = .returned (.bool (decide (x < k))) ∧ ∃ m, w' = wr.drewN m) := by
        have := less_calls ⟨x.toArray⟩ ⟨k.toArray⟩ wr (Nat.le_trans (by simpa [ByteArray.size] using HX.out) (by decide)) (Nat.le_trans (by simpa [ByteArray.size] using hk) (by decide))
        rw [less_bt] at this
        exact this
       by_cases hlk2 : x < k
       ·have hxk : ¬ x = k := fun e => by subst e; exact List.lt_irrefl _ hlk2
        have hld : decide (x < k) = true := decide_eq_true hlk2
        rw [hld] at HLC HS
        have q1 : ((⟨x.toArray⟩ : ByteArray).toList == (⟨k.toArray⟩ : ByteArray).toList) = false := by rw [hbe]; simpa using hxk
        have q2 : (x == k) = false := by simpa using hxk
        clear hbe hld
        go_wp2_with fail
        refine HLC.out.mono ?_
        clear HLC
        rintro e w7 ⟨rfl, m, hw7⟩
        have HB7 : Hid (Below wq.heap.size wq w7) := by rw [hw7]; exact below_drewN HB.out m
        have HK7 : Hid (KeysO w7 wq.heap.size (.slice a5 out.length c5) out) := by rw [hw7]; exact row_below HK.out (below_drewN (Below.refl _ _) m)
        have hB7 : wq.heap.size ≤ w7.heap.size := HB7.out.size
        clear hw7 HB HK c0 hlk2
        have hr6 : w7.ownsRow wq.heap.size 9 1 (.slice a5 out.length c5) out.length (out.map encS) := HK7.out
        go_wp2_with (at_builtin; refine append_row _ rfl (.tmp 52) (.tmp 54) _ 9 _ 1 16 Tryz.underlying46 info_str rfl (by decide) rfl wq.heap.size _ out.length _ rfl [.string ⟨x.toArray⟩] rfl (by simp [Value.oneCell']) _ _ rfl rfl rfl hr6 (by omega) (by omega) hB7 ?_)
        intro v6 w6 hq6 hg6
        have HB6 : Hid (Below wq.heap.size wq w6) := HB7.out.trans (hg6.toBelow hB7 fun j hj => (World.ownsRow.lt hr6 j hj).1)
        obtain ⟨out6, ho6⟩ : ∃ o, o = out ++ [x] := ⟨_, rfl⟩
        have HO6 : Hid (out6 = out ++ [x]) := ho6
        have hl6 : out6.length = out.length + 1 := by rw [ho6]; simp
        have HK6 : Hid (KeysO w6 wq.heap.size v6 out6) := by rw [ho6]; exact keyso_push hq6
        obtain ⟨a6, c6, rfl, -⟩ := row_forms hq6
        rw [← hl6] at HK6 ⊢
        have hB6 : wq.heap.size ≤ w6.heap.size := HB6.out.size
        have hL6 : out6.length ≤ out.length + 1 := by omega
        clear hq6 hg6 hr6 ho6 hl6
        go_wp2
        go_roundw
        case rel => exact ⟨n + 1, a6, c6, out6, false, by omega, by go_num, rfl, rfl, by first | omega | (simp; omega), by rw [Hid, ← HS.out]; rw [HO6.out]; simp [hxk], HK6, HB6⟩
        case measure => simp [intOf]; omega
       ·have hld : decide (x < k) = false := decide_eq_false hlk2
        rw [hld] at HLC HS
        clear hld
        go_wp2_with fail
        refine HLC.out.mono ?_
        clear HLC
        rintro e w7 ⟨rfl, m, hw7⟩
        have HB7 : Hid (Below wq.heap.size wq w7) := by rw [hw7]; exact below_drewN HB.out m
        have HK7 : Hid (KeysO w7 wq.heap.size (.slice a5 out.length c5) out) := by rw [hw7]; exact row_below HK.out (below_drewN (Below.refl _ _) m)
        have hB7 : wq.heap.size ≤ w7.heap.size := HB7.out.size
        clear hw7 HB HK c0 hlk2
        have hr6 : w7.ownsRow wq.heap.size 9 1 (.slice a5 out.length c5) out.length (out.map encS) := HK7.out
        go_wp2_with (at_builtin; refine append_row _ rfl (.tmp 45) (.tmp 47) _ 9 _ 1 16 Tryz.underlying46 info_str rfl (by decide) rfl wq.heap.size _ out.length _ rfl [.string ⟨k.toArray⟩] rfl (by simp [Value.oneCell']) _ _ rfl rfl rfl hr6 (by omega) (by omega) hB7 ?_)
        intro v6 w6 hq6 hg6
        have HB6 : Hid (Below wq.heap.size wq w6) := HB7.out.trans (hg6.toBelow hB7 fun j hj => (World.ownsRow.lt hr6 j hj).1)
        obtain ⟨out6, ho6⟩ : ∃ o, o = out ++ [k] := ⟨_, rfl⟩
        have HO6 : Hid (out6 = out ++ [k]) := ho6
        have hl6 : out6.length = out.length + 1 := by rw [ho6]; simp
        have HK6 : Hid (KeysO w6 wq.heap.size v6 out6) := by rw [ho6]; exact keyso_push hq6
        obtain ⟨a6, c6, rfl, -⟩ := row_forms hq6
        rw [← hl6] at HK6 ⊢
        have hB6 : wq.heap.size ≤ w6.heap.size := HB6.out.size
        have hL6 : out6.length ≤ out.length + 1 := by omega
        clear hq6 hg6 hr6 ho6 hl6
        by_cases hxk : x = k
        ·have q1 : ((⟨x.toArray⟩ : ByteArray).toList == (⟨k.toArray⟩ : ByteArray).toList) = true := by rw [hbe]; simpa using hxk
         have q2 : (x == k) = true := by simpa using hxk
         clear hbe
         go_wp2
         go_roundw
         case rel => exact ⟨n + 1, a6, c6, out6, true, by omega, by go_num, rfl, rfl, by first | omega | (simp; omega), by rw [Hid, ← HS.out]; rw [HO6.out]; simp [hxk], HK6, HB6⟩
         case measure => simp [intOf]; omega
        ·have q1 : ((⟨x.toArray⟩ : ByteArray).toList == (⟨k.toArray⟩ : ByteArray).toList) = false := by rw [hbe]; simpa using hxk
         have q2 : (x == k) = false := by simpa using hxk
         clear hbe
         have hr8 : w6.ownsRow wq.heap.size 9 1 (.slice a6 out6.length c6) out6.length (out6.map encS) := HK6.out
         go_wp2_with (at_builtin; refine append_row _ rfl (.tmp 52) (.tmp 54) _ 9 _ 1 16 Tryz.underlying46 info_str rfl (by decide) rfl wq.heap.size _ out6.length _ rfl [.string ⟨x.toArray⟩] rfl (by simp [Value.oneCell']) _ _ rfl rfl rfl hr8 (by omega) (by omega) hB6 ?_)
         intro v8 w8 hq8 hg8
         have HB8 : Hid (Below wq.heap.size wq w8) := HB6.out.trans (hg8.toBelow hB6 fun j hj => (World.ownsRow.lt hr8 j hj).1)
         obtain ⟨out8, ho8⟩ : ∃ o, o = out6 ++ [x] := ⟨_, rfl⟩
         have HO8 : Hid (out8 = out6 ++ [x]) := ho8
         have hl8 : out8.length = out6.length + 1 := by rw [ho8]; simp
         have HK8 : Hid (KeysO w8 wq.heap.size v8 out8) := by rw [ho8]; exact keyso_push hq8
         obtain ⟨a8, c8, rfl, -⟩ := row_forms hq8
         rw [← hl8] at HK8 ⊢
         have hB8 : wq.heap.size ≤ w8.heap.size := HB8.out.size
         have hL8 : out8.length ≤ out6.length + 1 := by omega
         clear hq8 hg8 hr8 ho8 hl8
         go_wp2
         go_roundw
         case rel => exact ⟨n + 1, a8, c8, out8, true, by omega, by go_num, rfl, rfl, by first | omega | (simp; omega), by rw [Hid, ← HS.out]; rw [HO8.out, HO6.out]; simp [hxk], HK8, HB8⟩
         case measure => simp [intOf]; omega
     ·obtain rfl : n = ks.length := by omega
      rw [List.drop_length] at HP
      cases pl with
      | true =>
       have HE : Hid (out = putR k false ks) := by have := HP.out; simpa [putR, Hid] using this
       have HF : Hid (TrI w l (j + 1) (.slice a5 out.length c5) out wr) := by have := HFin.out a5 c5 wr; rw [← HE.out] at this; exact this HK.out HB.out
       clear HP HK HB HE HFin
       go_wp2
       go_roundw
       case rel => exact ⟨j + 1, a5, c5, out, by omega, by go_num, rfl, HF⟩
       case measure => simp [intOf]; omega
      | false =>
       have HE : Hid (out ++ [k] = putR k false ks) := by have := HP.out; simpa [putR, Hid] using this
       have hB0 : wq.heap.size ≤ wr.heap.size := HB.out.size
       have hr6 : wr.ownsRow wq.heap.size 9 1 (.slice a5 out.length c5) out.length (out.map encS) := HK.out
       go_wp2_with (at_builtin; refine append_row _ rfl (.tmp 59) (.tmp 61) _ 9 _ 1 16 Tryz.underlying46 info_str rfl (by decide) rfl wq.heap.size _ out.length _ rfl [.string ⟨k.toArray⟩] rfl (by simp [Value.oneCell']) _ _ rfl rfl rfl hr6 (by omega) (by omega) hB0 ?_)
       intro v6 w6 hq6 hg6
       have HB6 : Hid (Below wq.heap.size wq w6) := HB.out.trans (hg6.toBelow hB0 fun j hj => (World.ownsRow.lt hr6 j hj).1)
       obtain ⟨out6, ho6⟩ : ∃ o, o = out ++ [k] := ⟨_, rfl⟩
       have HO6 : Hid (out6 = out ++ [k]) := ho6
       have hl6 : out6.length = out.length + 1 := by rw [ho6]; simp
       have HK6 : Hid (KeysO w6 wq.heap.size v6 out6) := by rw [ho6]; exact keyso_push hq6
       obtain ⟨a6, c6, rfl, -⟩ := row_forms hq6
       rw [← hl6] at HK6 ⊢
       have hB6 : wq.heap.size ≤ w6.heap.size := HB6.out.size
       have hL6 : out6.length ≤ out.length + 1 := by omega
       clear hq6 hg6 hr6 ho6 hl6
       have HF : Hid (TrI w l (j + 1) (.slice a6 out6.length c6) out6 w6) := by have := HFin.out a6 c6 w6; rw [← HE.out, ← HO6.out] at this; exact this HK6.out HB6.out
       clear HP HK HB HE HFin HK6 HB6
       go_wp2
       go_roundw
       case rel => exact ⟨j + 1, a6, c6, out6, by omega, by go_num, rfl, HF⟩
       case measure => simp [intOf]; omega
  ·obtain rfl : j = N := by omega
   have HO : Hid (tagsOk l) := ⟨by rw [← Hn.out]; exact h16, fun x hx => by
    obtain ⟨i, hi, rfl⟩ := List.getElem_of_mem hx
    exact HI.out.good i hi (by rw [Hn.out]; exact hi)⟩
   have HF : Hid (TagsA w l (.returned (.tuple #[.slice a4 ks.length c4, .int .i64 0])) w0) := by
    have e : tagsL l = ks := by
     rw [(tags_yes HO.out).2, compact_putAll, HI.out.eq, List.take_of_length_le (by rw [Hn.out]; exact Nat.le_refl _)]
    exact ⟨_, by rw [(tags_yes HO.out).1], by rw [e]; exact HI.out.own, HI.out.below⟩
   clear HI HC HO
   go_wp2
   go_ret2
   exact HF.out
end Go.Proofs.YtbhhjnbomhkdmaaGreatDoor
