/- Layer 17 (sched): the law on picks. -/
import Derived.Test.YteckckohflnahaaScTurns
namespace Go.Proofs.Yteckckohflnahaa
open Go.RowKit
set_option linter.unusedVariables false
variable {S S' : Nat → Prop}

set_option maxRecDepth 100000 in
set_option maxHeartbeats 1000000 in
theorem place_calls (p : Int) (n : Nat) (w : World) (hn : 0 < n) (hn2 : n ≤ 140737488355328) (hp1 : -9223372036854775808 ≤ p) (hp2 : p ≤ 9223372036854775807) :
    Calls Try.prog 15 #[.int .i64 p, .int .i64 (n : Int)] w fun e w' => e = .returned (.int .i64 ((p % (n : Int)).toNat : Int)) ∧ w' = w := by
  have HQ : Hid (_ = ((p % (n : Int)).toNat : Int)) := tmod_place (p := p) hn
  obtain ⟨q, Hq⟩ : ∃ q, Hid (q = p.tmod (n : Int)) := ⟨_, rfl⟩
  rw [← Hq.out] at HQ
  have hqb : -(n : Int) ≤ q ∧ q < n := by
    have h1 := Int.emod_nonneg p (b := (n : Int)) (by omega)
    have h2 := Int.emod_lt_of_pos p (b := (n : Int)) (by omega)
    have h3 := HQ.out
    rw [Int.toNat_of_nonneg h1] at h3
    split at h3 <;> omega
  have hq1 : p.tmod (n : Int) = q := Hq.out.symm
  have hn0 : ((n : Int) == 0) = false := by simp; omega
  obtain ⟨Z, HZ⟩ : ∃ Z : Int, Hid (Z = ((p % (n : Int)).toNat : Int)) := ⟨_, rfl⟩
  rw [← HZ.out] at HQ ⊢
  clear Hq HZ
  by_cases hneg : q < 0
  · rw [Hid, if_pos hneg] at HQ
    have HQ2 : Hid (q + (n : Int) = Z) := HQ
    clear HQ
    go_enter Try.func15, Try.ntmps15
    go_wp2
    go_ret
    exact ⟨ret_i HQ2.out, rfl⟩
  · rw [Hid, if_neg hneg] at HQ
    have HQ2 : Hid (q = Z) := HQ
    clear HQ
    go_enter Try.func15, Try.ntmps15
    go_wp2
    go_ret
    exact ⟨ret_i HQ2.out, rfl⟩
theorem emptyI (W : World) : Ow (W.alloc (.cells #[] 3)) W.heap.size 3 (.slice (some ⟨W.heap.size, 0, none⟩) 0 0) [] := World.ownsRow_lit (size := 1) W #[] 0 (Nat.le_refl _) (by unfold maxLen; omega) rfl
theorem Ow.shapeI {w : World} {B : Nat} {e : TypeId} {v : Value} {X : List Value} {l : List Int} {n : Nat} (h : Ow w B e v X) (hX : X = l.map iV) (hn : l.length = n) : ∃ ao cap, v = .slice ao n cap ∧ VAt w ao (l.map iV) ∧ (∀ a, ao = some a → B ≤ a.block ∧ a.block < w.heap.size) ∧ (ao = none → cap = 0 ∧ n = 0) := by
  subst hX
  subst hn
  obtain ⟨ao, cap, e, h1, h2, -⟩ := h.shape
  rw [List.length_map] at e h1
  subst e
  exact ⟨ao, cap, rfl, h.v, fun a ea => (h.block a ea).2, fun en => ⟨h2 en, by have := h2 en; omega⟩⟩
theorem drop_len {l : List Int} {k n : Nat} (hn : l.length = n) : ((l.drop k).length : Int) = ((n - k : Nat) : Int) := by rw [List.length_drop, hn]

set_option maxRecDepth 100000 in
set_option maxHeartbeats 2000000 in
theorem schedPicks_calls (ao : Option Addr) (wn cap : Nat) (want : List Int) (n : Int) (w : World) (hwn : want.length = wn) (hwl : wn ≤ 17592186044415) (hnil : ao = none → cap = 0 ∧ wn = 0) (hp : VAt w ao (want.map iV)) (hpr : ∀ p ∈ want, -9223372036854775808 ≤ p ∧ p ≤ 9223372036854775807) :
    Calls Try.prog 6 #[.slice ao wn cap, .int .i64 n] w fun e w' => e = .returned (.bool true) ∧ Below w.heap.size w w' := by
  have HA := alive_calls w
  have HW : Hid (VAt w ao (want.map iV)) := hp
  have HR : Hid (∀ p ∈ want, -9223372036854775808 ≤ p ∧ p ≤ 9223372036854775807) := hpr
  have HL : Hid (want.length = wn) := hwn
  have HNil : Hid (ao = none → cap = 0 ∧ wn = 0) := hnil
  clear hp hpr hwn hnil
  go_enter Try.func6, Try.ntmps6
  go_wp2_with fail
  refine HA.mono ?_
  clear HA
  rintro e w1 ⟨rfl, hb1⟩
  by_cases h1 : n < 1
  · go_wp2
    go_ret
    exact ⟨rfl, hb1⟩
  by_cases h2 : 50 < n
  · have h1' : 1 ≤ n := by omega
    go_wp2
    go_ret
    exact ⟨rfl, hb1⟩
  obtain ⟨m, rfl⟩ : ∃ m : Nat, n = (m : Int) := ⟨n.toNat, by omega⟩
  have h1' : 1 ≤ m := by omega
  have h2' : m ≤ 50 := by omega
  have h1 : (1 : Int) ≤ (m : Int) := by omega
  have h2 : (m : Int) ≤ 50 := by omega
  have HB1 : Hid (Below w.heap.size w w1) := hb1
  clear hb1
  have HB10 : Hid (Below w1.heap.size w1 (w1.alloc (.cells #[] 3))) := below_alloc _ _
  go_wp2_with (at_builtin; go_must (refine append_vs _ rfl (.tmp 20) (.tmp 21) 22 3 (.int .i64 0) 8 Try.underlying22 info_int rfl rfl w1.heap.size _ [] rfl (emptyI w1) ao wn cap (want.map iV) rfl (by rw [List.length_map]; exact HL.out) HNil.out (HW.out.below (HB1.out.trans (HB10.out.mono HB1.out.size))) (iV_one _) (by simp; omega) (by simp; omega) (by simp [World.size_alloc]) ?_))
  intro v2 w2 ho2 hg2 _
  have hb12 : Below w1.heap.size w1 w2 := app_below HB10.out hg2 (fun j hj => by simp [Value.ownBlock] at hj; omega)
  obtain ⟨ao2, c2, rfl, hv2, hq2, hn2⟩ := ho2.shapeI (l := want) (n := wn) (by simp) HL.out
  have HN := newC_calls ao2 wn c2 want ((wn : Int) + 1) w2 HL.out (by omega) hn2 hv2
  have hmax : max ((wn : Int) + 1) 1 = (wn : Int) + 1 := by omega
  rw [hmax] at HN
  have HB2 : Hid (Below w.heap.size w w2) := HB1.out.trans (hb12.mono HB1.out.size)
  clear hb12 hv2 hq2 hn2 ho2 hg2 hmax HB10 HB1
  go_wp2_with fail
  refine HN.mono ?_
  clear HN
  rintro e w3 ⟨cb, rfl, hc3, hb3⟩
  have HO3 : Hid (Own1 w _ cb ⟨want, (wn : Int) + 1, -1, []⟩ w3 ∧ ∀ k, (w2.heap.size ≤ k ∧ k < w3.heap.size) → k < w3.heap.size) := ⟨Own1.newer HB2.out hc3 hb3, fun k hk => hk.2⟩
  obtain ⟨S2, HO2⟩ : ∃ S, Hid (Own1 w S cb ⟨want, (wn : Int) + 1, -1, []⟩ w3 ∧ ∀ k, S k → k < w3.heap.size) := ⟨_, HO3.out⟩
  obtain ⟨w4, hmk, ho4, hb4⟩ := make_bool w3 m (by omega)
  obtain ⟨g, Hg⟩ : ∃ g, Hid (g = w3.heap.size) := ⟨_, rfl⟩
  rw [← Hg.out] at hmk ho4
  have HR3 : Hid (Ow w4 g 4 (.slice (some ⟨g, 0, none⟩) m m) ((List.replicate 0 true ++ List.replicate (m - 0) false).map bV)) := by
    simpa [bV, Hid] using ho4
  have HB3 : Hid (Below w3.heap.size w3 w4) := hb4
  clear hc3 hb3 ho4 hb4 HO3 HB2
  go_wp2
  clear hmk
  go_loopw [33] (fun i wr => ∃ k : Nat, k ≤ m ∧ i = .int .i64 k ∧ Hid (Ow wr g 4 (.slice (some ⟨g, 0, none⟩) m m) ((List.replicate k true ++ List.replicate (m - k) false).map bV)) ∧ Hid (Below w3.heap.size w3 wr)) (fun i _ => m - (intOf i).toNat)
  case atStart => exact ⟨0, Nat.zero_le _, rfl, HR3, HB3⟩
  case round =>
    clear HR3 HB3
    obtain ⟨k, hk, rfl, HRd, HB⟩ := hrel
    by_cases hlt : k < m
    · have HR2 : Hid (Ow (wr.setCell ⟨g, k, none⟩ (.bool true)) g 4 (.slice (some ⟨g, 0, none⟩) m m) ((List.replicate (k + 1) true ++ List.replicate (m - (k + 1)) false).map bV)) := by
        have := HRd.out.stored k (bV true)
        rw [← List.map_set, set_true hlt] at this
        exact this
      have HB2 : Hid (Below w3.heap.size w3 (wr.setCell ⟨g, k, none⟩ (.bool true))) := HB.out.setCell (by show w3.heap.size ≤ g; rw [Hg.out]; exact Nat.le_refl _) _
      have hat := HRd.out.at k (by simp; omega)
      obtain ⟨g', eg, hc, hf⟩ := hat
      simp only [Option.some.injEq, Addr.mk.injEq, and_true] at eg
      subst eg
      clear HRd HB
      go_wp2
      go_roundw
      case rel => exact ⟨k + 1, by omega, by go_num, HR2, HB2⟩
      case measure => simp [intOf]; omega
    · have HI : Hid (RdI w S2 cb ⟨want, (wn : Int) + 1, -1, []⟩ g ((List.replicate m true).map bV) wr) := by
        have hkm : k = m := by omega
        have hv := HRd.out
        rw [hkm] at hv
        refine ⟨HO2.out.1.more HB.out, ?_, fun h => ?_, ?_⟩
        · have := hv.v
          simpa using this
        · have := HO2.out.2 _ h; rw [Hg.out] at this; omega
        · exact (hv.lt g rfl).2
      clear HRd HB HO2 Hg
      go_wp2
      go_loopw [42] (fun i wr => ∃ (k : Nat) (S : Nat → Prop) (c : Ch), k ≤ wn ∧ i = .int .i64 k ∧ Hid (RdI w S cb c g ((List.replicate m true).map bV) wr) ∧ Hid (PI want k c ∧ Okc c k ∧ c.ages.length ≤ m)) (fun i _ => wn - (intOf i).toNat)
      case atStart => exact ⟨0, S2, _, Nat.zero_le _, rfl, HI, ⟨rfl, by rw [HL.out], by simp⟩, ⟨by show 1 ≤ (wn : Int) + 1; omega, by show (wn : Int) + 1 ≤ _; omega, by show (-1 : Int) ≤ -1; omega, by show (-1 : Int) ≤ _; omega, HR.out, by show want.length ≤ _; rw [HL.out]; omega, by simp⟩, by simp⟩
      case round =>
        clear HI
        obtain ⟨k, S, c, hk, rfl, HI, HT⟩ := hrel
        by_cases hlt : k < wn
        · have hkw : k < want.length := by rw [HL.out]; exact hlt
          obtain ⟨b, off, rfl, hc⟩ := (HW.out.below HI.out.own.below).int k hkw
          obtain ⟨p, Hp⟩ : ∃ p, Hid (p = want[k]'hkw) := ⟨want[k]'hkw, rfl⟩
          obtain ⟨hnx, htn⟩ := HT.out.1.next (n := m) h1' hkw
          have hpp := HR.out _ (List.getElem_mem hkw)
          rw [← Hp.out] at hc hnx hpp
          have HPl := fun W => place_calls p m W (by omega) (by omega) hpp.1 hpp.2
          obtain ⟨t, Ht⟩ : ∃ t, Hid (t = (p % (m : Int)).toNat) := ⟨_, rfl⟩
          rw [← Ht.out] at hnx HPl
          have HX : Hid ((nextP c (List.replicate m true)).2 = (t, true)) := hnx
          have HT2 : Hid (PI want (k + 1) (nextP c (List.replicate m true)).1 ∧ Okc (nextP c (List.replicate m true)).1 (k + 1) ∧ (nextP c (List.replicate m true)).1.ages.length ≤ m) := ⟨htn, HT.out.2.1.next _ (by simp; omega), okc_al (by simp)⟩
          have HB0 : Hid (Below wr.heap.size wr (wr.alloc (.cells #[] 4))) := below_alloc _ _
          have HPH : Hid (∀ W, Calls Try.prog 15 #[.int .i64 p, .int .i64 (m : Int)] W fun e w' => e = .returned (.int .i64 (t : Int)) ∧ w' = W) := HPl
          clear hnx htn Ht Hp HPl hpp hkw
          go_wp2_with (at_builtin; go_must (refine append_vs _ rfl (.tmp 49) (.tmp 50) 31 4 (.bool false) 1 Try.underlying31 info_bool rfl rfl wr.heap.size _ [] rfl (emptyB wr _) (some ⟨g, 0, none⟩) m m ((List.replicate m true).map bV) rfl (by simp) (by simp) (HI.out.rd.below HB0.out) (bV_one _) (by simp; omega) (by simp; omega) (by simp [World.size_alloc]) ?_))
          intro v5 w5 ho5 hg5 _
          have hb5 : Below wr.heap.size wr w5 := app_below HB0.out hg5 (fun j hj => by simp [Value.ownBlock] at hj; omega)
          obtain ⟨ao5, c5, rfl, hv5, hq5, -⟩ := ho5.shapeB (l := List.replicate m true) (n := m) (by simp) (by simp)
          have HI5 : Hid (RdI w S cb c g ((List.replicate m true).map bV) w5) := HI.out.more hb5
          have HXC := next_calls cb c k ao5 m c5 (List.replicate m true) w5 HI5.out.own.ch HT.out.2.1 (by omega) (by have := HT.out.2.2; omega) (by simp) (by omega) hv5 (fun a ea => by
            obtain ⟨q2, q3⟩ := hq5 a ea
            exact ⟨fun h => by have := HI.out.own.ch.sb _ h; omega, q3⟩)
          clear ho5 hg5 hb5 HB0 hv5 hq5
          go_wp2_with fail
          refine HXC.mono ?_
          clear HXC
          rintro e w6 ⟨he, hc6, hf6⟩
          rw [HX.out] at he
          subst he
          have HLf := left_calls cb _ w6 hc6
          rw [HT2.out.1.picks, drop_len HL.out] at HLf
          have HI6 : Hid (RdI w _ cb _ g ((List.replicate m true).map bV) w6) := HI5.out.next hc6 hf6
          have hq : ((t : Int) != (t : Int)) = false := by simp
          have HLH : Hid (Calls Try.prog 14 #[.pointer (some ⟨cb, 0, none⟩)] w6 fun e w' => e = .returned (.int .i64 ((wn - (k + 1) : Nat) : Int)) ∧ w' = w6) := HLf
          clear hc6 hf6 HI5 HI HLf
          go_wp2_with fail
          refine (HPH.out _).mono ?_
          rintro e w7 ⟨rfl, rfl⟩
          go_wp2_with fail
          refine HLH.out.mono ?_
          rintro e w8 ⟨rfl, rfl⟩
          have hq2 : (((wn - (k + 1) : Nat) : Int) != (wn : Int) - (k : Int) - 1) = false := by simp; omega
          go_wp2
          go_roundw
          case rel => exact ⟨k + 1, _, _, by omega, by go_num, HI6, HT2⟩
          case measure => simp [intOf]; omega
        · go_wp2
          go_ret
          exact ⟨rfl, HI.out.own.below⟩
end Go.Proofs.Yteckckohflnahaa
