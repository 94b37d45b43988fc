/- The walk of WatchFirst. -/
import Derived.Test.YtppkomnpcpmcmaaWFInv
namespace Go.Proofs.Ytppkomnpcpmcmaa
open Go.RowKit
set_option linter.unusedVariables false

/-- The numbers lie one behind the other at the address. -/
def IntsAt (w : World) (ao : Option Addr) (zs : List Int) : Prop :=
  ∀ i (h : i < zs.length), ∃ b off, ao = some ⟨b, off, none⟩ ∧ w.cell? ⟨b, off + i, none⟩ = some (.int .i64 zs[i])
theorem IntsAt.below {w w' : World} {ao : Option Addr} {zs : List Int} (h : IntsAt w ao zs) (hb : Below w.heap.size w w') : IntsAt w' ao zs := by
  intro i hi
  obtain ⟨b, off, ha, h0⟩ := h i hi
  have hl : b < w.heap.size := World.block_lt_of_cell? w _ h0
  exact ⟨b, off, ha, by rw [hb.cell (by exact hl)]; exact h0⟩

set_option maxRecDepth 100000 in
set_option maxHeartbeats 3200000 in
theorem first_walk (n : Int) (ao : Option Addr) (cap : Nat) (zs : List Int) (w : World) (hl : zs.length ≤ 9223372036854775807) (hp : IntsAt w ao zs) :
    Calls Try.prog 6 #[.int .i64 n, .slice ao zs.length cap] w fun e w' => e = .returned (.bool true) ∧ Below w.heap.size w w' := by
  have hnot : ∀ (x : Bool) (w : World), (Op.unary .not (.bool x)).run Try.prog w = .ok (.bool (!x)) w := fun _ _ => rfl
  by_cases hn : n < 0 ∨ 200 < n
  · rcases hn with hn | hn
    · go_enter Try.func6, Try.ntmps6
      go_wp2_with fail
      refine (alive_calls w).mono ?_
      rintro e w1 ⟨rfl, hb1⟩
      go_wp2
      go_ret
      exact ⟨rfl, hb1⟩
    · have hn0 : ¬ n < 0 := by omega
      go_enter Try.func6, Try.ntmps6
      go_wp2_with fail
      refine (alive_calls w).mono ?_
      rintro e w1 ⟨rfl, hb1⟩
      go_wp2
      go_ret
      exact ⟨rfl, hb1⟩
  have hn0 : ¬ n < 0 := by omega
  have hn1 : ¬ 200 < n := by omega
  obtain ⟨m, rfl⟩ : ∃ m : Nat, n = (m : Int) := ⟨n.toNat, by omega⟩
  clear hn
  go_enter Try.func6, Try.ntmps6
  go_wp2_with fail
  refine (alive_calls w).mono ?_
  rintro e w1 ⟨rfl, hb1⟩
  go_wp2_with fail
  refine (newSet_calls (m : Int) w1).mono ?_
  rintro e w2 ⟨rfl, hb2, hs2, hset⟩
  have hmax : max (m : Int) 0 = (m : Int) := by omega
  rw [hmax] at hset
  have hset := hset w.heap.size
  have HB2 : Hid (Below w.heap.size w w2) := hb1.trans (hb2.mono hb1.size)
  have HS2 : Hid (SAt w2 w.heap.size w1.heap.size (m : Int) (.slice none 0 0) []) := hset
  have HL : Hid (w.heap.size ≤ w1.heap.size) := hb1.size
  clear hset hmax hb1 hb2 hs2
  revert HS2 HL
  generalize w1.heap.size = sb
  intro HS2 HL
  go_wp2
  go_loopw [6, 7] (fun x i wr => ∃ (k : Nat) (wl : List (Nat × Nat)) (y : Value), y = x ∧ k ≤ m ∧ i = .int .i64 k ∧ Hid (wl.length = k) ∧ Hid (FInv w wr sb (m : Int) x wl fun _ => false)) (fun _ i _ => m - (intOf i).toNat)
  case atStart =>
    refine ⟨0, [], _, rfl, Nat.zero_le _, rfl, rfl, ?_⟩
    have hT : Touched [] w2 (w2.alloc (.cells #[] 31)) := (Touched.refl _ w2).alloc _
    refine ⟨HB2.out.alloc HB2.out.size _, HL.out, ?_, ⟨_, HS2.out.touched hT (by simp) (by simp), by simp [Value.ownBlock]⟩, by simp, by simp, by simp⟩
    exact World.ownsRow_lit w2 #[] 0 HB2.out.size (by unfold maxLen; omega) rfl
  case round =>
    obtain ⟨k, wl, x, rfl, hk, rfl, HWL, HF⟩ := hrel
    by_cases hlt : k < m
    · go_wp2_with fail
      refine (new_calls _).mono ?_
      rintro e w3 ⟨rfl, hb3, hs3, hw3⟩
      have HF3 := HF.out.later hb3
      have HBB : Hid (w.heap.size ≤ wr.heap.size) := HF.out.below.size
      have HNB : Hid (wr.heap.size + 1 ∉ wl.map (·.1)) := fun hm => by
        obtain ⟨c, hc⟩ := HF.out.held _ hm
        have := hc.ltb; omega
      have HNC : Hid (wr.heap.size ∉ wl.map (·.2)) := fun hm => by
        obtain ⟨p, hp, he⟩ := List.mem_map.1 hm
        have := (HF.out.wat p hp).1.ltc; omega
      obtain ⟨v, hv, hsep⟩ := HF3.set
      have hin : (wl.map (·.1)).any (wr.heap.size + 1 == ·) = false := by
        rw [List.any_eq_false]
        intro y hy e
        simp at e
        subst e
        exact HNB.out hy
      have HA := setAdd_room w.heap.size sb (wr.heap.size + 1) (m : Int) v (wl.map (·.1)) w3 hv (by have := HWL.out; simp; omega) HF3.below.size HF3.held' ⟨_, _, hw3⟩ hin (by have := HWL.out; simp; omega)
      have HV : Hid (SAt w3 w.heap.size sb (m : Int) v (wl.map (·.1))) := hv
      have HSEP : Hid (∀ k, x.ownBlock = some k → v.ownBlock ≠ some k) := hsep
      have HW3 : Hid (WAt w3 (wr.heap.size + 1) wr.heap.size false) := hw3
      have HF3' : Hid (FInv w w3 sb (m : Int) x wl fun _ => false) := HF3
      clear HF3 hv hsep hw3 hin hb3 hs3 hp HF
      go_wp2_with fail
      refine HA.mono ?_
      clear HA
      rintro e w4 ⟨rfl, v', hs4, ht4, hp4⟩
      have HX4 : OwnV w4 w.heap.size 31 x (ptrs (wl.map (·.1))) := HF3'.out.ptr.touched ht4 fun k hk => by
        have h1 := own_ne (HF3'.out.ptr.typed k hk) HV.out.blk (by decide)
        have h2 := HSEP.out k hk
        simp [h1, h2]
      have HS4 : Hid (SAt w4 w.heap.size sb (m : Int) v' (wl.map (·.1) ++ [wr.heap.size + 1])) := hs4
      have HT4 : Hid (Touched (sb :: v.ownBlock.toList) w3 w4) := ht4
      have HP4 : Hid (∀ k, v'.ownBlock = some k → v.ownBlock = some k ∨ w3.heap.size ≤ k) := hp4
      have hB4 : w.heap.size ≤ w4.heap.size := Nat.le_trans HF3'.out.below.size ht4.size
      clear hs4 ht4 hp4
      go_wp2_with (at_builtin; refine append_val _ rfl (.tmp 39) (.tmp 41) 24 31 (.pointer none) 8 Try.underlying24 infoPW rfl rfl w.heap.size x (ptrs (wl.map (·.1))) rfl (ptr (wr.heap.size + 1)) rfl _ rfl (by simp) HX4 (by have := HWL.out; rw [ptrs_length]; simp; omega) (by have := HWL.out; rw [ptrs_length]; simp; omega) hB4 ?_)
      intro x5 w5 ho5 hg5
      have HF5 : Hid (FInv w w5 sb (m : Int) x5 (wl ++ [(wr.heap.size + 1, wr.heap.size)]) fun _ => false) :=
        HF3'.out.put HV.out HSEP.out HW3.out rfl (by have := HBB.out; omega) HBB.out HNB.out HNC.out HS4.out HT4.out HP4.out ho5 hg5
      clear HX4 ho5 hg5 HF3' HV HSEP HW3 HBB HNB HNC HS4 HT4 HP4 hB4
      go_wp2
      go_roundw
      case rel => exact ⟨k + 1, _, _, rfl, by omega, by go_num, by have := HWL.out; show _ = _; simp; omega, HF5⟩
      case measure => simp [intOf]; omega
    · obtain ⟨v, hv, hsep⟩ := HF.out.set
      have hkm : k = m := by omega
      subst hkm
      go_wp2_with fail
      refine (new_calls _).mono ?_
      rintro e w3 ⟨rfl, hb3, hs3, hw3⟩
      have HF3 := HF.out.later hb3
      have HNB : wr.heap.size + 1 ∉ wl.map (·.1) := fun hm => by
        obtain ⟨c, hc⟩ := HF.out.held _ hm
        have := hc.ltb; omega
      obtain ⟨v, hv, hsep⟩ := HF3.set
      have hin : (wl.map (·.1)).any (wr.heap.size + 1 == ·) = false := by
        rw [List.any_eq_false]
        intro y hy e
        simp at e
        subst e
        exact HNB hy
      have hlen : (wl.map (·.1)).length = k := by rw [List.length_map]; exact HWL.out
      have HA := setAdd_full w.heap.size sb (wr.heap.size + 1) (k : Int) v (wl.map (·.1)) w3 hv (by omega) HF3.held' ⟨_, _, hw3⟩ hin (by omega)
      have HF3' : Hid (FInv w w3 sb (k : Int) x wl fun _ => false) := HF3
      clear HF3 hv hsep hw3 hin hb3 hs3 HF HNB
      go_wp2_with fail
      refine HA.mono ?_
      clear HA
      rintro e w4 ⟨rfl, hb4⟩
      have HF4 := HF3'.out.later hb4
      obtain ⟨v, hv, hsep⟩ := HF4.set
      have HLN := setLen_calls w.heap.size sb (k : Int) v (wl.map (·.1)) w4 hv
      rw [hlen] at HLN
      have HF4' : Hid (FInv w w4 sb (k : Int) x wl fun _ => false) := HF4
      have HLEN : Hid ((wl.map (·.1)).length = k) := hlen
      clear HF4 hv hsep hb4 HF3' hlen
      go_wp2_with fail
      refine HLN.mono ?_
      clear HLN
      rintro e w5 ⟨rfl, rfl⟩
      obtain ⟨w0, hw0⟩ : ∃ w0, w0 = wr := ⟨_, rfl⟩
      subst hw0
      obtain ⟨aox, capx, hsh⟩ := HF4'.out.ptr.shape
      rw [ptrs_length, HLEN.out] at hsh
      subst hsh
      go_wp2
      go_loopw [9, 54] (fun lv i wj => ∃ (j : Nat) (fz : Nat → Bool), j ≤ zs.length ∧ i = .int .i64 j ∧ lv = .int .i64 (posOf fz (wl.map (·.1))) ∧ Hid (FInv w wj sb (k : Int) (.slice aox k capx) wl fz)) (fun _ i _ => zs.length - (intOf i).toNat)
      case atStart => exact ⟨0, fun _ => false, Nat.zero_le _, rfl, by rw [posOf_none (fun _ _ => rfl)], HF4'⟩
      case round =>
        obtain ⟨j, fz, hj, rfl, rfl, HG⟩ := hrel
        clear HF4'
        by_cases hjl : j < zs.length
        · obtain ⟨b, off, rfl, hcell⟩ := (hp.below HG.out.below) j hjl
          revert hcell
          generalize zs[j] = z
          intro hcell
          by_cases hz0 : z < 0
          · obtain ⟨v, hv, hsep⟩ := HG.out.set
            have HFC := setFirst_calls w.heap.size sb (k : Int) v (wl.map (·.1)) fz _ hv (by have := HLEN.out; omega) HG.out.held
            clear hv hsep hp
            obtain ⟨q, hq⟩ : ∃ q, posOf fz (wl.map (·.1)) = q := ⟨_, rfl⟩
            rw [hq] at HFC ⊢
            have HQ : Hid (posOf fz (wl.map (·.1)) = q) := hq
            clear hq
            go_wp2_with fail
            refine HFC.mono ?_
            clear HFC
            rintro e w6 ⟨rfl, rfl⟩
            go_wp2
            go_roundw
            case rel => exact ⟨j + 1, fz, by omega, by go_num, by rw [HQ.out], HG⟩
            case measure => simp [intOf]; omega
          by_cases hzk : z < (k : Int)
          · obtain ⟨i, rfl⟩ : ∃ i : Nat, z = (i : Int) := ⟨z.toNat, by omega⟩
            have hik : i < k := by omega
            have hil : i < wl.length := by have := HLEN.out; rw [List.length_map] at this; omega
            obtain ⟨gx, hgx, hcx⟩ := HG.out.ptr.at i (by rw [ptrs_length, List.length_map]; exact hil)
            subst hgx
            have hcx' : wr.cell? ⟨gx, i, none⟩ = some (.pointer (some ⟨wl[i].1, 0, none⟩)) := by rw [hcx]; simp [ptrs, ptr]
            have HM : Hid (wl[i] ∈ wl) := List.getElem_mem hil
            have HWI : Hid (WAt wr wl[i].1 wl[i].2 (fz wl[i].1)) := (HG.out.wat _ HM.out).1
            clear hcx hp
            go_wp2_with fail
            refine (fire_calls _ _ _ _ HWI.out).mono ?_
            rintro e w6 ⟨rfl, ht6, hw6⟩
            have HG6 : Hid (FInv w w6 sb (k : Int) (.slice (some ⟨gx, 0, none⟩) k capx) wl (fun y => y == wl[i].1 || fz y)) := HG.out.fire HM.out ht6 hw6
            have HPF := pos_fire (fz := fz) HG.out.nod i (by rw [List.length_map]; exact hil)
            simp only [List.getElem_map] at HPF
            obtain ⟨v, hv, hsep⟩ := HG6.out.set
            have HFC := setFirst_calls w.heap.size sb (k : Int) v (wl.map (·.1)) _ _ hv (by have := HLEN.out; omega) HG6.out.held
            rw [HPF] at HFC
            have HPF' : Hid (_ = _) := HPF
            clear hv hsep ht6 hw6 HWI HM HG hcx' hcell HPF
            revert HFC HPF'
            generalize posOf fz (wl.map (·.1)) = q
            intro HFC HPF'
            by_cases hq0 : q < 0
            · rw [if_pos (.inl hq0)] at HFC
              have HQ : Hid (posOf (fun y => y == wl[i].1 || fz y) (wl.map (·.1)) = (i : Int)) := by have := HPF'.out; rw [if_pos (.inl hq0)] at this; exact this
              clear HPF'
              go_wp2_with fail
              refine HFC.mono ?_
              clear HFC
              rintro e w7 ⟨rfl, rfl⟩
              go_wp2
              go_roundw
              case rel => exact ⟨j + 1, _, by omega, by go_num, by rw [HQ.out], HG6⟩
              case measure => simp [intOf]; omega
            by_cases hq1 : (i : Int) < q
            · rw [if_pos (.inr hq1)] at HFC
              have HQ : Hid (posOf (fun y => y == wl[i].1 || fz y) (wl.map (·.1)) = (i : Int)) := by have := HPF'.out; rw [if_pos (.inr hq1)] at this; exact this
              clear HPF'
              go_wp2_with fail
              refine HFC.mono ?_
              clear HFC
              rintro e w7 ⟨rfl, rfl⟩
              go_wp2
              go_roundw
              case rel => exact ⟨j + 1, _, by omega, by go_num, by rw [HQ.out], HG6⟩
              case measure => simp [intOf]; omega
            · rw [if_neg (by omega)] at HFC
              have HQ : Hid (posOf (fun y => y == wl[i].1 || fz y) (wl.map (·.1)) = q) := by have := HPF'.out; rw [if_neg (by omega)] at this; exact this
              clear HPF'
              go_wp2_with fail
              refine HFC.mono ?_
              clear HFC
              rintro e w7 ⟨rfl, rfl⟩
              go_wp2
              go_roundw
              case rel => exact ⟨j + 1, _, by omega, by go_num, by rw [HQ.out], HG6⟩
              case measure => simp [intOf]; omega
          · obtain ⟨v, hv, hsep⟩ := HG.out.set
            have HFC := setFirst_calls w.heap.size sb (k : Int) v (wl.map (·.1)) fz _ hv (by have := HLEN.out; omega) HG.out.held
            clear hv hsep hp
            obtain ⟨q, hq⟩ : ∃ q, posOf fz (wl.map (·.1)) = q := ⟨_, rfl⟩
            rw [hq] at HFC ⊢
            have HQ : Hid (posOf fz (wl.map (·.1)) = q) := hq
            clear hq
            go_wp2_with fail
            refine HFC.mono ?_
            clear HFC
            rintro e w6 ⟨rfl, rfl⟩
            go_wp2
            go_roundw
            case rel => exact ⟨j + 1, fz, by omega, by go_num, by rw [HQ.out], HG⟩
            case measure => simp [intOf]; omega
        · go_wp2
          go_ret
          exact ⟨rfl, HG.out.below⟩
end Go.Proofs.Ytppkomnpcpmcmaa
