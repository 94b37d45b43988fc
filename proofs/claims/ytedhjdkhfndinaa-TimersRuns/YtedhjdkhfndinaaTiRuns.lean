/- Layer 14 (timers): TimersRuns (by gen_tiruns.py). -/
import Derived.Test.YtedhjdkhfndinaaTiLaw3
namespace Go.Proofs.Ytedhjdkhfndinaa
open Go.RowKit Go.MapKept
set_option linter.unusedVariables false

/-- A script that lies at an address. -/
def SOps (w : World) (ao : Option Addr) (l : List (Int × Int × Int)) : Prop := ∀ k (h : k < l.length), ∃ b off, ao = some ⟨b, off, none⟩ ∧ w.cell? ⟨b, off + k * 3, none⟩ = some (.int .i64 l[k].1) ∧ w.cell? ⟨b, off + k * 3 + 1, none⟩ = some (.int .i64 l[k].2.1) ∧ w.cell? ⟨b, off + k * 3 + 2, none⟩ = some (.int .u64 l[k].2.2)
theorem cell_lt {w : World} {a : Addr} {v : Value} (h : w.cell? a = some v) : a.block < w.heap.size := by
  unfold World.cell? at h
  split at h
  · rename_i hq; exact lt_of_heapT hq
  · cases h
theorem SOps.below {w w' : World} {ao : Option Addr} {l : List (Int × Int × Int)} (h : SOps w ao l) (hb : Below w.heap.size w w') : SOps w' ao l := fun k hk => by
  obtain ⟨b, off, e, c0, c1, c2⟩ := h k hk
  exact ⟨b, off, e, (hb.cell (cell_lt c0)).trans c0, (hb.cell (cell_lt c1)).trans c1, (hb.cell (cell_lt c2)).trans c2⟩
/-- The state before step k, whatever it holds. -/
def RunE (W : World) (mo : Int) (wb mb mB k : Nat) (told want : Value) (wr : World) : Prop := ∃ S v vi va L D now sets TW, RunI W mo wb mb mB k told want S v vi va L D now sets TW wr

set_option maxRecDepth 100000 in
set_option maxHeartbeats 4000000 in
theorem timersRuns_calls (most : Int) (ao : Option Addr) (cap : Nat) (l : List (Int × Int × Int)) (w : World) (hs : SOps w ao l) (hr : ∀ x ∈ l, 0 ≤ x.2.2 ∧ x.2.2 ≤ 18446744073709551615) (hn : l.length * 24 ≤ 140737488351232) (hm1 : -9223372036854775808 ≤ most) (hm2 : most ≤ 9223372036854775807) :
    Calls Try.prog 4 #[.int .i64 most, .slice ao l.length cap] w fun e w' => e = .returned (.bool true) ∧ Below w.heap.size w w' := by
  obtain ⟨n, Hn⟩ : ∃ n, Hid (n = l.length) := ⟨_, rfl⟩
  have HS : Hid (SOps w ao l) := hs
  have HR : Hid (∀ x ∈ l, 0 ≤ x.2.2 ∧ x.2.2 ≤ 18446744073709551615) := hr
  rw [← Hn.out] at hn ⊢
  have HA := alive_calls w
  clear hs hr
  go_enter Try.func4, Try.ntmps4
  go_wp2_with fail
  refine HA.mono ?_
  clear HA
  rintro e w1 ⟨rfl, hb1⟩
  have HN := new_calls most w1
  obtain ⟨mo, Hmo⟩ : ∃ mo, Hid (mo = max most 0) := ⟨_, rfl⟩
  rw [← Hmo.out] at HN
  go_wp2_with fail
  refine HN.mono ?_
  clear HN
  rintro e w2 ⟨wb, mb, rfl, hW2, hb2⟩
  have HNr := rnew_calls most w2
  rw [← Hmo.out] at HNr
  go_wp2_with fail
  refine HNr.mono ?_
  clear HNr
  rintro e w3 ⟨rfl, hb3⟩
  unfold refV
  obtain ⟨mB, HmB⟩ : ∃ mB, Hid (mB = w3.heap.size) := ⟨_, rfl⟩
  obtain ⟨w4, HW4⟩ : ∃ w4, Hid (w4 = w3.alloc (.cells #[.int .u64 0, .int .i64 mo, .slice none 0 0, .slice none 0 0] 30)) := ⟨_, rfl⟩
  have HR4 : Hid (RunE w mo wb mb mB 0 (.slice none 0 0) (.slice none 0 0) w4) := by
    have hb34 : Below w3.heap.size w3 w4 := by rw [HW4.out]; exact (Below.refl _ _).alloc (Nat.le_refl _) _
    have h12 : w.heap.size ≤ w1.heap.size := hb1.size
    have h23 : w1.heap.size ≤ w2.heap.size := hb2.size
    have h34 : w2.heap.size ≤ w3.heap.size := hb3.size
    refine ⟨_, _, .slice none 0 0, .slice none 0 0, [], [], 0, 0, [], ⟨(hW2.below hb3).below hb34, ⟨?_, World.ownsRow_nil _ _ _ _, World.ownsRow_nil _ _ _ _, World.ownsRow_nil _ _ _ _, World.ownsRow_nil _ _ _ _, fun p hp => (by cases hp), ?_, ?_, fun q hq => (by cases hq), fun q hq => (by cases hq), fun q hq => (by cases hq), fun q hq => (by cases hq), fun p hp => (by cases hp), fun q hq => (by cases hq)⟩, ?_, fun q hq => Nat.le_trans h12 hq.1, .refl _, .nil, fun x hx => (by cases hx), ⟨Int.le_refl _, Int.le_refl _⟩, ⟨by omega, by omega⟩, Nat.le_refl _, Nat.le_refl _, fun p hp => (by cases hp)⟩⟩
    · rw [HW4.out, HmB.out]; exact heap_alloc_new _ _
    · rw [HmB.out]; omega
    · rw [HmB.out]; rintro ⟨_, h⟩; omega
    · exact ((hb1.trans (hb2.mono h12)).trans (hb3.mono (by omega))).trans (hb34.mono (by omega))
  have HBW : Hid (w.heap.size ≤ w4.heap.size) := by
    obtain ⟨_, _, _, _, _, _, _, _, _, h⟩ := HR4.out
    exact h.bl.size
  clear hW2 hb1 hb2 hb3
  go_upto_region 9 with fail
  rw [← HW4.out, ← HmB.out]
  go_loopw [7, 8, 10, 11, 12, 13, 14, 15, 16, 17, 18, 19, 20, 21, 22, 23, 24, 36] (fun told want _ _ _ _ _ _ _ _ _ _ _ _ _ _ _ i wr => ∃ k : Nat, k ≤ n ∧ i = .int .i64 (k : Int) ∧ Hid (RunE w mo wb mb mB k told want wr)) (fun _ _ _ _ _ _ _ _ _ _ _ _ _ _ _ _ _ i _ => n - (intOf i).toNat)
  case atStart => exact ⟨0, Nat.zero_le _, rfl, HR4⟩
  case round =>
    clear HR4
    obtain ⟨k, hk, rfl, HE⟩ := hrel
    obtain ⟨S, v, vi, va, L, D, now, sets, TW, hRun⟩ := HE.out
    have HRun : Hid (RunI w mo wb mb mB k u7 u8 S v vi va L D now sets TW wr) := hRun
    clear HE hRun
    by_cases hlt : k < n
    · have k1 : k < l.length := by rw [← Hn.out]; exact hlt
      obtain ⟨sb, so, rfl, s0, s1, s2⟩ := (HS.out.below HRun.out.bl) k k1
      obtain ⟨kd, id, at', hop⟩ : ∃ kd id at', l[k] = (kd, id, at') := ⟨_, _, _, rfl⟩
      have HAT : Hid (0 ≤ at' ∧ at' ≤ 18446744073709551615) := by
        have := HR.out l[k] (List.getElem_mem k1)
        rw [hop] at this
        exact this
      rw [hop] at s0 s1 s2
      dsimp only at s0 s1 s2
      obtain ⟨ob, Hob⟩ : ∃ ob, Hid (ob = wr.heap.size) := ⟨_, rfl⟩
      obtain ⟨wA, HWA⟩ : ∃ wA, Hid (wA = wr.alloc (.cells #[.int .i64 kd, .int .i64 id, .int .u64 at'] 34)) := ⟨_, rfl⟩
      have hbA : Below wr.heap.size wr wA := by rw [HWA.out]; exact (Below.refl _ _).alloc (Nat.le_refl _) _
      have HRA : Hid (RunI w mo wb mb mB k u7 u8 S v vi va L D now sets TW wA) := HRun.out.below hbA
      have HOA : Hid (wA.heap[ob]? = some (.cells #[.int .i64 kd, .int .i64 id, .int .u64 at'] 34)) := by rw [HWA.out, Hob.out]; exact heap_alloc_new _ _
      have HSZ : Hid (D.length ≤ k ∧ TW.length ≤ k ∧ L.length = D.length ∧ 0 ≤ sets ∧ sets ≤ (k : Int) ∧ 0 ≤ now ∧ now ≤ 18446744073709551615) := ⟨HRA.out.len, HRA.out.twl, HRA.out.lenL, HRA.out.s0.1, HRA.out.s0.2, HRA.out.n0.1, HRA.out.n0.2⟩
      have hDk : D.length ≤ k := HSZ.out.1
      have hTk : TW.length ≤ k := HSZ.out.2.1
      have hLD : L.length = D.length := HSZ.out.2.2.1
      obtain ⟨ai, ci, hvi, _, _, _⟩ := HRA.out.law.I.shape
      obtain ⟨aa, ca, hva, _, _, _⟩ := HRA.out.law.A.shape
      rw [List.length_map] at hvi hva
      obtain ⟨ta, tc, ht7⟩ := ownsRow_len HRA.out.law.T
      obtain ⟨na, nc, ht8⟩ := ownsRow_len HRA.out.law.N
      rw [List.length_map] at ht7 ht8
      obtain ⟨dl, Hdl⟩ : ∃ dl, Hid (dl = D.length) := ⟨_, rfl⟩
      obtain ⟨tl, Htl⟩ : ∃ tl, Hid (tl = TW.length) := ⟨_, rfl⟩
      rw [← Hdl.out] at hvi hva
      rw [← Htl.out] at ht7 ht8
      subst hvi hva ht7 ht8
      clear HRun hbA
      go_upto_region 11 with fail
      rw [← HWA.out, ← Hob.out]
      clear s0 s1 s2
      have o0 : wA.cell? ⟨ob, 0, none⟩ = some (.int .i64 kd) := by rw [cell_blkT HOA.out]; rfl
      have o1 : wA.cell? ⟨ob, 1, none⟩ = some (.int .i64 id) := by rw [cell_blkT HOA.out]; rfl
      have o2 : wA.cell? ⟨ob, 2, none⟩ = some (.int .u64 at') := by rw [cell_blkT HOA.out]; rfl
      have m0 : wA.cell? ⟨mB, 0, none⟩ = some (.int .u64 now) := by rw [cell_blkT HRA.out.law.blk]; rfl
      have m1 : wA.cell? ⟨mB, 1, none⟩ = some (.int .i64 mo) := by rw [cell_blkT HRA.out.law.blk]; rfl
      have m2 : wA.cell? ⟨mB, 2, none⟩ = some (.slice ai dl ci) := by rw [cell_blkT HRA.out.law.blk]; rfl
      have m3 : wA.cell? ⟨mB, 3, none⟩ = some (.slice aa dl ca) := by rw [cell_blkT HRA.out.law.blk]; rfl
      by_cases h0 : kd = 0
      · subst h0
        have HDs := rset_calls now mo (.slice ai dl ci) (.slice aa dl ca) (D.map (·.id)) (D.map (·.tm)) id at' wA (by rw [List.length_map]; omega) (by rw [List.length_map, List.length_map]) HRA.out.law.I HRA.out.law.A
        unfold refV at HDs
        go_wp2_with fail
        refine HDs.mono ?_
        clear HDs m0 m1 m2 m3 o0 o1 o2
        rintro e w5 ⟨vi5, va5, li5, la5, er, rfl, hI5, hA5, hb5, hcase⟩
        unfold refV
        rcases hcase with ⟨rfl, c1, c2, rfl, rfl, c3, c4⟩ | ⟨rfl, c1, rfl, rfl, rfl, rfl⟩ | ⟨rfl, c1, c2, rfl, rfl, rfl, rfl⟩
        · have hI5' : RowI w5 vi5 ((D ++ [(⟨id, at', sets + 1, 0⟩ : Tm)]).map (·.id)) := by rw [List.map_append]; exact hI5
          have hA5' : RowU w5 va5 ((D ++ [(⟨id, at', sets + 1, 0⟩ : Tm)]).map (·.tm)) := by rw [List.map_append]; exact hA5
          obtain ⟨a5, c5, hv5⟩ := ownsRow_len hI5'
          obtain ⟨b5, e5, hu5⟩ := ownsRow_len hA5'
          obtain ⟨dl5, Hdl5⟩ : ∃ dl5, Hid (dl5 = (D ++ [(⟨id, at', sets + 1, 0⟩ : Tm)]).length) := ⟨_, rfl⟩
          rw [List.length_map, List.length_map, ← Hdl5.out] at hv5 hu5
          subst hv5 hu5
          have hD := HRA.out.doc (nb := .cells #[.int .u64 (now), .int .i64 mo, .slice a5 dl5 c5, .slice b5 dl5 e5] 30) (D' := D ++ [(⟨id, at', sets + 1, 0⟩ : Tm)]) hb5 hI5' hA5' (fun q hq => .inr (c3 q hq)) (fun q hq => .inr (c4 q hq)) (now)
          unfold st4 at hD
          obtain ⟨w7, HW7⟩ : ∃ w7, Hid (w7 = ((((w5.alloc (.cells #[.int .u64 (now), .int .i64 mo, .slice a5 dl5 c5, .slice b5 dl5 e5] 30)).setCell ⟨mB, 0, none⟩ (.int .u64 (now))).setCell ⟨mB, 1, none⟩ (.int .i64 mo)).setCell ⟨mB, 2, none⟩ (.slice a5 dl5 c5)).setCell ⟨mB, 3, none⟩ (.slice b5 dl5 e5)) := ⟨_, rfl⟩
          rw [← HW7.out] at hD
          have HD7 : Hid (WhAt w7 S wb mb mo now sets v L ∧ LawP w S mB mo (now) (.slice a5 dl5 c5) (.slice b5 dl5 e5) (.slice ta tl tc) (.slice na tl nc) (D ++ [(⟨id, at', sets + 1, 0⟩ : Tm)]) TW w7 ∧ Below w.heap.size w w7) := hD
          have hm5 : (w5.alloc (.cells #[.int .u64 (now), .int .i64 mo, .slice a5 dl5 c5, .slice b5 dl5 e5] 30)).heap[mB]? = some (.cells #[.int .u64 now, .int .i64 mo, .slice ai dl ci, .slice aa dl ca] 30) := (Below.heap_alloc _ _ _ (lt_of_heapT ((hb5.block _ (lt_of_heapT HRA.out.law.blk)).trans HRA.out.law.blk))).trans ((hb5.block _ (lt_of_heapT HRA.out.law.blk)).trans HRA.out.law.blk)
          have ho5 : (w5.alloc (.cells #[.int .u64 (now), .int .i64 mo, .slice a5 dl5 c5, .slice b5 dl5 e5] 30)).heap[ob]? = some (.cells #[.int .i64 0, .int .i64 id, .int .u64 at'] 34) := (Below.heap_alloc _ _ _ (lt_of_heapT ((hb5.block _ (lt_of_heapT HOA.out)).trans HOA.out))).trans ((hb5.block _ (lt_of_heapT HOA.out)).trans HOA.out)
          have HO7 : Hid (w7.heap[ob]? = some (.cells #[.int .i64 0, .int .i64 id, .int .u64 at'] 34)) := by
            rw [HW7.out]
            exact (st4_other _ _ _ _ _ _ (ne_ty ⟨_, ho5⟩ hm5 (by decide))).trans ho5
          have x0 : (w5.alloc (.cells #[.int .u64 (now), .int .i64 mo, .slice a5 dl5 c5, .slice b5 dl5 e5] 30)).cell? ⟨mB, 0, none⟩ = some (.int .u64 now) := by rw [cell_blkT hm5]; rfl
          have x1 : (w5.alloc (.cells #[.int .u64 (now), .int .i64 mo, .slice a5 dl5 c5, .slice b5 dl5 e5] 30)).cell? ⟨mB, 1, none⟩ = some (.int .i64 mo) := by rw [cell_blkT hm5]; rfl
          have x2 : (w5.alloc (.cells #[.int .u64 (now), .int .i64 mo, .slice a5 dl5 c5, .slice b5 dl5 e5] 30)).cell? ⟨mB, 2, none⟩ = some (.slice ai dl ci) := by rw [cell_blkT hm5]; rfl
          have x3 : (w5.alloc (.cells #[.int .u64 (now), .int .i64 mo, .slice a5 dl5 c5, .slice b5 dl5 e5] 30)).cell? ⟨mB, 3, none⟩ = some (.slice aa dl ca) := by rw [cell_blkT hm5]; rfl
          have xf : ∀ q, (w5.alloc (.cells #[.int .u64 (now), .int .i64 mo, .slice a5 dl5 c5, .slice b5 dl5 e5] 30)).frozen? ⟨mB, q, none⟩ = false := fun q => frozen_blkT hm5
          clear hD hm5 ho5 hb5
          go_upto_region 15 with fail
          rw [← HW7.out]
          clear x0 x1 x2 x3 xf
          have o1 : w7.cell? ⟨ob, 1, none⟩ = some (.int .i64 id) := by rw [cell_blkT HO7.out]; rfl
          have o2 : w7.cell? ⟨ob, 2, none⟩ = some (.int .u64 at') := by rw [cell_blkT HO7.out]; rfl
          have hnoL : ∀ x ∈ L, x.id ≠ id := fun x hx e => c1 ((HRA.out.mem id).1 ⟨x, hx, e⟩)
          have hsl := HSZ.out.2.2.2.2.1
          have HSp := set_ok w7 id at' HD7.out.1 hnoL (by rw [hLD]; rw [List.length_map] at c2; exact c2) HSZ.out.2.2.2.1 (by omega) (by rw [hLD]; omega)
          go_wp2_with fail
          refine HSp.mono ?_
          clear HSp o1 o2
          rintro e w8 ⟨v8, L8, b8, S8, rfl, hW8, hp8, hf8, hs8⟩
          have HNX : Hid (RunI w mo wb mb mB (k + 1) (.slice ta tl tc) (.slice na tl nc) S8 v8 (.slice a5 dl5 c5) (.slice b5 dl5 e5) L8 (D ++ [(⟨id, at', sets + 1, 0⟩ : Tm)]) now (sets + 1) TW w8) := by
            refine ⟨hW8, HD7.out.2.1.frm hf8 (fun q hq => ?_), HD7.out.2.2.trans (hf8.toBelow HD7.out.2.2.size HRA.out.nS), fun q hq => ?_, ?_, HRA.out.rise.snoc (fun y hy => ?_), fun x hx => ?_, ⟨by have := HSZ.out.2.2.2.1; omega, by omega⟩, HRA.out.n0, by simp; omega, by omega, fun p hp => Nat.le_succ_of_le (HRA.out.twn p hp)⟩
            · rcases hs8 q hq with h | h
              · exact .inl h
              · exact .inr h.1
            · rcases hs8 q hq with h | h
              · exact HRA.out.nS q h
              · exact Nat.le_trans HD7.out.2.2.size h.1
            · refine (hp8.map z0).trans ?_
              rw [List.map_append]
              exact HRA.out.rel.append_right _
            · have := HRA.out.turn y hy
              show y.turn < sets + 1
              omega
            · rcases List.mem_append.1 hx with hx | hx
              · have := HRA.out.turn x hx; omega
              · rw [List.mem_singleton.1 hx]; exact Int.le_refl _
          clear HD7 hnoL c1 c2 c3 c4 hW8 hp8 hf8 hs8
          obtain ⟨nx, Hnx⟩ : ∃ nx, Hid (nx = nextOf L8) := ⟨_, rfl⟩
          have HNx := wnext_calls w8 HNX.out.wh
          rw [← Hnx.out] at HNx
          have hD8 : (D ++ [(⟨id, at', sets + 1, 0⟩ : Tm)]).length ≤ k + 1 := HNX.out.len
          have HRn := rnext_calls now mo (.slice a5 dl5 c5) (.slice b5 dl5 e5) ((D ++ [(⟨id, at', sets + 1, 0⟩ : Tm)]).map (·.tm)) w8 (by rw [List.length_map]; omega) HNX.out.law.A ⟨_, _, _, rfl⟩
          unfold refV at HRn
          have z0' : w8.cell? ⟨mB, 0, none⟩ = some (.int .u64 (now)) := by rw [cell_blkT HNX.out.law.blk]; rfl
          have z1' : w8.cell? ⟨mB, 1, none⟩ = some (.int .i64 mo) := by rw [cell_blkT HNX.out.law.blk]; rfl
          have z2' : w8.cell? ⟨mB, 2, none⟩ = some (.slice a5 dl5 c5) := by rw [cell_blkT HNX.out.law.blk]; rfl
          have z3' : w8.cell? ⟨mB, 3, none⟩ = some (.slice b5 dl5 e5) := by rw [cell_blkT HNX.out.law.blk]; rfl
          obtain ⟨nx1, nx2⟩ := nx
          go_wp2_with fail
          refine HNx.mono ?_
          clear HNx
          rintro e wx ⟨rfl, rfl⟩
          go_wp2_with fail
          refine HRn.mono ?_
          clear HRn z0' z1' z2' z3'
          rintro e w9 ⟨i9, hL9, rfl, hb9⟩
          rw [List.length_map] at hL9
          rw [HNX.out.next hL9, ← Hnx.out]
          have HNY : Hid (RunI w mo wb mb mB (k + 1) (.slice ta tl tc) (.slice na tl nc) S8 v8 (.slice a5 dl5 c5) (.slice b5 dl5 e5) L8 ((D ++ [(⟨id, at', sets + 1, 0⟩ : Tm)])) (now) ((sets + 1)) (TW) w9) := HNX.out.below hb9
          clear hL9 hb9 HNX
          have y0 : w9.cell? ⟨mB, 0, none⟩ = some (.int .u64 (now)) := by rw [cell_blkT HNY.out.law.blk]; rfl
          have y2 : w9.cell? ⟨mB, 2, none⟩ = some (.slice a5 dl5 c5) := by rw [cell_blkT HNY.out.law.blk]; rfl
          have HNow : Hid (∀ q, Calls Try.prog 20 #[.pointer (some ⟨wb, 0, none⟩)] (w9.drewN q) fun e w' => e = .returned (.int .u64 (now)) ∧ w' = w9.drewN q) := fun q => wnow_calls _ (HNY.out.wh.draws q)
          have HLen : Hid (∀ q, Calls Try.prog 21 #[.pointer (some ⟨wb, 0, none⟩)] (w9.drewN q) fun e w' => e = .returned (.int .i64 (dl5 : Int)) ∧ w' = w9.drewN q) := fun q => by
            have := wlen_calls _ (HNY.out.wh.draws q)
            rw [HNY.out.lenL] at this
            rw [← Hdl5.out] at this
            exact this
          have hq1 : ((now) != (now)) = false := by simp
          have hq2 : (((dl5 : Nat) : Int) != ((dl5 : Nat) : Int)) = false := by simp
          have hq3 : (nx1 != nx1) = false := by simp
          have hq4 : (nx2 != nx2) = false := by simp
          go_wp2_with fail
          go_quiet ((first | (go_at_call 20; exact Calls.quiet_of_same (HNow.out _)) | (go_at_call 21; exact Calls.quiet_of_same (HLen.out _))))
          have HNZ : Hid (RunE w mo wb mb mB (k + 1) (.slice ta tl tc) (.slice na tl nc) (w9.drewN nq)) := ⟨_, _, _, _, _, _, _, _, _, HNY.out.below (below_drawsT w9 nq)⟩
          clear HNow HLen HNY
          go_wp2
          go_roundw
          case rel => exact ⟨k + 1, by omega, by go_num, HNZ⟩
          case measure => simp [intOf]; omega
        · have hD := HRA.out.doc (nb := .cells #[.int .u64 (now), .int .i64 mo, .slice ai dl ci, .slice aa dl ca] 30) (D' := D) hb5 hI5 hA5 (fun q hq => .inl hq) (fun q hq => .inl hq) (now)
          unfold st4 at hD
          obtain ⟨w7, HW7⟩ : ∃ w7, Hid (w7 = ((((w5.alloc (.cells #[.int .u64 (now), .int .i64 mo, .slice ai dl ci, .slice aa dl ca] 30)).setCell ⟨mB, 0, none⟩ (.int .u64 (now))).setCell ⟨mB, 1, none⟩ (.int .i64 mo)).setCell ⟨mB, 2, none⟩ (.slice ai dl ci)).setCell ⟨mB, 3, none⟩ (.slice aa dl ca)) := ⟨_, rfl⟩
          rw [← HW7.out] at hD
          have HD7 : Hid (WhAt w7 S wb mb mo now sets v L ∧ LawP w S mB mo (now) (.slice ai dl ci) (.slice aa dl ca) (.slice ta tl tc) (.slice na tl nc) (D) TW w7 ∧ Below w.heap.size w w7) := hD
          have hm5 : (w5.alloc (.cells #[.int .u64 (now), .int .i64 mo, .slice ai dl ci, .slice aa dl ca] 30)).heap[mB]? = some (.cells #[.int .u64 now, .int .i64 mo, .slice ai dl ci, .slice aa dl ca] 30) := (Below.heap_alloc _ _ _ (lt_of_heapT ((hb5.block _ (lt_of_heapT HRA.out.law.blk)).trans HRA.out.law.blk))).trans ((hb5.block _ (lt_of_heapT HRA.out.law.blk)).trans HRA.out.law.blk)
          have ho5 : (w5.alloc (.cells #[.int .u64 (now), .int .i64 mo, .slice ai dl ci, .slice aa dl ca] 30)).heap[ob]? = some (.cells #[.int .i64 0, .int .i64 id, .int .u64 at'] 34) := (Below.heap_alloc _ _ _ (lt_of_heapT ((hb5.block _ (lt_of_heapT HOA.out)).trans HOA.out))).trans ((hb5.block _ (lt_of_heapT HOA.out)).trans HOA.out)
          have HO7 : Hid (w7.heap[ob]? = some (.cells #[.int .i64 0, .int .i64 id, .int .u64 at'] 34)) := by
            rw [HW7.out]
            exact (st4_other _ _ _ _ _ _ (ne_ty ⟨_, ho5⟩ hm5 (by decide))).trans ho5
          have x0 : (w5.alloc (.cells #[.int .u64 (now), .int .i64 mo, .slice ai dl ci, .slice aa dl ca] 30)).cell? ⟨mB, 0, none⟩ = some (.int .u64 now) := by rw [cell_blkT hm5]; rfl
          have x1 : (w5.alloc (.cells #[.int .u64 (now), .int .i64 mo, .slice ai dl ci, .slice aa dl ca] 30)).cell? ⟨mB, 1, none⟩ = some (.int .i64 mo) := by rw [cell_blkT hm5]; rfl
          have x2 : (w5.alloc (.cells #[.int .u64 (now), .int .i64 mo, .slice ai dl ci, .slice aa dl ca] 30)).cell? ⟨mB, 2, none⟩ = some (.slice ai dl ci) := by rw [cell_blkT hm5]; rfl
          have x3 : (w5.alloc (.cells #[.int .u64 (now), .int .i64 mo, .slice ai dl ci, .slice aa dl ca] 30)).cell? ⟨mB, 3, none⟩ = some (.slice aa dl ca) := by rw [cell_blkT hm5]; rfl
          have xf : ∀ q, (w5.alloc (.cells #[.int .u64 (now), .int .i64 mo, .slice ai dl ci, .slice aa dl ca] 30)).frozen? ⟨mB, q, none⟩ = false := fun q => frozen_blkT hm5
          clear hD hm5 ho5 hb5
          go_upto_region 15 with fail
          rw [← HW7.out]
          clear x0 x1 x2 x3 xf
          have o1 : w7.cell? ⟨ob, 1, none⟩ = some (.int .i64 id) := by rw [cell_blkT HO7.out]; rfl
          have o2 : w7.cell? ⟨ob, 2, none⟩ = some (.int .u64 at') := by rw [cell_blkT HO7.out]; rfl
          obtain ⟨xL, hxL, hxi⟩ := (HRA.out.mem id).2 c1
          have HSp := set_twice w7 id at' HD7.out.1 xL hxL hxi
          go_wp2_with fail
          refine HSp.mono ?_
          clear HSp o1 o2
          rintro e w8 ⟨rfl, rfl⟩
          have HNX : Hid (RunI w mo wb mb mB (k + 1) (.slice ta tl tc) (.slice na tl nc) S v (.slice ai dl ci) (.slice aa dl ca) L D now sets TW w8) := ⟨HD7.out.1, HD7.out.2.1, HD7.out.2.2, HRA.out.nS, HRA.out.rel, HRA.out.rise, HRA.out.turn, ⟨HSZ.out.2.2.2.1, by have := HSZ.out.2.2.2.2.1; omega⟩, HRA.out.n0, by omega, by omega, fun p hp => Nat.le_succ_of_le (HRA.out.twn p hp)⟩
          clear HD7 hxL hxi c1
          obtain ⟨nx, Hnx⟩ : ∃ nx, Hid (nx = nextOf L) := ⟨_, rfl⟩
          have HNx := wnext_calls w8 HNX.out.wh
          rw [← Hnx.out] at HNx
          have hD8 : D.length ≤ k + 1 := HNX.out.len
          have HRn := rnext_calls now mo (.slice ai dl ci) (.slice aa dl ca) (D.map (·.tm)) w8 (by rw [List.length_map]; omega) HNX.out.law.A ⟨_, _, _, rfl⟩
          unfold refV at HRn
          have z0' : w8.cell? ⟨mB, 0, none⟩ = some (.int .u64 (now)) := by rw [cell_blkT HNX.out.law.blk]; rfl
          have z1' : w8.cell? ⟨mB, 1, none⟩ = some (.int .i64 mo) := by rw [cell_blkT HNX.out.law.blk]; rfl
          have z2' : w8.cell? ⟨mB, 2, none⟩ = some (.slice ai dl ci) := by rw [cell_blkT HNX.out.law.blk]; rfl
          have z3' : w8.cell? ⟨mB, 3, none⟩ = some (.slice aa dl ca) := by rw [cell_blkT HNX.out.law.blk]; rfl
          obtain ⟨nx1, nx2⟩ := nx
          go_wp2_with fail
          refine HNx.mono ?_
          clear HNx
          rintro e wx ⟨rfl, rfl⟩
          go_wp2_with fail
          refine HRn.mono ?_
          clear HRn z0' z1' z2' z3'
          rintro e w9 ⟨i9, hL9, rfl, hb9⟩
          rw [List.length_map] at hL9
          rw [HNX.out.next hL9, ← Hnx.out]
          have HNY : Hid (RunI w mo wb mb mB (k + 1) (.slice ta tl tc) (.slice na tl nc) S v (.slice ai dl ci) (.slice aa dl ca) L (D) (now) (sets) (TW) w9) := HNX.out.below hb9
          clear hL9 hb9 HNX
          have y0 : w9.cell? ⟨mB, 0, none⟩ = some (.int .u64 (now)) := by rw [cell_blkT HNY.out.law.blk]; rfl
          have y2 : w9.cell? ⟨mB, 2, none⟩ = some (.slice ai dl ci) := by rw [cell_blkT HNY.out.law.blk]; rfl
          have HNow : Hid (∀ q, Calls Try.prog 20 #[.pointer (some ⟨wb, 0, none⟩)] (w9.drewN q) fun e w' => e = .returned (.int .u64 (now)) ∧ w' = w9.drewN q) := fun q => wnow_calls _ (HNY.out.wh.draws q)
          have HLen : Hid (∀ q, Calls Try.prog 21 #[.pointer (some ⟨wb, 0, none⟩)] (w9.drewN q) fun e w' => e = .returned (.int .i64 (dl : Int)) ∧ w' = w9.drewN q) := fun q => by
            have := wlen_calls _ (HNY.out.wh.draws q)
            rw [HNY.out.lenL] at this
            rw [← Hdl.out] at this
            exact this
          have hq1 : ((now) != (now)) = false := by simp
          have hq2 : (((dl : Nat) : Int) != ((dl : Nat) : Int)) = false := by simp
          have hq3 : (nx1 != nx1) = false := by simp
          have hq4 : (nx2 != nx2) = false := by simp
          go_wp2_with fail
          go_quiet ((first | (go_at_call 20; exact Calls.quiet_of_same (HNow.out _)) | (go_at_call 21; exact Calls.quiet_of_same (HLen.out _))))
          have HNZ : Hid (RunE w mo wb mb mB (k + 1) (.slice ta tl tc) (.slice na tl nc) (w9.drewN nq)) := ⟨_, _, _, _, _, _, _, _, _, HNY.out.below (below_drawsT w9 nq)⟩
          clear HNow HLen HNY
          go_wp2
          go_roundw
          case rel => exact ⟨k + 1, by omega, by go_num, HNZ⟩
          case measure => simp [intOf]; omega
        · have hD := HRA.out.doc (nb := .cells #[.int .u64 (now), .int .i64 mo, .slice ai dl ci, .slice aa dl ca] 30) (D' := D) hb5 hI5 hA5 (fun q hq => .inl hq) (fun q hq => .inl hq) (now)
          unfold st4 at hD
          obtain ⟨w7, HW7⟩ : ∃ w7, Hid (w7 = ((((w5.alloc (.cells #[.int .u64 (now), .int .i64 mo, .slice ai dl ci, .slice aa dl ca] 30)).setCell ⟨mB, 0, none⟩ (.int .u64 (now))).setCell ⟨mB, 1, none⟩ (.int .i64 mo)).setCell ⟨mB, 2, none⟩ (.slice ai dl ci)).setCell ⟨mB, 3, none⟩ (.slice aa dl ca)) := ⟨_, rfl⟩
          rw [← HW7.out] at hD
          have HD7 : Hid (WhAt w7 S wb mb mo now sets v L ∧ LawP w S mB mo (now) (.slice ai dl ci) (.slice aa dl ca) (.slice ta tl tc) (.slice na tl nc) (D) TW w7 ∧ Below w.heap.size w w7) := hD
          have hm5 : (w5.alloc (.cells #[.int .u64 (now), .int .i64 mo, .slice ai dl ci, .slice aa dl ca] 30)).heap[mB]? = some (.cells #[.int .u64 now, .int .i64 mo, .slice ai dl ci, .slice aa dl ca] 30) := (Below.heap_alloc _ _ _ (lt_of_heapT ((hb5.block _ (lt_of_heapT HRA.out.law.blk)).trans HRA.out.law.blk))).trans ((hb5.block _ (lt_of_heapT HRA.out.law.blk)).trans HRA.out.law.blk)
          have ho5 : (w5.alloc (.cells #[.int .u64 (now), .int .i64 mo, .slice ai dl ci, .slice aa dl ca] 30)).heap[ob]? = some (.cells #[.int .i64 0, .int .i64 id, .int .u64 at'] 34) := (Below.heap_alloc _ _ _ (lt_of_heapT ((hb5.block _ (lt_of_heapT HOA.out)).trans HOA.out))).trans ((hb5.block _ (lt_of_heapT HOA.out)).trans HOA.out)
          have HO7 : Hid (w7.heap[ob]? = some (.cells #[.int .i64 0, .int .i64 id, .int .u64 at'] 34)) := by
            rw [HW7.out]
            exact (st4_other _ _ _ _ _ _ (ne_ty ⟨_, ho5⟩ hm5 (by decide))).trans ho5
          have x0 : (w5.alloc (.cells #[.int .u64 (now), .int .i64 mo, .slice ai dl ci, .slice aa dl ca] 30)).cell? ⟨mB, 0, none⟩ = some (.int .u64 now) := by rw [cell_blkT hm5]; rfl
          have x1 : (w5.alloc (.cells #[.int .u64 (now), .int .i64 mo, .slice ai dl ci, .slice aa dl ca] 30)).cell? ⟨mB, 1, none⟩ = some (.int .i64 mo) := by rw [cell_blkT hm5]; rfl
          have x2 : (w5.alloc (.cells #[.int .u64 (now), .int .i64 mo, .slice ai dl ci, .slice aa dl ca] 30)).cell? ⟨mB, 2, none⟩ = some (.slice ai dl ci) := by rw [cell_blkT hm5]; rfl
          have x3 : (w5.alloc (.cells #[.int .u64 (now), .int .i64 mo, .slice ai dl ci, .slice aa dl ca] 30)).cell? ⟨mB, 3, none⟩ = some (.slice aa dl ca) := by rw [cell_blkT hm5]; rfl
          have xf : ∀ q, (w5.alloc (.cells #[.int .u64 (now), .int .i64 mo, .slice ai dl ci, .slice aa dl ca] 30)).frozen? ⟨mB, q, none⟩ = false := fun q => frozen_blkT hm5
          clear hD hm5 ho5 hb5
          go_upto_region 15 with fail
          rw [← HW7.out]
          clear x0 x1 x2 x3 xf
          have o1 : w7.cell? ⟨ob, 1, none⟩ = some (.int .i64 id) := by rw [cell_blkT HO7.out]; rfl
          have o2 : w7.cell? ⟨ob, 2, none⟩ = some (.int .u64 at') := by rw [cell_blkT HO7.out]; rfl
          have hnoL : ∀ x ∈ L, x.id ≠ id := fun x hx e => c1 ((HRA.out.mem id).1 ⟨x, hx, e⟩)
          have HSp := set_full w7 id at' HD7.out.1 hnoL (by rw [hLD]; rw [List.length_map] at c2; exact c2)
          go_wp2_with fail
          refine HSp.mono ?_
          clear HSp o1 o2
          rintro e w8 ⟨rfl, q8, hw8⟩
          have HNX : Hid (RunI w mo wb mb mB (k + 1) (.slice ta tl tc) (.slice na tl nc) S v (.slice ai dl ci) (.slice aa dl ca) L D now sets TW w8) := by
            have h7 : RunI w mo wb mb mB (k + 1) (.slice ta tl tc) (.slice na tl nc) S v (.slice ai dl ci) (.slice aa dl ca) L D now sets TW w7 := ⟨HD7.out.1, HD7.out.2.1, HD7.out.2.2, HRA.out.nS, HRA.out.rel, HRA.out.rise, HRA.out.turn, ⟨HSZ.out.2.2.2.1, by have := HSZ.out.2.2.2.2.1; omega⟩, HRA.out.n0, by omega, by omega, fun p hp => Nat.le_succ_of_le (HRA.out.twn p hp)⟩
            rw [hw8]; exact h7.below (below_drawsT w7 q8)
          clear HD7 hnoL c1 c2 hw8
          obtain ⟨nx, Hnx⟩ : ∃ nx, Hid (nx = nextOf L) := ⟨_, rfl⟩
          have HNx := wnext_calls w8 HNX.out.wh
          rw [← Hnx.out] at HNx
          have hD8 : D.length ≤ k + 1 := HNX.out.len
          have HRn := rnext_calls now mo (.slice ai dl ci) (.slice aa dl ca) (D.map (·.tm)) w8 (by rw [List.length_map]; omega) HNX.out.law.A ⟨_, _, _, rfl⟩
          unfold refV at HRn
          have z0' : w8.cell? ⟨mB, 0, none⟩ = some (.int .u64 (now)) := by rw [cell_blkT HNX.out.law.blk]; rfl
          have z1' : w8.cell? ⟨mB, 1, none⟩ = some (.int .i64 mo) := by rw [cell_blkT HNX.out.law.blk]; rfl
          have z2' : w8.cell? ⟨mB, 2, none⟩ = some (.slice ai dl ci) := by rw [cell_blkT HNX.out.law.blk]; rfl
          have z3' : w8.cell? ⟨mB, 3, none⟩ = some (.slice aa dl ca) := by rw [cell_blkT HNX.out.law.blk]; rfl
          obtain ⟨nx1, nx2⟩ := nx
          go_wp2_with fail
          refine HNx.mono ?_
          clear HNx
          rintro e wx ⟨rfl, rfl⟩
          go_wp2_with fail
          refine HRn.mono ?_
          clear HRn z0' z1' z2' z3'
          rintro e w9 ⟨i9, hL9, rfl, hb9⟩
          rw [List.length_map] at hL9
          rw [HNX.out.next hL9, ← Hnx.out]
          have HNY : Hid (RunI w mo wb mb mB (k + 1) (.slice ta tl tc) (.slice na tl nc) S v (.slice ai dl ci) (.slice aa dl ca) L (D) (now) (sets) (TW) w9) := HNX.out.below hb9
          clear hL9 hb9 HNX
          have y0 : w9.cell? ⟨mB, 0, none⟩ = some (.int .u64 (now)) := by rw [cell_blkT HNY.out.law.blk]; rfl
          have y2 : w9.cell? ⟨mB, 2, none⟩ = some (.slice ai dl ci) := by rw [cell_blkT HNY.out.law.blk]; rfl
          have HNow : Hid (∀ q, Calls Try.prog 20 #[.pointer (some ⟨wb, 0, none⟩)] (w9.drewN q) fun e w' => e = .returned (.int .u64 (now)) ∧ w' = w9.drewN q) := fun q => wnow_calls _ (HNY.out.wh.draws q)
          have HLen : Hid (∀ q, Calls Try.prog 21 #[.pointer (some ⟨wb, 0, none⟩)] (w9.drewN q) fun e w' => e = .returned (.int .i64 (dl : Int)) ∧ w' = w9.drewN q) := fun q => by
            have := wlen_calls _ (HNY.out.wh.draws q)
            rw [HNY.out.lenL] at this
            rw [← Hdl.out] at this
            exact this
          have hq1 : ((now) != (now)) = false := by simp
          have hq2 : (((dl : Nat) : Int) != ((dl : Nat) : Int)) = false := by simp
          have hq3 : (nx1 != nx1) = false := by simp
          have hq4 : (nx2 != nx2) = false := by simp
          go_wp2_with fail
          go_quiet ((first | (go_at_call 20; exact Calls.quiet_of_same (HNow.out _)) | (go_at_call 21; exact Calls.quiet_of_same (HLen.out _))))
          have HNZ : Hid (RunE w mo wb mb mB (k + 1) (.slice ta tl tc) (.slice na tl nc) (w9.drewN nq)) := ⟨_, _, _, _, _, _, _, _, _, HNY.out.below (below_drawsT w9 nq)⟩
          clear HNow HLen HNY
          go_wp2
          go_roundw
          case rel => exact ⟨k + 1, by omega, by go_num, HNZ⟩
          case measure => simp [intOf]; omega
      · by_cases h1 : kd = 1
        · subst h1
          have HDs := rstop_calls now mo (.slice ai dl ci) (.slice aa dl ca) (D.map (·.id)) (D.map (·.tm)) id wA (by rw [List.length_map]; omega) (by rw [List.length_map, List.length_map]) HRA.out.law.I HRA.out.law.A
          unfold refV at HDs
          go_wp2_with fail
          refine HDs.mono ?_
          clear HDs m0 m1 m2 m3 o0 o1 o2
          rintro e w5 ⟨vi5, va5, li5, la5, bb, rfl, hI5, hA5, hb5, hcase⟩
          unfold refV
          rcases hcase with ⟨rfl, i5, c1, rfl, rfl, c3, c4⟩ | ⟨rfl, c1, rfl, rfl, rfl, rfl⟩
          · rw [eraseIdx_mapT] at hI5 hA5
            obtain ⟨a5, c5, hv5⟩ := ownsRow_len hI5
            obtain ⟨b5, e5, hu5⟩ := ownsRow_len hA5
            obtain ⟨dl5, Hdl5⟩ : ∃ dl5, Hid (dl5 = (D.eraseIdx i5).length) := ⟨_, rfl⟩
            rw [List.length_map, List.length_map, ← Hdl5.out] at hv5 hu5
            subst hv5 hu5
            have hD := HRA.out.doc (nb := .cells #[.int .u64 (now), .int .i64 mo, .slice a5 dl5 c5, .slice b5 dl5 e5] 30) (D' := (D.eraseIdx i5)) hb5 hI5 hA5 (fun q hq => .inr (c3 q hq)) (fun q hq => .inr (c4 q hq)) (now)
            unfold st4 at hD
            obtain ⟨w7, HW7⟩ : ∃ w7, Hid (w7 = ((((w5.alloc (.cells #[.int .u64 (now), .int .i64 mo, .slice a5 dl5 c5, .slice b5 dl5 e5] 30)).setCell ⟨mB, 0, none⟩ (.int .u64 (now))).setCell ⟨mB, 1, none⟩ (.int .i64 mo)).setCell ⟨mB, 2, none⟩ (.slice a5 dl5 c5)).setCell ⟨mB, 3, none⟩ (.slice b5 dl5 e5)) := ⟨_, rfl⟩
            rw [← HW7.out] at hD
            have HD7 : Hid (WhAt w7 S wb mb mo now sets v L ∧ LawP w S mB mo (now) (.slice a5 dl5 c5) (.slice b5 dl5 e5) (.slice ta tl tc) (.slice na tl nc) ((D.eraseIdx i5)) TW w7 ∧ Below w.heap.size w w7) := hD
            have hm5 : (w5.alloc (.cells #[.int .u64 (now), .int .i64 mo, .slice a5 dl5 c5, .slice b5 dl5 e5] 30)).heap[mB]? = some (.cells #[.int .u64 now, .int .i64 mo, .slice ai dl ci, .slice aa dl ca] 30) := (Below.heap_alloc _ _ _ (lt_of_heapT ((hb5.block _ (lt_of_heapT HRA.out.law.blk)).trans HRA.out.law.blk))).trans ((hb5.block _ (lt_of_heapT HRA.out.law.blk)).trans HRA.out.law.blk)
            have ho5 : (w5.alloc (.cells #[.int .u64 (now), .int .i64 mo, .slice a5 dl5 c5, .slice b5 dl5 e5] 30)).heap[ob]? = some (.cells #[.int .i64 1, .int .i64 id, .int .u64 at'] 34) := (Below.heap_alloc _ _ _ (lt_of_heapT ((hb5.block _ (lt_of_heapT HOA.out)).trans HOA.out))).trans ((hb5.block _ (lt_of_heapT HOA.out)).trans HOA.out)
            have HO7 : Hid (w7.heap[ob]? = some (.cells #[.int .i64 1, .int .i64 id, .int .u64 at'] 34)) := by
              rw [HW7.out]
              exact (st4_other _ _ _ _ _ _ (ne_ty ⟨_, ho5⟩ hm5 (by decide))).trans ho5
            have x0 : (w5.alloc (.cells #[.int .u64 (now), .int .i64 mo, .slice a5 dl5 c5, .slice b5 dl5 e5] 30)).cell? ⟨mB, 0, none⟩ = some (.int .u64 now) := by rw [cell_blkT hm5]; rfl
            have x1 : (w5.alloc (.cells #[.int .u64 (now), .int .i64 mo, .slice a5 dl5 c5, .slice b5 dl5 e5] 30)).cell? ⟨mB, 1, none⟩ = some (.int .i64 mo) := by rw [cell_blkT hm5]; rfl
            have x2 : (w5.alloc (.cells #[.int .u64 (now), .int .i64 mo, .slice a5 dl5 c5, .slice b5 dl5 e5] 30)).cell? ⟨mB, 2, none⟩ = some (.slice ai dl ci) := by rw [cell_blkT hm5]; rfl
            have x3 : (w5.alloc (.cells #[.int .u64 (now), .int .i64 mo, .slice a5 dl5 c5, .slice b5 dl5 e5] 30)).cell? ⟨mB, 3, none⟩ = some (.slice aa dl ca) := by rw [cell_blkT hm5]; rfl
            have xf : ∀ q, (w5.alloc (.cells #[.int .u64 (now), .int .i64 mo, .slice a5 dl5 c5, .slice b5 dl5 e5] 30)).frozen? ⟨mB, q, none⟩ = false := fun q => frozen_blkT hm5
            clear hD hm5 ho5 hb5
            go_upto_region 20 with fail
            rw [← HW7.out]
            clear x0 x1 x2 x3 xf
            have o1 : w7.cell? ⟨ob, 1, none⟩ = some (.int .i64 id) := by rw [cell_blkT HO7.out]; rfl
            have o2 : w7.cell? ⟨ob, 2, none⟩ = some (.int .u64 at') := by rw [cell_blkT HO7.out]; rfl
            obtain ⟨x5, hx5, hx5i⟩ : ∃ x5, D[i5]? = some x5 ∧ x5.id = id := by
              rw [List.getElem?_map] at c1
              cases hx : D[i5]? with
              | none => rw [hx] at c1; cases c1
              | some x5 => rw [hx] at c1; exact ⟨x5, rfl, Option.some.inj c1⟩
            obtain ⟨xL, hxL, hxz⟩ := List.mem_map.1 (HRA.out.rel.mem_iff.2 (List.mem_of_getElem? hx5))
            have hxi : xL.id = id := by rw [← hx5i, ← hxz]; rfl
            have hLn : L.length = (L.length - 1) + 1 := by have := List.length_pos_of_mem hxL; omega
            have HSp := stop_ok w7 (L.length - 1) xL HD7.out.1 hLn hxL (by omega)
            rw [hxi] at HSp
            have HXX : Hid (D[i5]? = some x5 ∧ z0 xL = x5) := ⟨hx5, hxz⟩
            clear hx5 hx5i hxz hxi hLn c1
            go_wp2_with fail
            refine HSp.mono ?_
            clear HSp o1 o2
            rintro e w8 ⟨v8, L8, rfl, hW8, hp8, hf8⟩
            have HNX : Hid (RunI w mo wb mb mB (k + 1) (.slice ta tl tc) (.slice na tl nc) S v8 (.slice a5 dl5 c5) (.slice b5 dl5 e5) L8 (D.eraseIdx i5) now sets TW w8) := by
              have hsub : (D.eraseIdx i5).Sublist D := List.eraseIdx_sublist _ _
              refine ⟨hW8, HD7.out.2.1.frm hf8 (fun q hq => .inl hq), HD7.out.2.2.trans (hf8.toBelow HD7.out.2.2.size HRA.out.nS), HRA.out.nS, ?_, HRA.out.rise.sub hsub, fun x hx => HRA.out.turn x (hsub.subset hx), ⟨HSZ.out.2.2.2.1, by have := HSZ.out.2.2.2.2.1; omega⟩, HRA.out.n0, by have := hsub.length_le; omega, by omega, fun p hp => Nat.le_succ_of_le (HRA.out.twn p hp)⟩
              have h1 : (L8.map z0 ++ [x5]).Perm D := by
                have := (hp8.map z0).trans HRA.out.rel
                rw [List.map_append] at this
                rw [← HXX.out.2]
                exact this
              exact ((List.perm_append_comm (l₁ := [x5])).trans (h1.trans (eraseIdx_permT D i5 x5 HXX.out.1))).cons_inv
            clear HD7 hxL c3 c4 hW8 hp8 hf8
            obtain ⟨nx, Hnx⟩ : ∃ nx, Hid (nx = nextOf L8) := ⟨_, rfl⟩
            have HNx := wnext_calls w8 HNX.out.wh
            rw [← Hnx.out] at HNx
            have hD8 : (D.eraseIdx i5).length ≤ k + 1 := HNX.out.len
            have HRn := rnext_calls now mo (.slice a5 dl5 c5) (.slice b5 dl5 e5) ((D.eraseIdx i5).map (·.tm)) w8 (by rw [List.length_map]; omega) HNX.out.law.A ⟨_, _, _, rfl⟩
            unfold refV at HRn
            have z0' : w8.cell? ⟨mB, 0, none⟩ = some (.int .u64 (now)) := by rw [cell_blkT HNX.out.law.blk]; rfl
            have z1' : w8.cell? ⟨mB, 1, none⟩ = some (.int .i64 mo) := by rw [cell_blkT HNX.out.law.blk]; rfl
            have z2' : w8.cell? ⟨mB, 2, none⟩ = some (.slice a5 dl5 c5) := by rw [cell_blkT HNX.out.law.blk]; rfl
            have z3' : w8.cell? ⟨mB, 3, none⟩ = some (.slice b5 dl5 e5) := by rw [cell_blkT HNX.out.law.blk]; rfl
            obtain ⟨nx1, nx2⟩ := nx
            go_wp2_with fail
            refine HNx.mono ?_
            clear HNx
            rintro e wx ⟨rfl, rfl⟩
            go_wp2_with fail
            refine HRn.mono ?_
            clear HRn z0' z1' z2' z3'
            rintro e w9 ⟨i9, hL9, rfl, hb9⟩
            rw [List.length_map] at hL9
            rw [HNX.out.next hL9, ← Hnx.out]
            have HNY : Hid (RunI w mo wb mb mB (k + 1) (.slice ta tl tc) (.slice na tl nc) S v8 (.slice a5 dl5 c5) (.slice b5 dl5 e5) L8 ((D.eraseIdx i5)) (now) (sets) (TW) w9) := HNX.out.below hb9
            clear hL9 hb9 HNX
            have y0 : w9.cell? ⟨mB, 0, none⟩ = some (.int .u64 (now)) := by rw [cell_blkT HNY.out.law.blk]; rfl
            have y2 : w9.cell? ⟨mB, 2, none⟩ = some (.slice a5 dl5 c5) := by rw [cell_blkT HNY.out.law.blk]; rfl
            have HNow : Hid (∀ q, Calls Try.prog 20 #[.pointer (some ⟨wb, 0, none⟩)] (w9.drewN q) fun e w' => e = .returned (.int .u64 (now)) ∧ w' = w9.drewN q) := fun q => wnow_calls _ (HNY.out.wh.draws q)
            have HLen : Hid (∀ q, Calls Try.prog 21 #[.pointer (some ⟨wb, 0, none⟩)] (w9.drewN q) fun e w' => e = .returned (.int .i64 (dl5 : Int)) ∧ w' = w9.drewN q) := fun q => by
              have := wlen_calls _ (HNY.out.wh.draws q)
              rw [HNY.out.lenL] at this
              rw [← Hdl5.out] at this
              exact this
            have hq1 : ((now) != (now)) = false := by simp
            have hq2 : (((dl5 : Nat) : Int) != ((dl5 : Nat) : Int)) = false := by simp
            have hq3 : (nx1 != nx1) = false := by simp
            have hq4 : (nx2 != nx2) = false := by simp
            go_wp2_with fail
            go_quiet ((first | (go_at_call 20; exact Calls.quiet_of_same (HNow.out _)) | (go_at_call 21; exact Calls.quiet_of_same (HLen.out _))))
            have HNZ : Hid (RunE w mo wb mb mB (k + 1) (.slice ta tl tc) (.slice na tl nc) (w9.drewN nq)) := ⟨_, _, _, _, _, _, _, _, _, HNY.out.below (below_drawsT w9 nq)⟩
            clear HNow HLen HNY
            go_wp2
            go_roundw
            case rel => exact ⟨k + 1, by omega, by go_num, HNZ⟩
            case measure => simp [intOf]; omega
          · have hD := HRA.out.doc (nb := .cells #[.int .u64 (now), .int .i64 mo, .slice ai dl ci, .slice aa dl ca] 30) (D' := D) hb5 hI5 hA5 (fun q hq => .inl hq) (fun q hq => .inl hq) (now)
            unfold st4 at hD
            obtain ⟨w7, HW7⟩ : ∃ w7, Hid (w7 = ((((w5.alloc (.cells #[.int .u64 (now), .int .i64 mo, .slice ai dl ci, .slice aa dl ca] 30)).setCell ⟨mB, 0, none⟩ (.int .u64 (now))).setCell ⟨mB, 1, none⟩ (.int .i64 mo)).setCell ⟨mB, 2, none⟩ (.slice ai dl ci)).setCell ⟨mB, 3, none⟩ (.slice aa dl ca)) := ⟨_, rfl⟩
            rw [← HW7.out] at hD
            have HD7 : Hid (WhAt w7 S wb mb mo now sets v L ∧ LawP w S mB mo (now) (.slice ai dl ci) (.slice aa dl ca) (.slice ta tl tc) (.slice na tl nc) (D) TW w7 ∧ Below w.heap.size w w7) := hD
            have hm5 : (w5.alloc (.cells #[.int .u64 (now), .int .i64 mo, .slice ai dl ci, .slice aa dl ca] 30)).heap[mB]? = some (.cells #[.int .u64 now, .int .i64 mo, .slice ai dl ci, .slice aa dl ca] 30) := (Below.heap_alloc _ _ _ (lt_of_heapT ((hb5.block _ (lt_of_heapT HRA.out.law.blk)).trans HRA.out.law.blk))).trans ((hb5.block _ (lt_of_heapT HRA.out.law.blk)).trans HRA.out.law.blk)
            have ho5 : (w5.alloc (.cells #[.int .u64 (now), .int .i64 mo, .slice ai dl ci, .slice aa dl ca] 30)).heap[ob]? = some (.cells #[.int .i64 1, .int .i64 id, .int .u64 at'] 34) := (Below.heap_alloc _ _ _ (lt_of_heapT ((hb5.block _ (lt_of_heapT HOA.out)).trans HOA.out))).trans ((hb5.block _ (lt_of_heapT HOA.out)).trans HOA.out)
            have HO7 : Hid (w7.heap[ob]? = some (.cells #[.int .i64 1, .int .i64 id, .int .u64 at'] 34)) := by
              rw [HW7.out]
              exact (st4_other _ _ _ _ _ _ (ne_ty ⟨_, ho5⟩ hm5 (by decide))).trans ho5
            have x0 : (w5.alloc (.cells #[.int .u64 (now), .int .i64 mo, .slice ai dl ci, .slice aa dl ca] 30)).cell? ⟨mB, 0, none⟩ = some (.int .u64 now) := by rw [cell_blkT hm5]; rfl
            have x1 : (w5.alloc (.cells #[.int .u64 (now), .int .i64 mo, .slice ai dl ci, .slice aa dl ca] 30)).cell? ⟨mB, 1, none⟩ = some (.int .i64 mo) := by rw [cell_blkT hm5]; rfl
            have x2 : (w5.alloc (.cells #[.int .u64 (now), .int .i64 mo, .slice ai dl ci, .slice aa dl ca] 30)).cell? ⟨mB, 2, none⟩ = some (.slice ai dl ci) := by rw [cell_blkT hm5]; rfl
            have x3 : (w5.alloc (.cells #[.int .u64 (now), .int .i64 mo, .slice ai dl ci, .slice aa dl ca] 30)).cell? ⟨mB, 3, none⟩ = some (.slice aa dl ca) := by rw [cell_blkT hm5]; rfl
            have xf : ∀ q, (w5.alloc (.cells #[.int .u64 (now), .int .i64 mo, .slice ai dl ci, .slice aa dl ca] 30)).frozen? ⟨mB, q, none⟩ = false := fun q => frozen_blkT hm5
            clear hD hm5 ho5 hb5
            go_upto_region 20 with fail
            rw [← HW7.out]
            clear x0 x1 x2 x3 xf
            have o1 : w7.cell? ⟨ob, 1, none⟩ = some (.int .i64 id) := by rw [cell_blkT HO7.out]; rfl
            have o2 : w7.cell? ⟨ob, 2, none⟩ = some (.int .u64 at') := by rw [cell_blkT HO7.out]; rfl
            have hnoL : ∀ x ∈ L, x.id ≠ id := fun x hx e => c1 ((HRA.out.mem id).1 ⟨x, hx, e⟩)
            have HSp := stop_no w7 id HD7.out.1 hnoL
            go_wp2_with fail
            refine HSp.mono ?_
            clear HSp o1 o2
            rintro e w8 ⟨rfl, rfl⟩
            have HNX : Hid (RunI w mo wb mb mB (k + 1) (.slice ta tl tc) (.slice na tl nc) S v (.slice ai dl ci) (.slice aa dl ca) L D now sets TW w8) := ⟨HD7.out.1, HD7.out.2.1, HD7.out.2.2, HRA.out.nS, HRA.out.rel, HRA.out.rise, HRA.out.turn, ⟨HSZ.out.2.2.2.1, by have := HSZ.out.2.2.2.2.1; omega⟩, HRA.out.n0, by omega, by omega, fun p hp => Nat.le_succ_of_le (HRA.out.twn p hp)⟩
            clear HD7 hnoL c1
            obtain ⟨nx, Hnx⟩ : ∃ nx, Hid (nx = nextOf L) := ⟨_, rfl⟩
            have HNx := wnext_calls w8 HNX.out.wh
            rw [← Hnx.out] at HNx
            have hD8 : D.length ≤ k + 1 := HNX.out.len
            have HRn := rnext_calls now mo (.slice ai dl ci) (.slice aa dl ca) (D.map (·.tm)) w8 (by rw [List.length_map]; omega) HNX.out.law.A ⟨_, _, _, rfl⟩
            unfold refV at HRn
            have z0' : w8.cell? ⟨mB, 0, none⟩ = some (.int .u64 (now)) := by rw [cell_blkT HNX.out.law.blk]; rfl
            have z1' : w8.cell? ⟨mB, 1, none⟩ = some (.int .i64 mo) := by rw [cell_blkT HNX.out.law.blk]; rfl
            have z2' : w8.cell? ⟨mB, 2, none⟩ = some (.slice ai dl ci) := by rw [cell_blkT HNX.out.law.blk]; rfl
            have z3' : w8.cell? ⟨mB, 3, none⟩ = some (.slice aa dl ca) := by rw [cell_blkT HNX.out.law.blk]; rfl
            obtain ⟨nx1, nx2⟩ := nx
            go_wp2_with fail
            refine HNx.mono ?_
            clear HNx
            rintro e wx ⟨rfl, rfl⟩
            go_wp2_with fail
            refine HRn.mono ?_
            clear HRn z0' z1' z2' z3'
            rintro e w9 ⟨i9, hL9, rfl, hb9⟩
            rw [List.length_map] at hL9
            rw [HNX.out.next hL9, ← Hnx.out]
            have HNY : Hid (RunI w mo wb mb mB (k + 1) (.slice ta tl tc) (.slice na tl nc) S v (.slice ai dl ci) (.slice aa dl ca) L (D) (now) (sets) (TW) w9) := HNX.out.below hb9
            clear hL9 hb9 HNX
            have y0 : w9.cell? ⟨mB, 0, none⟩ = some (.int .u64 (now)) := by rw [cell_blkT HNY.out.law.blk]; rfl
            have y2 : w9.cell? ⟨mB, 2, none⟩ = some (.slice ai dl ci) := by rw [cell_blkT HNY.out.law.blk]; rfl
            have HNow : Hid (∀ q, Calls Try.prog 20 #[.pointer (some ⟨wb, 0, none⟩)] (w9.drewN q) fun e w' => e = .returned (.int .u64 (now)) ∧ w' = w9.drewN q) := fun q => wnow_calls _ (HNY.out.wh.draws q)
            have HLen : Hid (∀ q, Calls Try.prog 21 #[.pointer (some ⟨wb, 0, none⟩)] (w9.drewN q) fun e w' => e = .returned (.int .i64 (dl : Int)) ∧ w' = w9.drewN q) := fun q => by
              have := wlen_calls _ (HNY.out.wh.draws q)
              rw [HNY.out.lenL] at this
              rw [← Hdl.out] at this
              exact this
            have hq1 : ((now) != (now)) = false := by simp
            have hq2 : (((dl : Nat) : Int) != ((dl : Nat) : Int)) = false := by simp
            have hq3 : (nx1 != nx1) = false := by simp
            have hq4 : (nx2 != nx2) = false := by simp
            go_wp2_with fail
            go_quiet ((first | (go_at_call 20; exact Calls.quiet_of_same (HNow.out _)) | (go_at_call 21; exact Calls.quiet_of_same (HLen.out _))))
            have HNZ : Hid (RunE w mo wb mb mB (k + 1) (.slice ta tl tc) (.slice na tl nc) (w9.drewN nq)) := ⟨_, _, _, _, _, _, _, _, _, HNY.out.below (below_drawsT w9 nq)⟩
            clear HNow HLen HNY
            go_wp2
            go_roundw
            case rel => exact ⟨k + 1, by omega, by go_num, HNZ⟩
            case measure => simp [intOf]; omega
        · by_cases h2 : kd = 2
          · subst h2
            have HAf := rafter_calls now at' wA HRA.out.n0.1 HRA.out.n0.2 HAT.out.1 HAT.out.2
            obtain ⟨to, Hto⟩ : ∃ to, Hid (to = sat now at') := ⟨_, rfl⟩
            have HTO : Hid (0 ≤ to ∧ to ≤ 18446744073709551615) := by
              show 0 ≤ to ∧ to ≤ 18446744073709551615
              rw [Hto.out]
              have h1 := HRA.out.n0
              have h2 := HAT.out
              unfold sat
              split <;> omega
            rw [← Hto.out] at HAf
            go_wp2_with fail
            refine HAf.mono ?_
            clear HAf
            rintro e wx ⟨rfl, hwx⟩
            have hwx' := hwx.symm
            subst hwx'
            clear hwx
            by_cases hpast : to < now
            · have HDs := radv_past now mo (.slice ai dl ci) (.slice aa dl ca) (D.map (·.id)) (D.map (·.tm)) to wA (by rw [List.length_map]; omega) (by rw [List.length_map, List.length_map]) HRA.out.law.I HRA.out.law.A hpast
              unfold refV at HDs
              go_wp2_with fail
              refine HDs.mono ?_
              clear HDs m0 m1 m2 m3
              rintro e w5 ⟨rfl, hb5⟩
              have hI5 : RowI w5 (.slice ai dl ci) (D.map (·.id)) := HRA.out.law.I.below hb5
              have hA5 : RowU w5 (.slice aa dl ca) (D.map (·.tm)) := HRA.out.law.A.below hb5
              have hbb : Below w5.heap.size w5 (w5.alloc (.cells #[.int .u64 now, .int .i64 mo, .slice ai dl ci, .slice aa dl ca] 30)) := (Below.refl _ _).alloc (Nat.le_refl _) _
              obtain ⟨w6, HW6⟩ : ∃ w6, Hid (w6 = w5.alloc (.cells #[.int .u64 now, .int .i64 mo, .slice ai dl ci, .slice aa dl ca] 30)) := ⟨_, rfl⟩
              rw [← HW6.out] at hbb
              have HSp := adv_past w6 to ((HRA.out.wh.below hb5).below hbb) hpast
              have HW60 : Hid (WhAt w6 S wb mb mo now sets v L) := (HRA.out.wh.below hb5).below hbb
              go_upto_region 28 with fail
              rw [← HW6.out]
              go_wp2_with fail
              refine HSp.mono ?_
              clear HSp
              rintro e w8 ⟨rfl, rfl⟩
              have HRr : Hid (RowI w8 (.slice none 0 0) []) := World.ownsRow_nil _ _ _ _
              have HRo : Hid (RowI w8 (.slice none 0 0) []) := World.ownsRow_nil _ _ _ _
              have HnR : Hid (∀ q, (Value.slice none 0 0).ownBlock = some q → ¬ S q) := fun q hq => (by cases hq)
              have HnO : Hid (∀ q, (Value.slice none 0 0).ownBlock = some q → ¬ S q) := fun q hq => (by cases hq)
              have HW8 : Hid (WhAt w8 S wb mb mo now sets v L) := HW60.out
              have HF8 : Hid (Frm S (w5.alloc (.cells #[.int .u64 now, .int .i64 mo, .slice ai dl ci, .slice aa dl ca] 30)) w8) := by rw [HW6.out]; exact Frm.refl _ _
              have HRl : Hid ((L.map z0).Perm D) := HRA.out.rel
              have HRs : Hid (Rising D) := HRA.out.rise
              have HTn : Hid (∀ x ∈ D, x.turn ≤ sets) := HRA.out.turn
              have HDl : Hid (D.length ≤ k + 1) := by show D.length ≤ k + 1; omega
              clear hbb HW60
              have hAd := HRA.out.adv (now5 := now) (D' := D) hb5 hI5 hA5 (fun q hq => .inl hq) (fun q hq => .inl hq) HW8.out HF8.out
              unfold st4 at hAd
              obtain ⟨w9, HW9⟩ : ∃ w9, Hid (w9 = (((w8.setCell ⟨mB, 0, none⟩ (.int .u64 (now))).setCell ⟨mB, 1, none⟩ (.int .i64 mo)).setCell ⟨mB, 2, none⟩ (.slice ai dl ci)).setCell ⟨mB, 3, none⟩ (.slice aa dl ca)) := ⟨_, rfl⟩
              rw [← HW9.out] at hAd
              have HAd : Hid (WhAt w9 S wb mb mo (now) sets v (L) ∧ LawP w S mB mo (now) (.slice ai dl ci) (.slice aa dl ca) (.slice ta tl tc) (.slice na tl nc) (D) TW w9 ∧ Below w.heap.size w w9) := ⟨hAd.1, hAd.2.1, hAd.2.2.1⟩
              have hm8 := hAd.2.2.2
              have hnbA : wA.heap.size ≤ w5.heap.size := hb5.size
              have hn8 : w8.heap[w5.heap.size]? = some (.cells #[.int .u64 (now), .int .i64 mo, .slice ai dl ci, .slice aa dl ca] 30) := by
                have hne : ¬ S w5.heap.size := fun hS => by have := HRA.out.wh.sb _ hS; omega
                have hlt' : w5.heap.size < (w5.alloc (.cells #[.int .u64 (now), .int .i64 mo, .slice ai dl ci, .slice aa dl ca] 30)).heap.size := by simp [World.size_alloc]
                exact (HF8.out.block _ hlt' hne).trans (heap_alloc_new w5 _)
              have HR9 : Hid (RowI w9 (.slice none 0 0) [] ∧ RowI w9 (.slice none 0 0) []) := by
                rw [HW9.out]
                exact ⟨ownsRow_keep HRr.out (fun q hq => st4_other _ _ _ _ _ _ (ne_ty (ownsRow_ty HRr.out hq) hm8 (by decide))), ownsRow_keep HRo.out (fun q hq => st4_other _ _ _ _ _ _ (ne_ty (ownsRow_ty HRo.out hq) hm8 (by decide)))⟩
              have x0 : w8.cell? ⟨w5.heap.size, 0, none⟩ = some (.int .u64 (now)) := by rw [cell_blkT hn8]; rfl
              have x1 : w8.cell? ⟨w5.heap.size, 1, none⟩ = some (.int .i64 mo) := by rw [cell_blkT hn8]; rfl
              have x2 : w8.cell? ⟨w5.heap.size, 2, none⟩ = some (.slice ai dl ci) := by rw [cell_blkT hn8]; rfl
              have x3 : w8.cell? ⟨w5.heap.size, 3, none⟩ = some (.slice aa dl ca) := by rw [cell_blkT hn8]; rfl
              have y0 : w8.cell? ⟨mB, 0, none⟩ = some (.int .u64 now) := by rw [cell_blkT hm8]; rfl
              have y1 : w8.cell? ⟨mB, 1, none⟩ = some (.int .i64 mo) := by rw [cell_blkT hm8]; rfl
              have y2 : w8.cell? ⟨mB, 2, none⟩ = some (.slice ai dl ci) := by rw [cell_blkT hm8]; rfl
              have y3 : w8.cell? ⟨mB, 3, none⟩ = some (.slice aa dl ca) := by rw [cell_blkT hm8]; rfl
              have yf : ∀ q, w8.frozen? ⟨mB, q, none⟩ = false := fun q => frozen_blkT hm8
              clear hAd hm8 hn8 hb5 hI5 hA5 hnbA
              go_upto_region 30 with fail
              rw [← HW9.out]
              clear x0 x1 x2 x3 y0 y1 y2 y3 yf
              have HSm := sameI_calls none none 0 0 [] [] w9 (by decide) (by decide) (fun k hk => absurd hk (Nat.not_lt_zero _)) (fun k hk => absurd hk (Nat.not_lt_zero _))
              have hdec : decide (([] : List Int) = []) = true := rfl
              rw [hdec] at HSm
              simp only [List.length_nil] at HSm
              go_wp2_with fail
              refine HSm.mono ?_
              clear HSm hdec
              rintro e w10 ⟨rfl, q10, hw10⟩
              have HB10 : Hid (Below w9.heap.size w9 w10) := by rw [hw10]; exact below_drawsT w9 q10
              clear hw10
              have HL10 : Hid (WhAt w10 S wb mb mo (now) sets v (L) ∧ LawP w S mB mo (now) (.slice ai dl ci) (.slice aa dl ca) (.slice ta tl tc) (.slice na tl nc) (D) TW w10 ∧ Below w.heap.size w w10) := ⟨HAd.out.1.below HB10.out, HAd.out.2.1.below HB10.out, HAd.out.2.2.trans (HB10.out.mono HAd.out.2.2.size)⟩
              have hs10 : w.heap.size ≤ w10.heap.size := HL10.out.2.2.size
              have htl1 : (TW.map (·.1)).length = tl := by rw [List.length_map]; exact Htl.out.symm
              have htl2 : (TW.map (·.2.1)).length = tl := by rw [List.length_map]; exact Htl.out.symm
              have htk : tl ≤ k := by rw [Htl.out]; exact hTk
              go_wp2_with (at_builtin; refine append_valT w10 rfl (.tmp 114) (.tmp 116) 32 27 (.slice none 0 0) 24 Try.underlying32 infoSl rfl rfl w.heap.size (.slice ta tl tc) (TW.map (·.1)) rfl (.slice none 0 0) rfl w10.heap.size rfl rfl HL10.out.2.1.T (by rw [htl1]; omega) (by rw [htl1]; omega) hs10 ?_)
              intro t11 w11 ho11 hg11
              have HO11 : Hid (w11.ownsRow w.heap.size 27 1 t11 (List.map (fun (p : Tw) => p.1) TW ++ [Value.slice none 0 0]).length (List.map (fun (p : Tw) => p.1) TW ++ [Value.slice none 0 0])) := by
                show w11.ownsRow w.heap.size 27 1 t11 (List.map (fun (p : Tw) => p.1) TW ++ [Value.slice none 0 0]).length (List.map (fun (p : Tw) => p.1) TW ++ [Value.slice none 0 0])
                rw [List.length_append, htl1]
                simpa using ho11
              have HG11 : Hid (Grew w10 w11 (.slice ta tl tc) t11) := hg11
              have HN11 : Hid (w11.ownsRow w.heap.size 27 1 (.slice na tl nc) (TW.map (·.2.1)).length (TW.map (·.2.1))) := ownsRow_keep HL10.out.2.1.N (fun q hq => hg11.grown.block q (World.ownsRow.lt HL10.out.2.1.N q hq).2 (fun e => HL10.out.2.1.sep q e.symm hq))
              have hs11 : w.heap.size ≤ w11.heap.size := Nat.le_trans hs10 hg11.grown.size
              obtain ⟨ta2, tc2, ht11⟩ := ownsRow_len HO11.out
              rw [List.length_append, htl1] at ht11
              have ht11' : t11 = .slice ta2 (tl + 1) tc2 := by rw [ht11]; simp
              subst ht11'
              clear ho11 hg11 ht11
              go_wp2_with (at_builtin; refine append_valT w11 rfl (.tmp 118) (.tmp 120) 32 27 (.slice none 0 0) 24 Try.underlying32 infoSl rfl rfl w.heap.size (.slice na tl nc) (TW.map (·.2.1)) rfl (.slice none 0 0) rfl w11.heap.size rfl rfl HN11.out (by rw [htl2]; omega) (by rw [htl2]; omega) hs11 ?_)
              intro t12 w12 ho12 hg12
              have HO12 : Hid (w12.ownsRow w.heap.size 27 1 t12 (List.map (fun (p : Tw) => p.2.1) TW ++ [Value.slice none 0 0]).length (List.map (fun (p : Tw) => p.2.1) TW ++ [Value.slice none 0 0])) := by
                show w12.ownsRow w.heap.size 27 1 t12 (List.map (fun (p : Tw) => p.2.1) TW ++ [Value.slice none 0 0]).length (List.map (fun (p : Tw) => p.2.1) TW ++ [Value.slice none 0 0])
                rw [List.length_append, htl2]
                simpa using ho12
              have HG12 : Hid (Grew w11 w12 (.slice na tl nc) t12) := hg12
              obtain ⟨na2, nc2, ht12⟩ := ownsRow_len HO12.out
              rw [List.length_append, htl2] at ht12
              have ht12' : t12 = .slice na2 (tl + 1) nc2 := by rw [ht12]; simp
              subst ht12'
              clear ho12 hg12 ht12
              have HNX : Hid (RunI w mo wb mb mB (k + 1) (.slice ta2 (tl + 1) tc2) (.slice na2 (tl + 1) nc2) S v (.slice ai dl ci) (.slice aa dl ca) (L) (D) (now) sets (TW ++ [(.slice none 0 0, .slice none 0 0, ([] : List Int))]) w12) := by
                obtain ⟨hP, hPf⟩ := HL10.out.2.1.push HL10.out.1.sb hs10 HO11.out HG11.out HO12.out HG12.out (HR9.out.1.below HB10.out) (HR9.out.2.below HB10.out) HnR.out HnO.out
                have hdj : ∀ q, S q → ¬ ((Value.slice ta tl tc).ownBlock = some q ∨ (Value.slice na tl nc).ownBlock = some q) := fun q hS e => by
                  rcases e with e | e
                  · exact HL10.out.2.1.sT q e hS
                  · exact HL10.out.2.1.sN q e hS
                have hlo : ∀ q, ((Value.slice ta tl tc).ownBlock = some q ∨ (Value.slice na tl nc).ownBlock = some q) → w.heap.size ≤ q := fun q e => by
                  rcases e with e | e
                  · exact (World.ownsRow.lt HL10.out.2.1.T q e).1
                  · exact (World.ownsRow.lt HL10.out.2.1.N q e).1
                refine ⟨HL10.out.1.frm hPf hdj, hP, HL10.out.2.2.trans (hPf.toBelow hs10 hlo), HRA.out.nS, HRl.out, HRs.out, HTn.out, ⟨HSZ.out.2.2.2.1, by have := HSZ.out.2.2.2.2.1; omega⟩, HRA.out.n0, HDl.out, by simp; omega, fun p hp => ?_⟩
                rcases List.mem_append.1 hp with hp | hp
                · exact Nat.le_succ_of_le (HRA.out.twn p hp)
                · rw [List.mem_singleton.1 hp]; exact Nat.zero_le _
              clear HAd HL10 HO11 HG11 HN11 HO12 HG12 HR9
              obtain ⟨nx, Hnx⟩ : ∃ nx, Hid (nx = nextOf (L)) := ⟨_, rfl⟩
              have HNx := wnext_calls w12 HNX.out.wh
              rw [← Hnx.out] at HNx
              have hD8 : (D).length ≤ k + 1 := HNX.out.len
              have HRn := rnext_calls now mo (.slice ai dl ci) (.slice aa dl ca) ((D).map (·.tm)) w12 (by rw [List.length_map]; omega) HNX.out.law.A ⟨_, _, _, rfl⟩
              unfold refV at HRn
              have z0' : w12.cell? ⟨mB, 0, none⟩ = some (.int .u64 (now)) := by rw [cell_blkT HNX.out.law.blk]; rfl
              have z1' : w12.cell? ⟨mB, 1, none⟩ = some (.int .i64 mo) := by rw [cell_blkT HNX.out.law.blk]; rfl
              have z2' : w12.cell? ⟨mB, 2, none⟩ = some (.slice ai dl ci) := by rw [cell_blkT HNX.out.law.blk]; rfl
              have z3' : w12.cell? ⟨mB, 3, none⟩ = some (.slice aa dl ca) := by rw [cell_blkT HNX.out.law.blk]; rfl
              obtain ⟨nx1, nx2⟩ := nx
              go_wp2_with fail
              refine HNx.mono ?_
              clear HNx
              rintro e wx ⟨rfl, rfl⟩
              go_wp2_with fail
              refine HRn.mono ?_
              clear HRn z0' z1' z2' z3'
              rintro e w9 ⟨i9, hL9, rfl, hb9⟩
              rw [List.length_map] at hL9
              rw [HNX.out.next hL9, ← Hnx.out]
              have HNY : Hid (RunI w mo wb mb mB (k + 1) (.slice ta2 (tl + 1) tc2) (.slice na2 (tl + 1) nc2) S v (.slice ai dl ci) (.slice aa dl ca) (L) ((D)) (now) (sets) ((TW ++ [(.slice none 0 0, .slice none 0 0, ([] : List Int))])) w9) := HNX.out.below hb9
              clear hL9 hb9 HNX
              have y0 : w9.cell? ⟨mB, 0, none⟩ = some (.int .u64 (now)) := by rw [cell_blkT HNY.out.law.blk]; rfl
              have y2 : w9.cell? ⟨mB, 2, none⟩ = some (.slice ai dl ci) := by rw [cell_blkT HNY.out.law.blk]; rfl
              have HNow : Hid (∀ q, Calls Try.prog 20 #[.pointer (some ⟨wb, 0, none⟩)] (w9.drewN q) fun e w' => e = .returned (.int .u64 (now)) ∧ w' = w9.drewN q) := fun q => wnow_calls _ (HNY.out.wh.draws q)
              have HLen : Hid (∀ q, Calls Try.prog 21 #[.pointer (some ⟨wb, 0, none⟩)] (w9.drewN q) fun e w' => e = .returned (.int .i64 (dl : Int)) ∧ w' = w9.drewN q) := fun q => by
                have := wlen_calls _ (HNY.out.wh.draws q)
                rw [HNY.out.lenL] at this
                rw [← Hdl.out] at this
                exact this
              have hq1 : ((now) != (now)) = false := by simp
              have hq2 : (((dl : Nat) : Int) != ((dl : Nat) : Int)) = false := by simp
              have hq3 : (nx1 != nx1) = false := by simp
              have hq4 : (nx2 != nx2) = false := by simp
              go_wp2_with fail
              go_quiet ((first | (go_at_call 20; exact Calls.quiet_of_same (HNow.out _)) | (go_at_call 21; exact Calls.quiet_of_same (HLen.out _))))
              have HNZ : Hid (RunE w mo wb mb mB (k + 1) (.slice ta2 (tl + 1) tc2) (.slice na2 (tl + 1) nc2) (w9.drewN nq)) := ⟨_, _, _, _, _, _, _, _, _, HNY.out.below (below_drawsT w9 nq)⟩
              clear HNow HLen HNY
              go_wp2
              go_roundw
              case rel => exact ⟨k + 1, by omega, by go_num, HNZ⟩
              case measure => simp [intOf]; omega
            · have hge : now ≤ to := by omega
              have HDs := radv_ok now mo (.slice ai dl ci) (.slice aa dl ca) D to wA (by omega) HRA.out.rise HRA.out.law.I HRA.out.law.A hge
              unfold refV at HDs
              go_wp2_with fail
              refine HDs.mono ?_
              clear HDs m0 m1 m2 m3
              rintro e w5 ⟨vi5, va5, out, fs, D5, rfl, hI5, hA5, hO5, hb5, hFi, hSub, hsI, hsA⟩
              unfold refV
              obtain ⟨a5, c5, hv5⟩ := ownsRow_len hI5
              obtain ⟨b5, e5, hu5⟩ := ownsRow_len hA5
              obtain ⟨dl5, Hdl5⟩ : ∃ dl5, Hid (dl5 = D5.length) := ⟨_, rfl⟩
              rw [List.length_map, List.length_map, ← Hdl5.out] at hv5 hu5
              obtain ⟨oa, oc, ho5⟩ := ownsRow_len hO5
              obtain ⟨on, Hon⟩ : ∃ on, Hid (on = (fs.map idV).length) := ⟨_, rfl⟩
              rw [← Hon.out] at ho5
              subst hv5 hu5 ho5
              obtain ⟨w6, HW6⟩ : ∃ w6, Hid (w6 = w5.alloc (.cells #[.int .u64 to, .int .i64 mo, .slice a5 dl5 c5, .slice b5 dl5 e5] 30)) := ⟨_, rfl⟩
              have hbb : Below w5.heap.size w5 w6 := by rw [HW6.out]; exact (Below.refl _ _).alloc (Nat.le_refl _) _
              have HW60 : Hid (WhAt w6 S wb mb mo now sets v L) := (HRA.out.wh.below hb5).below hbb
              have HSp := adv_ok w6 to HW60.out hge (by rw [hLD]; omega)
              have HOo : Hid (w6.ownsRow wA.heap.size 3 1 (.slice oa on oc) (fs.map idV).length (fs.map idV)) := ownsRow_below hO5 hbb
              have HFi : Hid (Fires to D fs D5 ∧ D5.Sublist D) := ⟨hFi, hSub⟩
              have HS6 : Hid (wA.heap.size ≤ w6.heap.size) := Nat.le_trans hb5.size hbb.size
              go_upto_region 28 with fail
              rw [← HW6.out]
              go_wp2_with fail
              refine HSp.mono ?_
              clear HSp
              rintro e w8 ⟨r8, v8, fsL, R8, rfl, hW8, hF8, ho8, hf8⟩
              obtain ⟨hids, hrel8, hfl⟩ := HRA.out.fires hF8 hFi
              obtain ⟨ra, rc, hr8⟩ := ownsRow_len ho8
              obtain ⟨rn, Hrn⟩ : ∃ rn, Hid (rn = (fsL.map idV).length) := ⟨_, rfl⟩
              rw [← Hrn.out] at hr8
              subst hr8
              obtain ⟨ids, Hids⟩ : ∃ ids : List Int, Hid (ids = fs.map (·.id)) := ⟨_, rfl⟩
              have HRr : Hid (RowI w8 (.slice ra rn rc) ids) := by
                rw [Hids.out, ← hids]
                rw [idV_row] at ho8
                exact RowI.of ho8
              have HnR : Hid (∀ q, (Value.slice ra rn rc).ownBlock = some q → ¬ S q) := fun q hq hS => by
                have h1 := (World.ownsRow.lt ho8 q hq).1
                have h2 := HRA.out.wh.sb q hS
                have h3 := HS6.out
                omega
              have HnO : Hid (∀ q, (Value.slice oa on oc).ownBlock = some q → ¬ S q) := fun q hq hS => by
                have h1 := (World.ownsRow.lt HOo.out q hq).1
                have h2 := HRA.out.wh.sb q hS
                omega
              have HRo : Hid (RowI w8 (.slice oa on oc) ids) := by
                rw [Hids.out]
                have h1 := HOo.out
                rw [idV_row] at h1
                exact (RowI.of h1).frm hf8 HnO.out
              have hidl : ids.length ≤ k := by
                rw [Hids.out, List.length_map]
                have := hFi.perm.length_eq
                rw [List.length_append] at this
                omega
              have HW8 : Hid (WhAt w8 S wb mb mo to sets v8 R8) := hW8
              have HF8 : Hid (Frm S (w5.alloc (.cells #[.int .u64 to, .int .i64 mo, .slice a5 dl5 c5, .slice b5 dl5 e5] 30)) w8) := by rw [← HW6.out]; exact hf8
              have HRl : Hid ((R8.map z0).Perm D5) := hrel8
              have HRs : Hid (Rising D5) := HRA.out.rise.sub hSub
              have HTn : Hid (∀ x ∈ D5, x.turn ≤ sets) := fun x hx => HRA.out.turn x (hSub.subset hx)
              have HDl : Hid (D5.length ≤ k + 1) := by show D5.length ≤ k + 1; have := hSub.length_le; omega
              clear hbb HW60 hids hrel8 hfl hF8 ho8 hf8 hW8 hO5 hFi HOo
              have hAd := HRA.out.adv (now5 := to) (D' := D5) hb5 hI5 hA5 hsI hsA HW8.out HF8.out
              unfold st4 at hAd
              obtain ⟨w9, HW9⟩ : ∃ w9, Hid (w9 = (((w8.setCell ⟨mB, 0, none⟩ (.int .u64 (to))).setCell ⟨mB, 1, none⟩ (.int .i64 mo)).setCell ⟨mB, 2, none⟩ (.slice a5 dl5 c5)).setCell ⟨mB, 3, none⟩ (.slice b5 dl5 e5)) := ⟨_, rfl⟩
              rw [← HW9.out] at hAd
              have HAd : Hid (WhAt w9 S wb mb mo (to) sets v8 (R8) ∧ LawP w S mB mo (to) (.slice a5 dl5 c5) (.slice b5 dl5 e5) (.slice ta tl tc) (.slice na tl nc) (D5) TW w9 ∧ Below w.heap.size w w9) := ⟨hAd.1, hAd.2.1, hAd.2.2.1⟩
              have hm8 := hAd.2.2.2
              have hnbA : wA.heap.size ≤ w5.heap.size := hb5.size
              have hn8 : w8.heap[w5.heap.size]? = some (.cells #[.int .u64 (to), .int .i64 mo, .slice a5 dl5 c5, .slice b5 dl5 e5] 30) := by
                have hne : ¬ S w5.heap.size := fun hS => by have := HRA.out.wh.sb _ hS; omega
                have hlt' : w5.heap.size < (w5.alloc (.cells #[.int .u64 (to), .int .i64 mo, .slice a5 dl5 c5, .slice b5 dl5 e5] 30)).heap.size := by simp [World.size_alloc]
                exact (HF8.out.block _ hlt' hne).trans (heap_alloc_new w5 _)
              have HR9 : Hid (RowI w9 (.slice ra rn rc) ids ∧ RowI w9 (.slice oa on oc) ids) := by
                rw [HW9.out]
                exact ⟨ownsRow_keep HRr.out (fun q hq => st4_other _ _ _ _ _ _ (ne_ty (ownsRow_ty HRr.out hq) hm8 (by decide))), ownsRow_keep HRo.out (fun q hq => st4_other _ _ _ _ _ _ (ne_ty (ownsRow_ty HRo.out hq) hm8 (by decide)))⟩
              have x0 : w8.cell? ⟨w5.heap.size, 0, none⟩ = some (.int .u64 (to)) := by rw [cell_blkT hn8]; rfl
              have x1 : w8.cell? ⟨w5.heap.size, 1, none⟩ = some (.int .i64 mo) := by rw [cell_blkT hn8]; rfl
              have x2 : w8.cell? ⟨w5.heap.size, 2, none⟩ = some (.slice a5 dl5 c5) := by rw [cell_blkT hn8]; rfl
              have x3 : w8.cell? ⟨w5.heap.size, 3, none⟩ = some (.slice b5 dl5 e5) := by rw [cell_blkT hn8]; rfl
              have y0 : w8.cell? ⟨mB, 0, none⟩ = some (.int .u64 now) := by rw [cell_blkT hm8]; rfl
              have y1 : w8.cell? ⟨mB, 1, none⟩ = some (.int .i64 mo) := by rw [cell_blkT hm8]; rfl
              have y2 : w8.cell? ⟨mB, 2, none⟩ = some (.slice ai dl ci) := by rw [cell_blkT hm8]; rfl
              have y3 : w8.cell? ⟨mB, 3, none⟩ = some (.slice aa dl ca) := by rw [cell_blkT hm8]; rfl
              have yf : ∀ q, w8.frozen? ⟨mB, q, none⟩ = false := fun q => frozen_blkT hm8
              clear hAd hm8 hn8 hb5 hI5 hA5 hnbA
              go_upto_region 30 with fail
              rw [← HW9.out]
              clear x0 x1 x2 x3 y0 y1 y2 y3 yf
              have hrn : ids.length = rn := (RowI.iat HR9.out.1).2.symm
              have hon : ids.length = on := (RowI.iat HR9.out.2).2.symm
              have HSm := sameI_calls ra oa rc oc ids ids w9 (by omega) (by omega) (RowI.iat HR9.out.1).1 (RowI.iat HR9.out.2).1
              have hdec : decide (ids = ids) = true := by simp
              rw [hdec] at HSm
              obtain ⟨il, Hil⟩ : ∃ il, Hid (il = ids.length) := ⟨_, rfl⟩
              rw [← Hil.out] at hrn hon HSm hidl
              subst hrn hon
              go_wp2_with fail
              refine HSm.mono ?_
              clear HSm hdec
              rintro e w10 ⟨rfl, q10, hw10⟩
              have HB10 : Hid (Below w9.heap.size w9 w10) := by rw [hw10]; exact below_drawsT w9 q10
              clear hw10
              have HL10 : Hid (WhAt w10 S wb mb mo (to) sets v8 (R8) ∧ LawP w S mB mo (to) (.slice a5 dl5 c5) (.slice b5 dl5 e5) (.slice ta tl tc) (.slice na tl nc) (D5) TW w10 ∧ Below w.heap.size w w10) := ⟨HAd.out.1.below HB10.out, HAd.out.2.1.below HB10.out, HAd.out.2.2.trans (HB10.out.mono HAd.out.2.2.size)⟩
              have hs10 : w.heap.size ≤ w10.heap.size := HL10.out.2.2.size
              have htl1 : (TW.map (·.1)).length = tl := by rw [List.length_map]; exact Htl.out.symm
              have htl2 : (TW.map (·.2.1)).length = tl := by rw [List.length_map]; exact Htl.out.symm
              have htk : tl ≤ k := by rw [Htl.out]; exact hTk
              go_wp2_with (at_builtin; refine append_valT w10 rfl (.tmp 114) (.tmp 116) 32 27 (.slice none 0 0) 24 Try.underlying32 infoSl rfl rfl w.heap.size (.slice ta tl tc) (TW.map (·.1)) rfl (.slice ra il rc) rfl w10.heap.size rfl rfl HL10.out.2.1.T (by rw [htl1]; omega) (by rw [htl1]; omega) hs10 ?_)
              intro t11 w11 ho11 hg11
              have HO11 : Hid (w11.ownsRow w.heap.size 27 1 t11 (List.map (fun (p : Tw) => p.1) TW ++ [Value.slice ra il rc]).length (List.map (fun (p : Tw) => p.1) TW ++ [Value.slice ra il rc])) := by
                show w11.ownsRow w.heap.size 27 1 t11 (List.map (fun (p : Tw) => p.1) TW ++ [Value.slice ra il rc]).length (List.map (fun (p : Tw) => p.1) TW ++ [Value.slice ra il rc])
                rw [List.length_append, htl1]
                simpa using ho11
              have HG11 : Hid (Grew w10 w11 (.slice ta tl tc) t11) := hg11
              have HN11 : Hid (w11.ownsRow w.heap.size 27 1 (.slice na tl nc) (TW.map (·.2.1)).length (TW.map (·.2.1))) := ownsRow_keep HL10.out.2.1.N (fun q hq => hg11.grown.block q (World.ownsRow.lt HL10.out.2.1.N q hq).2 (fun e => HL10.out.2.1.sep q e.symm hq))
              have hs11 : w.heap.size ≤ w11.heap.size := Nat.le_trans hs10 hg11.grown.size
              obtain ⟨ta2, tc2, ht11⟩ := ownsRow_len HO11.out
              rw [List.length_append, htl1] at ht11
              have ht11' : t11 = .slice ta2 (tl + 1) tc2 := by rw [ht11]; simp
              subst ht11'
              clear ho11 hg11 ht11
              go_wp2_with (at_builtin; refine append_valT w11 rfl (.tmp 118) (.tmp 120) 32 27 (.slice none 0 0) 24 Try.underlying32 infoSl rfl rfl w.heap.size (.slice na tl nc) (TW.map (·.2.1)) rfl (.slice oa il oc) rfl w11.heap.size rfl rfl HN11.out (by rw [htl2]; omega) (by rw [htl2]; omega) hs11 ?_)
              intro t12 w12 ho12 hg12
              have HO12 : Hid (w12.ownsRow w.heap.size 27 1 t12 (List.map (fun (p : Tw) => p.2.1) TW ++ [Value.slice oa il oc]).length (List.map (fun (p : Tw) => p.2.1) TW ++ [Value.slice oa il oc])) := by
                show w12.ownsRow w.heap.size 27 1 t12 (List.map (fun (p : Tw) => p.2.1) TW ++ [Value.slice oa il oc]).length (List.map (fun (p : Tw) => p.2.1) TW ++ [Value.slice oa il oc])
                rw [List.length_append, htl2]
                simpa using ho12
              have HG12 : Hid (Grew w11 w12 (.slice na tl nc) t12) := hg12
              obtain ⟨na2, nc2, ht12⟩ := ownsRow_len HO12.out
              rw [List.length_append, htl2] at ht12
              have ht12' : t12 = .slice na2 (tl + 1) nc2 := by rw [ht12]; simp
              subst ht12'
              clear ho12 hg12 ht12
              have HNX : Hid (RunI w mo wb mb mB (k + 1) (.slice ta2 (tl + 1) tc2) (.slice na2 (tl + 1) nc2) S v8 (.slice a5 dl5 c5) (.slice b5 dl5 e5) (R8) (D5) (to) sets (TW ++ [(.slice ra il rc, .slice oa il oc, ids)]) w12) := by
                obtain ⟨hP, hPf⟩ := HL10.out.2.1.push HL10.out.1.sb hs10 HO11.out HG11.out HO12.out HG12.out (HR9.out.1.below HB10.out) (HR9.out.2.below HB10.out) HnR.out HnO.out
                have hdj : ∀ q, S q → ¬ ((Value.slice ta tl tc).ownBlock = some q ∨ (Value.slice na tl nc).ownBlock = some q) := fun q hS e => by
                  rcases e with e | e
                  · exact HL10.out.2.1.sT q e hS
                  · exact HL10.out.2.1.sN q e hS
                have hlo : ∀ q, ((Value.slice ta tl tc).ownBlock = some q ∨ (Value.slice na tl nc).ownBlock = some q) → w.heap.size ≤ q := fun q e => by
                  rcases e with e | e
                  · exact (World.ownsRow.lt HL10.out.2.1.T q e).1
                  · exact (World.ownsRow.lt HL10.out.2.1.N q e).1
                refine ⟨HL10.out.1.frm hPf hdj, hP, HL10.out.2.2.trans (hPf.toBelow hs10 hlo), HRA.out.nS, HRl.out, HRs.out, HTn.out, ⟨HSZ.out.2.2.2.1, by have := HSZ.out.2.2.2.2.1; omega⟩, ⟨by have := HTO.out; omega, by have := HTO.out; omega⟩, HDl.out, by simp; omega, fun p hp => ?_⟩
                rcases List.mem_append.1 hp with hp | hp
                · exact Nat.le_succ_of_le (HRA.out.twn p hp)
                · rw [List.mem_singleton.1 hp]; show ids.length ≤ k + 1; rw [← Hil.out]; omega
              clear HAd HL10 HO11 HG11 HN11 HO12 HG12 HR9
              obtain ⟨nx, Hnx⟩ : ∃ nx, Hid (nx = nextOf (R8)) := ⟨_, rfl⟩
              have HNx := wnext_calls w12 HNX.out.wh
              rw [← Hnx.out] at HNx
              have hD8 : (D5).length ≤ k + 1 := HNX.out.len
              have HRn := rnext_calls to mo (.slice a5 dl5 c5) (.slice b5 dl5 e5) ((D5).map (·.tm)) w12 (by rw [List.length_map]; omega) HNX.out.law.A ⟨_, _, _, rfl⟩
              unfold refV at HRn
              have z0' : w12.cell? ⟨mB, 0, none⟩ = some (.int .u64 (to)) := by rw [cell_blkT HNX.out.law.blk]; rfl
              have z1' : w12.cell? ⟨mB, 1, none⟩ = some (.int .i64 mo) := by rw [cell_blkT HNX.out.law.blk]; rfl
              have z2' : w12.cell? ⟨mB, 2, none⟩ = some (.slice a5 dl5 c5) := by rw [cell_blkT HNX.out.law.blk]; rfl
              have z3' : w12.cell? ⟨mB, 3, none⟩ = some (.slice b5 dl5 e5) := by rw [cell_blkT HNX.out.law.blk]; rfl
              obtain ⟨nx1, nx2⟩ := nx
              go_wp2_with fail
              refine HNx.mono ?_
              clear HNx
              rintro e wx ⟨rfl, rfl⟩
              go_wp2_with fail
              refine HRn.mono ?_
              clear HRn z0' z1' z2' z3'
              rintro e w9 ⟨i9, hL9, rfl, hb9⟩
              rw [List.length_map] at hL9
              rw [HNX.out.next hL9, ← Hnx.out]
              have HNY : Hid (RunI w mo wb mb mB (k + 1) (.slice ta2 (tl + 1) tc2) (.slice na2 (tl + 1) nc2) S v8 (.slice a5 dl5 c5) (.slice b5 dl5 e5) (R8) ((D5)) (to) (sets) ((TW ++ [(.slice ra il rc, .slice oa il oc, ids)])) w9) := HNX.out.below hb9
              clear hL9 hb9 HNX
              have y0 : w9.cell? ⟨mB, 0, none⟩ = some (.int .u64 (to)) := by rw [cell_blkT HNY.out.law.blk]; rfl
              have y2 : w9.cell? ⟨mB, 2, none⟩ = some (.slice a5 dl5 c5) := by rw [cell_blkT HNY.out.law.blk]; rfl
              have HNow : Hid (∀ q, Calls Try.prog 20 #[.pointer (some ⟨wb, 0, none⟩)] (w9.drewN q) fun e w' => e = .returned (.int .u64 (to)) ∧ w' = w9.drewN q) := fun q => wnow_calls _ (HNY.out.wh.draws q)
              have HLen : Hid (∀ q, Calls Try.prog 21 #[.pointer (some ⟨wb, 0, none⟩)] (w9.drewN q) fun e w' => e = .returned (.int .i64 (dl5 : Int)) ∧ w' = w9.drewN q) := fun q => by
                have := wlen_calls _ (HNY.out.wh.draws q)
                rw [HNY.out.lenL] at this
                rw [← Hdl5.out] at this
                exact this
              have hq1 : ((to) != (to)) = false := by simp
              have hq2 : (((dl5 : Nat) : Int) != ((dl5 : Nat) : Int)) = false := by simp
              have hq3 : (nx1 != nx1) = false := by simp
              have hq4 : (nx2 != nx2) = false := by simp
              go_wp2_with fail
              go_quiet ((first | (go_at_call 20; exact Calls.quiet_of_same (HNow.out _)) | (go_at_call 21; exact Calls.quiet_of_same (HLen.out _))))
              have HNZ : Hid (RunE w mo wb mb mB (k + 1) (.slice ta2 (tl + 1) tc2) (.slice na2 (tl + 1) nc2) (w9.drewN nq)) := ⟨_, _, _, _, _, _, _, _, _, HNY.out.below (below_drawsT w9 nq)⟩
              clear HNow HLen HNY
              go_wp2
              go_roundw
              case rel => exact ⟨k + 1, by omega, by go_num, HNZ⟩
              case measure => simp [intOf]; omega
          · by_cases h3 : kd = 3
            · subst h3
              obtain ⟨to, Hto⟩ : ∃ to, Hid (to = at') := ⟨_, rfl⟩
              have HTO : Hid (0 ≤ to ∧ to ≤ 18446744073709551615) := by rw [Hto.out]; exact HAT.out
              go_upto_region 27 with fail
              rw [← Hto.out]
              by_cases hpast : to < now
              · have HDs := radv_past now mo (.slice ai dl ci) (.slice aa dl ca) (D.map (·.id)) (D.map (·.tm)) to wA (by rw [List.length_map]; omega) (by rw [List.length_map, List.length_map]) HRA.out.law.I HRA.out.law.A hpast
                unfold refV at HDs
                go_wp2_with fail
                refine HDs.mono ?_
                clear HDs m0 m1 m2 m3
                rintro e w5 ⟨rfl, hb5⟩
                have hI5 : RowI w5 (.slice ai dl ci) (D.map (·.id)) := HRA.out.law.I.below hb5
                have hA5 : RowU w5 (.slice aa dl ca) (D.map (·.tm)) := HRA.out.law.A.below hb5
                have hbb : Below w5.heap.size w5 (w5.alloc (.cells #[.int .u64 now, .int .i64 mo, .slice ai dl ci, .slice aa dl ca] 30)) := (Below.refl _ _).alloc (Nat.le_refl _) _
                obtain ⟨w6, HW6⟩ : ∃ w6, Hid (w6 = w5.alloc (.cells #[.int .u64 now, .int .i64 mo, .slice ai dl ci, .slice aa dl ca] 30)) := ⟨_, rfl⟩
                rw [← HW6.out] at hbb
                have HSp := adv_past w6 to ((HRA.out.wh.below hb5).below hbb) hpast
                have HW60 : Hid (WhAt w6 S wb mb mo now sets v L) := (HRA.out.wh.below hb5).below hbb
                go_upto_region 28 with fail
                rw [← HW6.out]
                go_wp2_with fail
                refine HSp.mono ?_
                clear HSp
                rintro e w8 ⟨rfl, rfl⟩
                have HRr : Hid (RowI w8 (.slice none 0 0) []) := World.ownsRow_nil _ _ _ _
                have HRo : Hid (RowI w8 (.slice none 0 0) []) := World.ownsRow_nil _ _ _ _
                have HnR : Hid (∀ q, (Value.slice none 0 0).ownBlock = some q → ¬ S q) := fun q hq => (by cases hq)
                have HnO : Hid (∀ q, (Value.slice none 0 0).ownBlock = some q → ¬ S q) := fun q hq => (by cases hq)
                have HW8 : Hid (WhAt w8 S wb mb mo now sets v L) := HW60.out
                have HF8 : Hid (Frm S (w5.alloc (.cells #[.int .u64 now, .int .i64 mo, .slice ai dl ci, .slice aa dl ca] 30)) w8) := by rw [HW6.out]; exact Frm.refl _ _
                have HRl : Hid ((L.map z0).Perm D) := HRA.out.rel
                have HRs : Hid (Rising D) := HRA.out.rise
                have HTn : Hid (∀ x ∈ D, x.turn ≤ sets) := HRA.out.turn
                have HDl : Hid (D.length ≤ k + 1) := by show D.length ≤ k + 1; omega
                clear hbb HW60
                have hAd := HRA.out.adv (now5 := now) (D' := D) hb5 hI5 hA5 (fun q hq => .inl hq) (fun q hq => .inl hq) HW8.out HF8.out
                unfold st4 at hAd
                obtain ⟨w9, HW9⟩ : ∃ w9, Hid (w9 = (((w8.setCell ⟨mB, 0, none⟩ (.int .u64 (now))).setCell ⟨mB, 1, none⟩ (.int .i64 mo)).setCell ⟨mB, 2, none⟩ (.slice ai dl ci)).setCell ⟨mB, 3, none⟩ (.slice aa dl ca)) := ⟨_, rfl⟩
                rw [← HW9.out] at hAd
                have HAd : Hid (WhAt w9 S wb mb mo (now) sets v (L) ∧ LawP w S mB mo (now) (.slice ai dl ci) (.slice aa dl ca) (.slice ta tl tc) (.slice na tl nc) (D) TW w9 ∧ Below w.heap.size w w9) := ⟨hAd.1, hAd.2.1, hAd.2.2.1⟩
                have hm8 := hAd.2.2.2
                have hnbA : wA.heap.size ≤ w5.heap.size := hb5.size
                have hn8 : w8.heap[w5.heap.size]? = some (.cells #[.int .u64 (now), .int .i64 mo, .slice ai dl ci, .slice aa dl ca] 30) := by
                  have hne : ¬ S w5.heap.size := fun hS => by have := HRA.out.wh.sb _ hS; omega
                  have hlt' : w5.heap.size < (w5.alloc (.cells #[.int .u64 (now), .int .i64 mo, .slice ai dl ci, .slice aa dl ca] 30)).heap.size := by simp [World.size_alloc]
                  exact (HF8.out.block _ hlt' hne).trans (heap_alloc_new w5 _)
                have HR9 : Hid (RowI w9 (.slice none 0 0) [] ∧ RowI w9 (.slice none 0 0) []) := by
                  rw [HW9.out]
                  exact ⟨ownsRow_keep HRr.out (fun q hq => st4_other _ _ _ _ _ _ (ne_ty (ownsRow_ty HRr.out hq) hm8 (by decide))), ownsRow_keep HRo.out (fun q hq => st4_other _ _ _ _ _ _ (ne_ty (ownsRow_ty HRo.out hq) hm8 (by decide)))⟩
                have x0 : w8.cell? ⟨w5.heap.size, 0, none⟩ = some (.int .u64 (now)) := by rw [cell_blkT hn8]; rfl
                have x1 : w8.cell? ⟨w5.heap.size, 1, none⟩ = some (.int .i64 mo) := by rw [cell_blkT hn8]; rfl
                have x2 : w8.cell? ⟨w5.heap.size, 2, none⟩ = some (.slice ai dl ci) := by rw [cell_blkT hn8]; rfl
                have x3 : w8.cell? ⟨w5.heap.size, 3, none⟩ = some (.slice aa dl ca) := by rw [cell_blkT hn8]; rfl
                have y0 : w8.cell? ⟨mB, 0, none⟩ = some (.int .u64 now) := by rw [cell_blkT hm8]; rfl
                have y1 : w8.cell? ⟨mB, 1, none⟩ = some (.int .i64 mo) := by rw [cell_blkT hm8]; rfl
                have y2 : w8.cell? ⟨mB, 2, none⟩ = some (.slice ai dl ci) := by rw [cell_blkT hm8]; rfl
                have y3 : w8.cell? ⟨mB, 3, none⟩ = some (.slice aa dl ca) := by rw [cell_blkT hm8]; rfl
                have yf : ∀ q, w8.frozen? ⟨mB, q, none⟩ = false := fun q => frozen_blkT hm8
                clear hAd hm8 hn8 hb5 hI5 hA5 hnbA
                go_upto_region 30 with fail
                rw [← HW9.out]
                clear x0 x1 x2 x3 y0 y1 y2 y3 yf
                have HSm := sameI_calls none none 0 0 [] [] w9 (by decide) (by decide) (fun k hk => absurd hk (Nat.not_lt_zero _)) (fun k hk => absurd hk (Nat.not_lt_zero _))
                have hdec : decide (([] : List Int) = []) = true := rfl
                rw [hdec] at HSm
                simp only [List.length_nil] at HSm
                go_wp2_with fail
                refine HSm.mono ?_
                clear HSm hdec
                rintro e w10 ⟨rfl, q10, hw10⟩
                have HB10 : Hid (Below w9.heap.size w9 w10) := by rw [hw10]; exact below_drawsT w9 q10
                clear hw10
                have HL10 : Hid (WhAt w10 S wb mb mo (now) sets v (L) ∧ LawP w S mB mo (now) (.slice ai dl ci) (.slice aa dl ca) (.slice ta tl tc) (.slice na tl nc) (D) TW w10 ∧ Below w.heap.size w w10) := ⟨HAd.out.1.below HB10.out, HAd.out.2.1.below HB10.out, HAd.out.2.2.trans (HB10.out.mono HAd.out.2.2.size)⟩
                have hs10 : w.heap.size ≤ w10.heap.size := HL10.out.2.2.size
                have htl1 : (TW.map (·.1)).length = tl := by rw [List.length_map]; exact Htl.out.symm
                have htl2 : (TW.map (·.2.1)).length = tl := by rw [List.length_map]; exact Htl.out.symm
                have htk : tl ≤ k := by rw [Htl.out]; exact hTk
                go_wp2_with (at_builtin; refine append_valT w10 rfl (.tmp 114) (.tmp 116) 32 27 (.slice none 0 0) 24 Try.underlying32 infoSl rfl rfl w.heap.size (.slice ta tl tc) (TW.map (·.1)) rfl (.slice none 0 0) rfl w10.heap.size rfl rfl HL10.out.2.1.T (by rw [htl1]; omega) (by rw [htl1]; omega) hs10 ?_)
                intro t11 w11 ho11 hg11
                have HO11 : Hid (w11.ownsRow w.heap.size 27 1 t11 (List.map (fun (p : Tw) => p.1) TW ++ [Value.slice none 0 0]).length (List.map (fun (p : Tw) => p.1) TW ++ [Value.slice none 0 0])) := by
                  show w11.ownsRow w.heap.size 27 1 t11 (List.map (fun (p : Tw) => p.1) TW ++ [Value.slice none 0 0]).length (List.map (fun (p : Tw) => p.1) TW ++ [Value.slice none 0 0])
                  rw [List.length_append, htl1]
                  simpa using ho11
                have HG11 : Hid (Grew w10 w11 (.slice ta tl tc) t11) := hg11
                have HN11 : Hid (w11.ownsRow w.heap.size 27 1 (.slice na tl nc) (TW.map (·.2.1)).length (TW.map (·.2.1))) := ownsRow_keep HL10.out.2.1.N (fun q hq => hg11.grown.block q (World.ownsRow.lt HL10.out.2.1.N q hq).2 (fun e => HL10.out.2.1.sep q e.symm hq))
                have hs11 : w.heap.size ≤ w11.heap.size := Nat.le_trans hs10 hg11.grown.size
                obtain ⟨ta2, tc2, ht11⟩ := ownsRow_len HO11.out
                rw [List.length_append, htl1] at ht11
                have ht11' : t11 = .slice ta2 (tl + 1) tc2 := by rw [ht11]; simp
                subst ht11'
                clear ho11 hg11 ht11
                go_wp2_with (at_builtin; refine append_valT w11 rfl (.tmp 118) (.tmp 120) 32 27 (.slice none 0 0) 24 Try.underlying32 infoSl rfl rfl w.heap.size (.slice na tl nc) (TW.map (·.2.1)) rfl (.slice none 0 0) rfl w11.heap.size rfl rfl HN11.out (by rw [htl2]; omega) (by rw [htl2]; omega) hs11 ?_)
                intro t12 w12 ho12 hg12
                have HO12 : Hid (w12.ownsRow w.heap.size 27 1 t12 (List.map (fun (p : Tw) => p.2.1) TW ++ [Value.slice none 0 0]).length (List.map (fun (p : Tw) => p.2.1) TW ++ [Value.slice none 0 0])) := by
                  show w12.ownsRow w.heap.size 27 1 t12 (List.map (fun (p : Tw) => p.2.1) TW ++ [Value.slice none 0 0]).length (List.map (fun (p : Tw) => p.2.1) TW ++ [Value.slice none 0 0])
                  rw [List.length_append, htl2]
                  simpa using ho12
                have HG12 : Hid (Grew w11 w12 (.slice na tl nc) t12) := hg12
                obtain ⟨na2, nc2, ht12⟩ := ownsRow_len HO12.out
                rw [List.length_append, htl2] at ht12
                have ht12' : t12 = .slice na2 (tl + 1) nc2 := by rw [ht12]; simp
                subst ht12'
                clear ho12 hg12 ht12
                have HNX : Hid (RunI w mo wb mb mB (k + 1) (.slice ta2 (tl + 1) tc2) (.slice na2 (tl + 1) nc2) S v (.slice ai dl ci) (.slice aa dl ca) (L) (D) (now) sets (TW ++ [(.slice none 0 0, .slice none 0 0, ([] : List Int))]) w12) := by
                  obtain ⟨hP, hPf⟩ := HL10.out.2.1.push HL10.out.1.sb hs10 HO11.out HG11.out HO12.out HG12.out (HR9.out.1.below HB10.out) (HR9.out.2.below HB10.out) HnR.out HnO.out
                  have hdj : ∀ q, S q → ¬ ((Value.slice ta tl tc).ownBlock = some q ∨ (Value.slice na tl nc).ownBlock = some q) := fun q hS e => by
                    rcases e with e | e
                    · exact HL10.out.2.1.sT q e hS
                    · exact HL10.out.2.1.sN q e hS
                  have hlo : ∀ q, ((Value.slice ta tl tc).ownBlock = some q ∨ (Value.slice na tl nc).ownBlock = some q) → w.heap.size ≤ q := fun q e => by
                    rcases e with e | e
                    · exact (World.ownsRow.lt HL10.out.2.1.T q e).1
                    · exact (World.ownsRow.lt HL10.out.2.1.N q e).1
                  refine ⟨HL10.out.1.frm hPf hdj, hP, HL10.out.2.2.trans (hPf.toBelow hs10 hlo), HRA.out.nS, HRl.out, HRs.out, HTn.out, ⟨HSZ.out.2.2.2.1, by have := HSZ.out.2.2.2.2.1; omega⟩, HRA.out.n0, HDl.out, by simp; omega, fun p hp => ?_⟩
                  rcases List.mem_append.1 hp with hp | hp
                  · exact Nat.le_succ_of_le (HRA.out.twn p hp)
                  · rw [List.mem_singleton.1 hp]; exact Nat.zero_le _
                clear HAd HL10 HO11 HG11 HN11 HO12 HG12 HR9
                obtain ⟨nx, Hnx⟩ : ∃ nx, Hid (nx = nextOf (L)) := ⟨_, rfl⟩
                have HNx := wnext_calls w12 HNX.out.wh
                rw [← Hnx.out] at HNx
                have hD8 : (D).length ≤ k + 1 := HNX.out.len
                have HRn := rnext_calls now mo (.slice ai dl ci) (.slice aa dl ca) ((D).map (·.tm)) w12 (by rw [List.length_map]; omega) HNX.out.law.A ⟨_, _, _, rfl⟩
                unfold refV at HRn
                have z0' : w12.cell? ⟨mB, 0, none⟩ = some (.int .u64 (now)) := by rw [cell_blkT HNX.out.law.blk]; rfl
                have z1' : w12.cell? ⟨mB, 1, none⟩ = some (.int .i64 mo) := by rw [cell_blkT HNX.out.law.blk]; rfl
                have z2' : w12.cell? ⟨mB, 2, none⟩ = some (.slice ai dl ci) := by rw [cell_blkT HNX.out.law.blk]; rfl
                have z3' : w12.cell? ⟨mB, 3, none⟩ = some (.slice aa dl ca) := by rw [cell_blkT HNX.out.law.blk]; rfl
                obtain ⟨nx1, nx2⟩ := nx
                go_wp2_with fail
                refine HNx.mono ?_
                clear HNx
                rintro e wx ⟨rfl, rfl⟩
                go_wp2_with fail
                refine HRn.mono ?_
                clear HRn z0' z1' z2' z3'
                rintro e w9 ⟨i9, hL9, rfl, hb9⟩
                rw [List.length_map] at hL9
                rw [HNX.out.next hL9, ← Hnx.out]
                have HNY : Hid (RunI w mo wb mb mB (k + 1) (.slice ta2 (tl + 1) tc2) (.slice na2 (tl + 1) nc2) S v (.slice ai dl ci) (.slice aa dl ca) (L) ((D)) (now) (sets) ((TW ++ [(.slice none 0 0, .slice none 0 0, ([] : List Int))])) w9) := HNX.out.below hb9
                clear hL9 hb9 HNX
                have y0 : w9.cell? ⟨mB, 0, none⟩ = some (.int .u64 (now)) := by rw [cell_blkT HNY.out.law.blk]; rfl
                have y2 : w9.cell? ⟨mB, 2, none⟩ = some (.slice ai dl ci) := by rw [cell_blkT HNY.out.law.blk]; rfl
                have HNow : Hid (∀ q, Calls Try.prog 20 #[.pointer (some ⟨wb, 0, none⟩)] (w9.drewN q) fun e w' => e = .returned (.int .u64 (now)) ∧ w' = w9.drewN q) := fun q => wnow_calls _ (HNY.out.wh.draws q)
                have HLen : Hid (∀ q, Calls Try.prog 21 #[.pointer (some ⟨wb, 0, none⟩)] (w9.drewN q) fun e w' => e = .returned (.int .i64 (dl : Int)) ∧ w' = w9.drewN q) := fun q => by
                  have := wlen_calls _ (HNY.out.wh.draws q)
                  rw [HNY.out.lenL] at this
                  rw [← Hdl.out] at this
                  exact this
                have hq1 : ((now) != (now)) = false := by simp
                have hq2 : (((dl : Nat) : Int) != ((dl : Nat) : Int)) = false := by simp
                have hq3 : (nx1 != nx1) = false := by simp
                have hq4 : (nx2 != nx2) = false := by simp
                go_wp2_with fail
                go_quiet ((first | (go_at_call 20; exact Calls.quiet_of_same (HNow.out _)) | (go_at_call 21; exact Calls.quiet_of_same (HLen.out _))))
                have HNZ : Hid (RunE w mo wb mb mB (k + 1) (.slice ta2 (tl + 1) tc2) (.slice na2 (tl + 1) nc2) (w9.drewN nq)) := ⟨_, _, _, _, _, _, _, _, _, HNY.out.below (below_drawsT w9 nq)⟩
                clear HNow HLen HNY
                go_wp2
                go_roundw
                case rel => exact ⟨k + 1, by omega, by go_num, HNZ⟩
                case measure => simp [intOf]; omega
              · have hge : now ≤ to := by omega
                have HDs := radv_ok now mo (.slice ai dl ci) (.slice aa dl ca) D to wA (by omega) HRA.out.rise HRA.out.law.I HRA.out.law.A hge
                unfold refV at HDs
                go_wp2_with fail
                refine HDs.mono ?_
                clear HDs m0 m1 m2 m3
                rintro e w5 ⟨vi5, va5, out, fs, D5, rfl, hI5, hA5, hO5, hb5, hFi, hSub, hsI, hsA⟩
                unfold refV
                obtain ⟨a5, c5, hv5⟩ := ownsRow_len hI5
                obtain ⟨b5, e5, hu5⟩ := ownsRow_len hA5
                obtain ⟨dl5, Hdl5⟩ : ∃ dl5, Hid (dl5 = D5.length) := ⟨_, rfl⟩
                rw [List.length_map, List.length_map, ← Hdl5.out] at hv5 hu5
                obtain ⟨oa, oc, ho5⟩ := ownsRow_len hO5
                obtain ⟨on, Hon⟩ : ∃ on, Hid (on = (fs.map idV).length) := ⟨_, rfl⟩
                rw [← Hon.out] at ho5
                subst hv5 hu5 ho5
                obtain ⟨w6, HW6⟩ : ∃ w6, Hid (w6 = w5.alloc (.cells #[.int .u64 to, .int .i64 mo, .slice a5 dl5 c5, .slice b5 dl5 e5] 30)) := ⟨_, rfl⟩
                have hbb : Below w5.heap.size w5 w6 := by rw [HW6.out]; exact (Below.refl _ _).alloc (Nat.le_refl _) _
                have HW60 : Hid (WhAt w6 S wb mb mo now sets v L) := (HRA.out.wh.below hb5).below hbb
                have HSp := adv_ok w6 to HW60.out hge (by rw [hLD]; omega)
                have HOo : Hid (w6.ownsRow wA.heap.size 3 1 (.slice oa on oc) (fs.map idV).length (fs.map idV)) := ownsRow_below hO5 hbb
                have HFi : Hid (Fires to D fs D5 ∧ D5.Sublist D) := ⟨hFi, hSub⟩
                have HS6 : Hid (wA.heap.size ≤ w6.heap.size) := Nat.le_trans hb5.size hbb.size
                go_upto_region 28 with fail
                rw [← HW6.out]
                go_wp2_with fail
                refine HSp.mono ?_
                clear HSp
                rintro e w8 ⟨r8, v8, fsL, R8, rfl, hW8, hF8, ho8, hf8⟩
                obtain ⟨hids, hrel8, hfl⟩ := HRA.out.fires hF8 hFi
                obtain ⟨ra, rc, hr8⟩ := ownsRow_len ho8
                obtain ⟨rn, Hrn⟩ : ∃ rn, Hid (rn = (fsL.map idV).length) := ⟨_, rfl⟩
                rw [← Hrn.out] at hr8
                subst hr8
                obtain ⟨ids, Hids⟩ : ∃ ids : List Int, Hid (ids = fs.map (·.id)) := ⟨_, rfl⟩
                have HRr : Hid (RowI w8 (.slice ra rn rc) ids) := by
                  rw [Hids.out, ← hids]
                  rw [idV_row] at ho8
                  exact RowI.of ho8
                have HnR : Hid (∀ q, (Value.slice ra rn rc).ownBlock = some q → ¬ S q) := fun q hq hS => by
                  have h1 := (World.ownsRow.lt ho8 q hq).1
                  have h2 := HRA.out.wh.sb q hS
                  have h3 := HS6.out
                  omega
                have HnO : Hid (∀ q, (Value.slice oa on oc).ownBlock = some q → ¬ S q) := fun q hq hS => by
                  have h1 := (World.ownsRow.lt HOo.out q hq).1
                  have h2 := HRA.out.wh.sb q hS
                  omega
                have HRo : Hid (RowI w8 (.slice oa on oc) ids) := by
                  rw [Hids.out]
                  have h1 := HOo.out
                  rw [idV_row] at h1
                  exact (RowI.of h1).frm hf8 HnO.out
                have hidl : ids.length ≤ k := by
                  rw [Hids.out, List.length_map]
                  have := hFi.perm.length_eq
                  rw [List.length_append] at this
                  omega
                have HW8 : Hid (WhAt w8 S wb mb mo to sets v8 R8) := hW8
                have HF8 : Hid (Frm S (w5.alloc (.cells #[.int .u64 to, .int .i64 mo, .slice a5 dl5 c5, .slice b5 dl5 e5] 30)) w8) := by rw [← HW6.out]; exact hf8
                have HRl : Hid ((R8.map z0).Perm D5) := hrel8
                have HRs : Hid (Rising D5) := HRA.out.rise.sub hSub
                have HTn : Hid (∀ x ∈ D5, x.turn ≤ sets) := fun x hx => HRA.out.turn x (hSub.subset hx)
                have HDl : Hid (D5.length ≤ k + 1) := by show D5.length ≤ k + 1; have := hSub.length_le; omega
                clear hbb HW60 hids hrel8 hfl hF8 ho8 hf8 hW8 hO5 hFi HOo
                have hAd := HRA.out.adv (now5 := to) (D' := D5) hb5 hI5 hA5 hsI hsA HW8.out HF8.out
                unfold st4 at hAd
                obtain ⟨w9, HW9⟩ : ∃ w9, Hid (w9 = (((w8.setCell ⟨mB, 0, none⟩ (.int .u64 (to))).setCell ⟨mB, 1, none⟩ (.int .i64 mo)).setCell ⟨mB, 2, none⟩ (.slice a5 dl5 c5)).setCell ⟨mB, 3, none⟩ (.slice b5 dl5 e5)) := ⟨_, rfl⟩
                rw [← HW9.out] at hAd
                have HAd : Hid (WhAt w9 S wb mb mo (to) sets v8 (R8) ∧ LawP w S mB mo (to) (.slice a5 dl5 c5) (.slice b5 dl5 e5) (.slice ta tl tc) (.slice na tl nc) (D5) TW w9 ∧ Below w.heap.size w w9) := ⟨hAd.1, hAd.2.1, hAd.2.2.1⟩
                have hm8 := hAd.2.2.2
                have hnbA : wA.heap.size ≤ w5.heap.size := hb5.size
                have hn8 : w8.heap[w5.heap.size]? = some (.cells #[.int .u64 (to), .int .i64 mo, .slice a5 dl5 c5, .slice b5 dl5 e5] 30) := by
                  have hne : ¬ S w5.heap.size := fun hS => by have := HRA.out.wh.sb _ hS; omega
                  have hlt' : w5.heap.size < (w5.alloc (.cells #[.int .u64 (to), .int .i64 mo, .slice a5 dl5 c5, .slice b5 dl5 e5] 30)).heap.size := by simp [World.size_alloc]
                  exact (HF8.out.block _ hlt' hne).trans (heap_alloc_new w5 _)
                have HR9 : Hid (RowI w9 (.slice ra rn rc) ids ∧ RowI w9 (.slice oa on oc) ids) := by
                  rw [HW9.out]
                  exact ⟨ownsRow_keep HRr.out (fun q hq => st4_other _ _ _ _ _ _ (ne_ty (ownsRow_ty HRr.out hq) hm8 (by decide))), ownsRow_keep HRo.out (fun q hq => st4_other _ _ _ _ _ _ (ne_ty (ownsRow_ty HRo.out hq) hm8 (by decide)))⟩
                have x0 : w8.cell? ⟨w5.heap.size, 0, none⟩ = some (.int .u64 (to)) := by rw [cell_blkT hn8]; rfl
                have x1 : w8.cell? ⟨w5.heap.size, 1, none⟩ = some (.int .i64 mo) := by rw [cell_blkT hn8]; rfl
                have x2 : w8.cell? ⟨w5.heap.size, 2, none⟩ = some (.slice a5 dl5 c5) := by rw [cell_blkT hn8]; rfl
                have x3 : w8.cell? ⟨w5.heap.size, 3, none⟩ = some (.slice b5 dl5 e5) := by rw [cell_blkT hn8]; rfl
                have y0 : w8.cell? ⟨mB, 0, none⟩ = some (.int .u64 now) := by rw [cell_blkT hm8]; rfl
                have y1 : w8.cell? ⟨mB, 1, none⟩ = some (.int .i64 mo) := by rw [cell_blkT hm8]; rfl
                have y2 : w8.cell? ⟨mB, 2, none⟩ = some (.slice ai dl ci) := by rw [cell_blkT hm8]; rfl
                have y3 : w8.cell? ⟨mB, 3, none⟩ = some (.slice aa dl ca) := by rw [cell_blkT hm8]; rfl
                have yf : ∀ q, w8.frozen? ⟨mB, q, none⟩ = false := fun q => frozen_blkT hm8
                clear hAd hm8 hn8 hb5 hI5 hA5 hnbA
                go_upto_region 30 with fail
                rw [← HW9.out]
                clear x0 x1 x2 x3 y0 y1 y2 y3 yf
                have hrn : ids.length = rn := (RowI.iat HR9.out.1).2.symm
                have hon : ids.length = on := (RowI.iat HR9.out.2).2.symm
                have HSm := sameI_calls ra oa rc oc ids ids w9 (by omega) (by omega) (RowI.iat HR9.out.1).1 (RowI.iat HR9.out.2).1
                have hdec : decide (ids = ids) = true := by simp
                rw [hdec] at HSm
                obtain ⟨il, Hil⟩ : ∃ il, Hid (il = ids.length) := ⟨_, rfl⟩
                rw [← Hil.out] at hrn hon HSm hidl
                subst hrn hon
                go_wp2_with fail
                refine HSm.mono ?_
                clear HSm hdec
                rintro e w10 ⟨rfl, q10, hw10⟩
                have HB10 : Hid (Below w9.heap.size w9 w10) := by rw [hw10]; exact below_drawsT w9 q10
                clear hw10
                have HL10 : Hid (WhAt w10 S wb mb mo (to) sets v8 (R8) ∧ LawP w S mB mo (to) (.slice a5 dl5 c5) (.slice b5 dl5 e5) (.slice ta tl tc) (.slice na tl nc) (D5) TW w10 ∧ Below w.heap.size w w10) := ⟨HAd.out.1.below HB10.out, HAd.out.2.1.below HB10.out, HAd.out.2.2.trans (HB10.out.mono HAd.out.2.2.size)⟩
                have hs10 : w.heap.size ≤ w10.heap.size := HL10.out.2.2.size
                have htl1 : (TW.map (·.1)).length = tl := by rw [List.length_map]; exact Htl.out.symm
                have htl2 : (TW.map (·.2.1)).length = tl := by rw [List.length_map]; exact Htl.out.symm
                have htk : tl ≤ k := by rw [Htl.out]; exact hTk
                go_wp2_with (at_builtin; refine append_valT w10 rfl (.tmp 114) (.tmp 116) 32 27 (.slice none 0 0) 24 Try.underlying32 infoSl rfl rfl w.heap.size (.slice ta tl tc) (TW.map (·.1)) rfl (.slice ra il rc) rfl w10.heap.size rfl rfl HL10.out.2.1.T (by rw [htl1]; omega) (by rw [htl1]; omega) hs10 ?_)
                intro t11 w11 ho11 hg11
                have HO11 : Hid (w11.ownsRow w.heap.size 27 1 t11 (List.map (fun (p : Tw) => p.1) TW ++ [Value.slice ra il rc]).length (List.map (fun (p : Tw) => p.1) TW ++ [Value.slice ra il rc])) := by
                  show w11.ownsRow w.heap.size 27 1 t11 (List.map (fun (p : Tw) => p.1) TW ++ [Value.slice ra il rc]).length (List.map (fun (p : Tw) => p.1) TW ++ [Value.slice ra il rc])
                  rw [List.length_append, htl1]
                  simpa using ho11
                have HG11 : Hid (Grew w10 w11 (.slice ta tl tc) t11) := hg11
                have HN11 : Hid (w11.ownsRow w.heap.size 27 1 (.slice na tl nc) (TW.map (·.2.1)).length (TW.map (·.2.1))) := ownsRow_keep HL10.out.2.1.N (fun q hq => hg11.grown.block q (World.ownsRow.lt HL10.out.2.1.N q hq).2 (fun e => HL10.out.2.1.sep q e.symm hq))
                have hs11 : w.heap.size ≤ w11.heap.size := Nat.le_trans hs10 hg11.grown.size
                obtain ⟨ta2, tc2, ht11⟩ := ownsRow_len HO11.out
                rw [List.length_append, htl1] at ht11
                have ht11' : t11 = .slice ta2 (tl + 1) tc2 := by rw [ht11]; simp
                subst ht11'
                clear ho11 hg11 ht11
                go_wp2_with (at_builtin; refine append_valT w11 rfl (.tmp 118) (.tmp 120) 32 27 (.slice none 0 0) 24 Try.underlying32 infoSl rfl rfl w.heap.size (.slice na tl nc) (TW.map (·.2.1)) rfl (.slice oa il oc) rfl w11.heap.size rfl rfl HN11.out (by rw [htl2]; omega) (by rw [htl2]; omega) hs11 ?_)
                intro t12 w12 ho12 hg12
                have HO12 : Hid (w12.ownsRow w.heap.size 27 1 t12 (List.map (fun (p : Tw) => p.2.1) TW ++ [Value.slice oa il oc]).length (List.map (fun (p : Tw) => p.2.1) TW ++ [Value.slice oa il oc])) := by
                  show w12.ownsRow w.heap.size 27 1 t12 (List.map (fun (p : Tw) => p.2.1) TW ++ [Value.slice oa il oc]).length (List.map (fun (p : Tw) => p.2.1) TW ++ [Value.slice oa il oc])
                  rw [List.length_append, htl2]
                  simpa using ho12
                have HG12 : Hid (Grew w11 w12 (.slice na tl nc) t12) := hg12
                obtain ⟨na2, nc2, ht12⟩ := ownsRow_len HO12.out
                rw [List.length_append, htl2] at ht12
                have ht12' : t12 = .slice na2 (tl + 1) nc2 := by rw [ht12]; simp
                subst ht12'
                clear ho12 hg12 ht12
                have HNX : Hid (RunI w mo wb mb mB (k + 1) (.slice ta2 (tl + 1) tc2) (.slice na2 (tl + 1) nc2) S v8 (.slice a5 dl5 c5) (.slice b5 dl5 e5) (R8) (D5) (to) sets (TW ++ [(.slice ra il rc, .slice oa il oc, ids)]) w12) := by
                  obtain ⟨hP, hPf⟩ := HL10.out.2.1.push HL10.out.1.sb hs10 HO11.out HG11.out HO12.out HG12.out (HR9.out.1.below HB10.out) (HR9.out.2.below HB10.out) HnR.out HnO.out
                  have hdj : ∀ q, S q → ¬ ((Value.slice ta tl tc).ownBlock = some q ∨ (Value.slice na tl nc).ownBlock = some q) := fun q hS e => by
                    rcases e with e | e
                    · exact HL10.out.2.1.sT q e hS
                    · exact HL10.out.2.1.sN q e hS
                  have hlo : ∀ q, ((Value.slice ta tl tc).ownBlock = some q ∨ (Value.slice na tl nc).ownBlock = some q) → w.heap.size ≤ q := fun q e => by
                    rcases e with e | e
                    · exact (World.ownsRow.lt HL10.out.2.1.T q e).1
                    · exact (World.ownsRow.lt HL10.out.2.1.N q e).1
                  refine ⟨HL10.out.1.frm hPf hdj, hP, HL10.out.2.2.trans (hPf.toBelow hs10 hlo), HRA.out.nS, HRl.out, HRs.out, HTn.out, ⟨HSZ.out.2.2.2.1, by have := HSZ.out.2.2.2.2.1; omega⟩, ⟨by have := HTO.out; omega, by have := HTO.out; omega⟩, HDl.out, by simp; omega, fun p hp => ?_⟩
                  rcases List.mem_append.1 hp with hp | hp
                  · exact Nat.le_succ_of_le (HRA.out.twn p hp)
                  · rw [List.mem_singleton.1 hp]; show ids.length ≤ k + 1; rw [← Hil.out]; omega
                clear HAd HL10 HO11 HG11 HN11 HO12 HG12 HR9
                obtain ⟨nx, Hnx⟩ : ∃ nx, Hid (nx = nextOf (R8)) := ⟨_, rfl⟩
                have HNx := wnext_calls w12 HNX.out.wh
                rw [← Hnx.out] at HNx
                have hD8 : (D5).length ≤ k + 1 := HNX.out.len
                have HRn := rnext_calls to mo (.slice a5 dl5 c5) (.slice b5 dl5 e5) ((D5).map (·.tm)) w12 (by rw [List.length_map]; omega) HNX.out.law.A ⟨_, _, _, rfl⟩
                unfold refV at HRn
                have z0' : w12.cell? ⟨mB, 0, none⟩ = some (.int .u64 (to)) := by rw [cell_blkT HNX.out.law.blk]; rfl
                have z1' : w12.cell? ⟨mB, 1, none⟩ = some (.int .i64 mo) := by rw [cell_blkT HNX.out.law.blk]; rfl
                have z2' : w12.cell? ⟨mB, 2, none⟩ = some (.slice a5 dl5 c5) := by rw [cell_blkT HNX.out.law.blk]; rfl
                have z3' : w12.cell? ⟨mB, 3, none⟩ = some (.slice b5 dl5 e5) := by rw [cell_blkT HNX.out.law.blk]; rfl
                obtain ⟨nx1, nx2⟩ := nx
                go_wp2_with fail
                refine HNx.mono ?_
                clear HNx
                rintro e wx ⟨rfl, rfl⟩
                go_wp2_with fail
                refine HRn.mono ?_
                clear HRn z0' z1' z2' z3'
                rintro e w9 ⟨i9, hL9, rfl, hb9⟩
                rw [List.length_map] at hL9
                rw [HNX.out.next hL9, ← Hnx.out]
                have HNY : Hid (RunI w mo wb mb mB (k + 1) (.slice ta2 (tl + 1) tc2) (.slice na2 (tl + 1) nc2) S v8 (.slice a5 dl5 c5) (.slice b5 dl5 e5) (R8) ((D5)) (to) (sets) ((TW ++ [(.slice ra il rc, .slice oa il oc, ids)])) w9) := HNX.out.below hb9
                clear hL9 hb9 HNX
                have y0 : w9.cell? ⟨mB, 0, none⟩ = some (.int .u64 (to)) := by rw [cell_blkT HNY.out.law.blk]; rfl
                have y2 : w9.cell? ⟨mB, 2, none⟩ = some (.slice a5 dl5 c5) := by rw [cell_blkT HNY.out.law.blk]; rfl
                have HNow : Hid (∀ q, Calls Try.prog 20 #[.pointer (some ⟨wb, 0, none⟩)] (w9.drewN q) fun e w' => e = .returned (.int .u64 (to)) ∧ w' = w9.drewN q) := fun q => wnow_calls _ (HNY.out.wh.draws q)
                have HLen : Hid (∀ q, Calls Try.prog 21 #[.pointer (some ⟨wb, 0, none⟩)] (w9.drewN q) fun e w' => e = .returned (.int .i64 (dl5 : Int)) ∧ w' = w9.drewN q) := fun q => by
                  have := wlen_calls _ (HNY.out.wh.draws q)
                  rw [HNY.out.lenL] at this
                  rw [← Hdl5.out] at this
                  exact this
                have hq1 : ((to) != (to)) = false := by simp
                have hq2 : (((dl5 : Nat) : Int) != ((dl5 : Nat) : Int)) = false := by simp
                have hq3 : (nx1 != nx1) = false := by simp
                have hq4 : (nx2 != nx2) = false := by simp
                go_wp2_with fail
                go_quiet ((first | (go_at_call 20; exact Calls.quiet_of_same (HNow.out _)) | (go_at_call 21; exact Calls.quiet_of_same (HLen.out _))))
                have HNZ : Hid (RunE w mo wb mb mB (k + 1) (.slice ta2 (tl + 1) tc2) (.slice na2 (tl + 1) nc2) (w9.drewN nq)) := ⟨_, _, _, _, _, _, _, _, _, HNY.out.below (below_drawsT w9 nq)⟩
                clear HNow HLen HNY
                go_wp2
                go_roundw
                case rel => exact ⟨k + 1, by omega, by go_num, HNZ⟩
                case measure => simp [intOf]; omega
            · have e0 : (kd == 0) = false := by simpa using h0
              have e1 : (kd == 1) = false := by simpa using h1
              have e2 : (kd == 2) = false := by simpa using h2
              have e3 : (kd == 3) = false := by simpa using h3
              have HNX : Hid (RunI w mo wb mb mB (k + 1) (.slice ta tl tc) (.slice na tl nc) S v (.slice ai dl ci) (.slice aa dl ca) L D now sets TW wA) := ⟨HRA.out.wh, HRA.out.law, HRA.out.bl, HRA.out.nS, HRA.out.rel, HRA.out.rise, HRA.out.turn, ⟨HSZ.out.2.2.2.1, by have := HSZ.out.2.2.2.2.1; omega⟩, HRA.out.n0, by omega, by omega, fun p hp => Nat.le_succ_of_le (HRA.out.twn p hp)⟩
              clear m0 m1 m2 m3
              obtain ⟨nx, Hnx⟩ : ∃ nx, Hid (nx = nextOf L) := ⟨_, rfl⟩
              have HNx := wnext_calls wA HNX.out.wh
              rw [← Hnx.out] at HNx
              have hD8 : D.length ≤ k + 1 := HNX.out.len
              have HRn := rnext_calls now mo (.slice ai dl ci) (.slice aa dl ca) (D.map (·.tm)) wA (by rw [List.length_map]; omega) HNX.out.law.A ⟨_, _, _, rfl⟩
              unfold refV at HRn
              have z0' : wA.cell? ⟨mB, 0, none⟩ = some (.int .u64 (now)) := by rw [cell_blkT HNX.out.law.blk]; rfl
              have z1' : wA.cell? ⟨mB, 1, none⟩ = some (.int .i64 mo) := by rw [cell_blkT HNX.out.law.blk]; rfl
              have z2' : wA.cell? ⟨mB, 2, none⟩ = some (.slice ai dl ci) := by rw [cell_blkT HNX.out.law.blk]; rfl
              have z3' : wA.cell? ⟨mB, 3, none⟩ = some (.slice aa dl ca) := by rw [cell_blkT HNX.out.law.blk]; rfl
              obtain ⟨nx1, nx2⟩ := nx
              go_wp2_with fail
              refine HNx.mono ?_
              clear HNx
              rintro e wx ⟨rfl, rfl⟩
              go_wp2_with fail
              refine HRn.mono ?_
              clear HRn z0' z1' z2' z3'
              rintro e w9 ⟨i9, hL9, rfl, hb9⟩
              rw [List.length_map] at hL9
              rw [HNX.out.next hL9, ← Hnx.out]
              have HNY : Hid (RunI w mo wb mb mB (k + 1) (.slice ta tl tc) (.slice na tl nc) S v (.slice ai dl ci) (.slice aa dl ca) L (D) (now) (sets) (TW) w9) := HNX.out.below hb9
              clear hL9 hb9 HNX
              have y0 : w9.cell? ⟨mB, 0, none⟩ = some (.int .u64 (now)) := by rw [cell_blkT HNY.out.law.blk]; rfl
              have y2 : w9.cell? ⟨mB, 2, none⟩ = some (.slice ai dl ci) := by rw [cell_blkT HNY.out.law.blk]; rfl
              have HNow : Hid (∀ q, Calls Try.prog 20 #[.pointer (some ⟨wb, 0, none⟩)] (w9.drewN q) fun e w' => e = .returned (.int .u64 (now)) ∧ w' = w9.drewN q) := fun q => wnow_calls _ (HNY.out.wh.draws q)
              have HLen : Hid (∀ q, Calls Try.prog 21 #[.pointer (some ⟨wb, 0, none⟩)] (w9.drewN q) fun e w' => e = .returned (.int .i64 (dl : Int)) ∧ w' = w9.drewN q) := fun q => by
                have := wlen_calls _ (HNY.out.wh.draws q)
                rw [HNY.out.lenL] at this
                rw [← Hdl.out] at this
                exact this
              have hq1 : ((now) != (now)) = false := by simp
              have hq2 : (((dl : Nat) : Int) != ((dl : Nat) : Int)) = false := by simp
              have hq3 : (nx1 != nx1) = false := by simp
              have hq4 : (nx2 != nx2) = false := by simp
              go_wp2_with fail
              go_quiet ((first | (go_at_call 20; exact Calls.quiet_of_same (HNow.out _)) | (go_at_call 21; exact Calls.quiet_of_same (HLen.out _))))
              have HNZ : Hid (RunE w mo wb mb mB (k + 1) (.slice ta tl tc) (.slice na tl nc) (w9.drewN nq)) := ⟨_, _, _, _, _, _, _, _, _, HNY.out.below (below_drawsT w9 nq)⟩
              clear HNow HLen HNY
              go_wp2
              go_roundw
              case rel => exact ⟨k + 1, by omega, by go_num, HNZ⟩
              case measure => simp [intOf]; omega
    · have hkn : k = n := by omega
      subst hkn
      obtain ⟨wz, hwz⟩ : ∃ wz, wz = wr := ⟨_, rfl⟩
      subst hwz
      obtain ⟨ta, tc, ht7⟩ := ownsRow_len HRun.out.law.T
      obtain ⟨na, nc, ht8⟩ := ownsRow_len HRun.out.law.N
      rw [List.length_map] at ht7 ht8
      obtain ⟨tl, Htl⟩ : ∃ tl, Hid (tl = TW.length) := ⟨_, rfl⟩
      rw [← Htl.out] at ht7 ht8
      subst ht7 ht8
      have htl : tl ≤ k := by rw [Htl.out]; exact HRun.out.twl
      go_upto_region 40 with fail
      go_loopw [25, 158] (fun _ i wq => ∃ j : Nat, j ≤ tl ∧ i = .int .i64 (j : Int) ∧ ∃ q, wq = wz.drewN q) (fun _ i _ => tl - (intOf i).toNat)
      case atStart => exact ⟨0, Nat.zero_le _, rfl, 0, rfl⟩
      case round =>
        obtain ⟨j, hj, rfl, hdq⟩ := hrel
        have HQ2 : Hid (∀ n, ∃ q, wr.drewN n = wz.drewN q) := by intro n; obtain ⟨q, rfl⟩ := hdq; exact ⟨_, World.drewN_drewN _ _ _⟩
        have HRQ : Hid (RunI w mo wb mb mB k (.slice ta tl tc) (.slice na tl nc) S v vi va L D now sets TW wr) := by obtain ⟨q, rfl⟩ := hdq; exact HRun.out.below (below_drawsT wz q)
        clear hdq
        by_cases hjt : j < tl
        · have hjT : j < TW.length := by rw [← Htl.out]; exact hjt
          obtain ⟨g, c1, g', c2, e1, e2, cT, cN⟩ := HRQ.out.law.at j hjT
          have hp := HRQ.out.law.tw TW[j] (List.getElem_mem hjT)
          have hpl := HRQ.out.twn TW[j] (List.getElem_mem hjT)
          obtain ⟨ids, Hids⟩ : ∃ ids, Hid (ids = TW[j].2.2) := ⟨TW[j].2.2, rfl⟩
          rw [← Hids.out] at hp hpl
          obtain ⟨ra, rc, hr1, _, _, _⟩ := hp.1.shape
          obtain ⟨oa, oc, hr2, _, _, _⟩ := hp.2.shape
          have hp1 := hp.1
          have hp2 := hp.2
          rw [hr1] at hp1 cT
          rw [hr2] at hp2 cN
          simp only [Value.slice.injEq] at e1 e2
          obtain ⟨rfl, _, rfl⟩ := e1
          obtain ⟨rfl, _, rfl⟩ := e2
          have HSm : Hid (∀ m, Calls Try.prog 17 #[.slice ra ids.length rc, .slice oa ids.length oc] (wr.drewN m) fun e w' => e = .returned (.bool true) ∧ ∃ m', w' = (wr.drewN m).drewN m') := fun m => by
            have := sameI_calls ra oa rc oc ids ids (wr.drewN m) (by omega) (by omega) ((RowI.iat hp1).1.below (below_drawsT wr m)) ((RowI.iat hp2).1.below (below_drawsT wr m))
            rw [decide_eq_true (rfl : ids = ids)] at this
            exact this
          obtain ⟨il, Hil⟩ : ∃ il, Hid (il = ids.length) := ⟨_, rfl⟩
          rw [← Hil.out] at cT cN HSm
          clear Hids hp hp1 hp2 hr1 hr2 hpl hjT
          go_wp2_with fail
          go_quiet ((go_at_call 17; exact Calls.quiet_of (HSm.out _)))
          clear HSm
          go_wp2
          go_roundw
          case rel => exact ⟨j + 1, by omega, by go_num, HQ2.out _⟩
          case measure => simp [intOf]; omega
        · have HBL : Hid (Below w.heap.size w wr) := HRQ.out.bl
          go_wp2
          go_ret
          exact ⟨rfl, HBL.out⟩
end Go.Proofs.Ytedhjdkhfndinaa
