/- Layer 14 (timers): the document's wheel: New, least, Next. -/
import Derived.Test.YtedhjdkhfndinaaTiOnce
import Derived.Test.YtedhjdkhfndinaaTiStop
import Derived.Laws.ResultCell
namespace Go.Proofs.Ytedhjdkhfndinaa
open Go.RowKit Go.MapKept
set_option linter.unusedVariables false

def refV (now most : Int) (vi va : Value) : Value := .agg #[.int .u64 now, .int .i64 most, vi, va]
set_option maxRecDepth 100000 in
theorem rnew_calls (most : Int) (w : World) : Calls Try.prog 9 #[.int .i64 most] w fun e w' => e = .returned (refV 0 (max most 0) (.slice none 0 0) (.slice none 0 0)) ∧ Below w.heap.size w w' := by
  by_cases h : most < 0
  · have hm : max most 0 = 0 := by omega
    rw [hm]
    go_enter Try.func9, Try.ntmps9
    go_wp2
    refine bodyPost_ret (v := refV 0 0 (.slice none 0 0) (.slice none 0 0)) (by simp [results, Try.results9, go_sem, refV]) rfl ⟨rfl, (Below.refl _ w).alloc (Nat.le_refl _) _⟩
  · have h' : 0 ≤ most := by omega
    have hm : max most 0 = most := by omega
    rw [hm]
    go_enter Try.func9, Try.ntmps9
    go_wp2
    refine bodyPost_ret (v := refV 0 most (.slice none 0 0) (.slice none 0 0)) (by simp [results, Try.results9, go_sem, refV]) rfl ⟨rfl, (Below.refl _ w).alloc (Nat.le_refl _) _⟩

/-- A slice of whole numbers; of times. -/
def RowI (w : World) (v : Value) (l : List Int) : Prop := w.ownsRow 0 3 1 v (l.map (Value.int .i64)).length (l.map (Value.int .i64))
def RowU (w : World) (v : Value) (l : List Int) : Prop := w.ownsRow 0 26 1 v (l.map (Value.int .u64)).length (l.map (Value.int .u64))
theorem ownsRow_below {w w' : World} {B : Nat} {e : TypeId} {v : Value} {n : Nat} {l : List Value} (h : w.ownsRow B e 1 v n l) (hb : Below w.heap.size w w') : w'.ownsRow B e 1 v n l := ownsRow_keep h (fun k hk => hb.block k (World.ownsRow.lt h k hk).2)
theorem RowI.below {w w' : World} {v : Value} {l : List Int} (h : RowI w v l) (hb : Below w.heap.size w w') : RowI w' v l := ownsRow_below h hb
theorem RowU.below {w w' : World} {v : Value} {l : List Int} (h : RowU w v l) (hb : Below w.heap.size w w') : RowU w' v l := ownsRow_below h hb
theorem RowI.shape {w : World} {v : Value} {l : List Int} (h : RowI w v l) : ∃ ao c, v = .slice ao l.length c ∧ l.length ≤ c ∧ c ≤ maxLen ∧ ∀ k (hk : k < l.length), ∃ g, ao = some ⟨g, 0, none⟩ ∧ w.cell? ⟨g, k, none⟩ = some (.int .i64 l[k]) := by
  rcases h.2 with ⟨rfl, h0⟩ | ⟨g, cap, cur, rfl, _, hg, h1, h2, _⟩
  · rw [List.length_map] at h0
    exact ⟨none, 0, by rw [h0], by omega, by decide, fun k hk => by omega⟩
  · rw [List.length_map] at h1
    refine ⟨_, cap, by rw [List.length_map], h1, h2, fun k hk => ⟨g, rfl, ?_⟩⟩
    rw [World.ownsRow.cellAt h k (by simpa using hk)]
    simp [hk]
theorem RowU.shape {w : World} {v : Value} {l : List Int} (h : RowU w v l) : ∃ ao c, v = .slice ao l.length c ∧ l.length ≤ c ∧ c ≤ maxLen ∧ ∀ k (hk : k < l.length), ∃ g, ao = some ⟨g, 0, none⟩ ∧ w.cell? ⟨g, k, none⟩ = some (.int .u64 l[k]) := by
  rcases h.2 with ⟨rfl, h0⟩ | ⟨g, cap, cur, rfl, _, hg, h1, h2, _⟩
  · rw [List.length_map] at h0
    exact ⟨none, 0, by rw [h0], by omega, by decide, fun k hk => by omega⟩
  · rw [List.length_map] at h1
    refine ⟨_, cap, by rw [List.length_map], h1, h2, fun k hk => ⟨g, rfl, ?_⟩⟩
    rw [World.ownsRow.cellAt h k (by simpa using hk)]
    simp [hk]

/-- i is the first place with the least time among the first k. -/
def Least (l : List Int) (k : Nat) (i : Int) : Prop := (k = 0 ∧ i = -1) ∨ ∃ j : Nat, i = (j : Int) ∧ j < k ∧ ∃ x, l[j]? = some x ∧ (∀ q y, q < k → l[q]? = some y → x ≤ y) ∧ (∀ q y, q < j → l[q]? = some y → x < y)
theorem Least.first {l : List Int} {x : Int} (hx : l[0]? = some x) : Least l 1 0 := .inr ⟨0, rfl, by omega, x, hx, fun q y hq hy => by
  have : q = 0 := by omega
  subst this
  rw [Option.some.inj (hx.symm.trans hy)]; exact Int.le_refl _, fun q y hq => by omega⟩
theorem Least.keep {l : List Int} {k : Nat} {j : Nat} {x y : Int} (h : Least l k (j : Int)) (hj : l[j]? = some x) (hy : l[k]? = some y) (hl : x ≤ y) : Least l (k + 1) (j : Int) := by
  rcases h with ⟨_, h0⟩ | ⟨j', e, hjk, x', hx', h1, h2⟩
  · omega
  · have : j = j' := by omega
    subst this
    obtain rfl := Option.some.inj (hj.symm.trans hx')
    refine .inr ⟨j, rfl, by omega, x, hj, fun q z hq hz => ?_, h2⟩
    by_cases hqk : q = k
    · subst hqk
      rw [← Option.some.inj (hy.symm.trans hz)]; exact hl
    · exact h1 q z (by omega) hz
theorem Least.less {l : List Int} {k : Nat} {j : Nat} {x y : Int} (h : Least l k (j : Int)) (hj : l[j]? = some x) (hy : l[k]? = some y) (hl : y < x) : Least l (k + 1) (k : Int) := by
  rcases h with ⟨_, h0⟩ | ⟨j', e, hjk, x', hx', h1, h2⟩
  · omega
  · have : j = j' := by omega
    subst this
    obtain rfl := Option.some.inj (hj.symm.trans hx')
    refine .inr ⟨k, rfl, by omega, y, hy, fun q z hq hz => ?_, fun q z hq hz => ?_⟩
    · by_cases hqk : q = k
      · subst hqk
        rw [Option.some.inj (hy.symm.trans hz)]; exact Int.le_refl _
      · have := h1 q z (by omega) hz; omega
    · have := h1 q z (by omega) hz; omega

set_option maxRecDepth 100000 in
set_option maxHeartbeats 1000000 in
theorem rleast_calls (now most : Int) (vi va : Value) (l : List Int) (w : World) (hl : l.length ≤ 140737488355328) (h : RowU w va l) (hvi : ∃ a n c, vi = .slice a n c) :
    Calls Try.prog 26 #[refV now most vi va] w fun e w' => ∃ i, e = .returned (.int .i64 i) ∧ Least l l.length i ∧ Below w.heap.size w w' := by
  obtain ⟨ao, c, rfl, hlc, hcm, hcell⟩ := h.shape
  obtain ⟨ia, iN, ic, rfl⟩ := hvi
  obtain ⟨n, Hn⟩ : ∃ n, Hid (n = l.length) := ⟨_, rfl⟩
  have HC : Hid (∀ k (hk : k < l.length), ∃ g, ao = some ⟨g, 0, none⟩ ∧ w.cell? ⟨g, k, none⟩ = some (.int .u64 l[k])) := hcell
  obtain ⟨w1, HW1⟩ : ∃ w1, Hid (w1 = w.alloc (.cells #[.int .u64 now, .int .i64 most, .slice ia iN ic, .slice ao l.length c] 30)) := ⟨_, rfl⟩
  obtain ⟨pb, Hpb⟩ : ∃ pb, Hid (pb = w.heap.size) := ⟨_, rfl⟩
  have hb1 : w1.heap[pb]? = some (.cells #[.int .u64 now, .int .i64 most, .slice ia iN ic, .slice ao l.length c] 30) := by rw [HW1.out, Hpb.out]; exact heap_alloc_new w _
  have HB1 : Hid (Below w.heap.size w w1) := by rw [HW1.out]; exact (Below.refl _ w).alloc (Nat.le_refl _) _
  rw [← Hn.out] at hl hlc hb1 HW1 ⊢
  clear hcell h
  go_enter Try.func26, Try.ntmps26
  unfold refV
  have d3 : w1.cell? ⟨pb, 3, none⟩ = some (.slice ao n c) := by rw [cell_blkT hb1]; rfl
  go_upto_region 3 with fail
  rw [← HW1.out, ← Hpb.out]
  have HD3 : Hid (∀ wr, Below w1.heap.size w1 wr → wr.cell? ⟨pb, 3, none⟩ = some (.slice ao n c)) := fun wr hb => by rw [cell_blkT ((hb.block _ (lt_of_heapT hb1)).trans hb1)]; rfl
  clear d3 hb1
  go_loopw [3, 4, 8] (fun b _ i wr => ∃ k : Nat, k ≤ n ∧ i = .int .i64 (k : Int) ∧ ∃ bi : Int, b = .int .i64 bi ∧ Hid (Least l k bi) ∧ ∃ q, wr = w1.drewN q) (fun _ _ i _ => n - (intOf i).toNat)
  case atStart => exact ⟨0, Nat.zero_le _, rfl, -1, rfl, .inl ⟨rfl, rfl⟩, 0, rfl⟩
  case round =>
    obtain ⟨k, hk, rfl, bi, rfl, HLe, hdq⟩ := hrel
    have hbw : Below w1.heap.size w1 wr := by obtain ⟨q, rfl⟩ := hdq; exact below_drawsT w1 q
    have HQ2 : Hid (∀ n, ∃ q, wr.drewN n = w1.drewN q) := by intro n; obtain ⟨q, rfl⟩ := hdq; exact ⟨_, World.drewN_drewN _ _ _⟩
    have d3 := HD3.out wr hbw
    have HBW : Hid (Below w.heap.size w wr) := HB1.out.trans (hbw.mono HB1.out.size)
    have HQ : Hid (∃ q, wr = w1.drewN q) := hdq
    clear hdq hbw
    by_cases hlt : k < n
    · have k1 : k < l.length := by rw [← Hn.out]; exact hlt
      rcases HLe.out with ⟨rfl, rfl⟩ | ⟨j, rfl, hjk, x, hx, h1, h2⟩
      · have HL1 : Hid (Least l (0 + 1) (0 : Int)) := Least.first (List.getElem?_eq_getElem k1)
        clear k1
        go_wp2_with fail
        go_quiet (fail)
        go_wp2
        go_roundw
        case rel => exact ⟨0 + 1, by omega, by go_num, 0, by simp, HL1, HQ2.out _⟩
        case measure => simp [intOf]; omega
      · have hjl : j < l.length := by omega
        have hxe : l[j] = x := (List.getElem?_eq_some_iff.1 hx).2
        obtain ⟨g, rfl, cj0⟩ := HC.out j hjl
        obtain ⟨g', hgg, ck0⟩ := HC.out k k1
        have hge : g' = g := by simp at hgg; exact hgg.symm
        subst hge
        rw [hxe] at cj0
        obtain ⟨y, Hy⟩ : ∃ y, Hid (y = l[k]'k1) := ⟨_, rfl⟩
        rw [← Hy.out] at ck0
        have hyk : l[k]? = some y := by rw [Hy.out]; exact List.getElem?_eq_getElem k1
        have cj : wr.cell? ⟨g', j, none⟩ = some (.int .u64 x) := by
          have hlt' : g' < w.heap.size := by
            unfold World.cell? at cj0
            split at cj0
            · rename_i hq; exact lt_of_heapT hq
            · cases cj0
          exact (HBW.out.cell (p := ⟨g', j, none⟩) hlt').trans cj0
        have ck : wr.cell? ⟨g', k, none⟩ = some (.int .u64 y) := by
          have hlt' : g' < w.heap.size := by
            unfold World.cell? at ck0
            split at ck0
            · rename_i hq; exact lt_of_heapT hq
            · cases ck0
          exact (HBW.out.cell (p := ⟨g', k, none⟩) hlt').trans ck0
        have hneg : ¬ ((j : Int) < 0) := by omega
        have hjn : j < n := by omega
        by_cases hq : y < x
        · have HL1 : Hid (Least l (k + 1) (k : Int)) := HLe.out.less hx hyk hq
          clear HLe h1 h2 hx hyk Hy hxe cj0 ck0 k1 hjl hgg
          go_wp2_with fail
          go_quiet (fail)
          go_wp2
          go_roundw
          case rel => exact ⟨k + 1, by omega, by go_num, k, by simp, HL1, HQ2.out _⟩
          case measure => simp [intOf]; omega
        · have HL1 : Hid (Least l (k + 1) (j : Int)) := HLe.out.keep hx hyk (by omega)
          clear HLe h1 h2 hx hyk Hy hxe cj0 ck0 k1 hjl hgg
          go_wp2_with fail
          go_quiet (fail)
          go_wp2
          go_roundw
          case rel => exact ⟨k + 1, by omega, by go_num, j, by simp, HL1, HQ2.out _⟩
          case measure => simp [intOf]; omega
    · have hkn : k = n := by omega
      subst hkn
      go_wp2
      go_ret
      exact ⟨bi, rfl, HLe.out, HBW.out⟩

/-- What Next answers of times in the order of setting. -/
def rnextOf (l : List Int) (i : Int) : Int × Bool := if i < 0 then (0, false) else (l.getD i.toNat 0, true)
set_option maxRecDepth 100000 in
set_option maxHeartbeats 1000000 in
theorem rnext_calls (now most : Int) (vi va : Value) (l : List Int) (w : World) (hl : l.length ≤ 140737488355328) (h : RowU w va l) (hvi : ∃ a n c, vi = .slice a n c) :
    Calls Try.prog 19 #[refV now most vi va] w fun e w' => ∃ i, Least l l.length i ∧ e = .returned (.tuple #[.int .u64 (rnextOf l i).1, .bool (rnextOf l i).2]) ∧ Below w.heap.size w w' := by
  obtain ⟨ao, c, hva, hlc, hcm, hcell⟩ := h.shape
  obtain ⟨ia, iN, ic, rfl⟩ := hvi
  have HC : Hid (∀ k (hk : k < l.length), ∃ g, ao = some ⟨g, 0, none⟩ ∧ w.cell? ⟨g, k, none⟩ = some (.int .u64 l[k])) := hcell
  obtain ⟨w1, HW1⟩ : ∃ w1, Hid (w1 = w.alloc (.cells #[.int .u64 now, .int .i64 most, .slice ia iN ic, .slice ao l.length c] 30)) := ⟨_, rfl⟩
  obtain ⟨pb, Hpb⟩ : ∃ pb, Hid (pb = w.heap.size) := ⟨_, rfl⟩
  have hb1 : w1.heap[pb]? = some (.cells #[.int .u64 now, .int .i64 most, .slice ia iN ic, .slice ao l.length c] 30) := by rw [HW1.out, Hpb.out]; exact heap_alloc_new w _
  have HB1 : Hid (Below w.heap.size w w1) := by rw [HW1.out]; exact (Below.refl _ w).alloc (Nat.le_refl _) _
  have HLe := rleast_calls now most (.slice ia iN ic) va l w1 hl (h.below HB1.out) ⟨_, _, _, rfl⟩
  subst hva
  obtain ⟨n, Hn⟩ : ∃ n, Hid (n = l.length) := ⟨_, rfl⟩
  have HHb : Hid (w1.heap[pb]? = some (.cells #[.int .u64 now, .int .i64 most, .slice ia iN ic, .slice ao n c] 30)) := by rw [Hn.out]; exact hb1
  rw [← Hn.out] at HLe HW1 hlc ⊢
  clear h hcell hb1
  unfold refV at HLe ⊢
  go_enter Try.func19, Try.ntmps19
  go_upto_region 1 with fail
  rw [← HW1.out, ← Hpb.out]
  have d0 : w1.cell? ⟨pb, 0, none⟩ = some (.int .u64 now) := by rw [cell_blkT HHb.out]; rfl
  have d1 : w1.cell? ⟨pb, 1, none⟩ = some (.int .i64 most) := by rw [cell_blkT HHb.out]; rfl
  have d2 : w1.cell? ⟨pb, 2, none⟩ = some (.slice ia iN ic) := by rw [cell_blkT HHb.out]; rfl
  have d3 : w1.cell? ⟨pb, 3, none⟩ = some (.slice ao n c) := by rw [cell_blkT HHb.out]; rfl
  go_wp2_with fail
  refine HLe.mono ?_
  clear HLe d0 d1 d2 d3
  rintro e w2 ⟨i, rfl, hL, hb2⟩
  have HB2 : Hid (Below w.heap.size w w2) := HB1.out.trans (hb2.mono HB1.out.size)
  have e3 : w2.cell? ⟨pb, 3, none⟩ = some (.slice ao n c) := by rw [cell_blkT ((hb2.block _ (lt_of_heapT HHb.out)).trans HHb.out)]; rfl
  have HLL : Hid (Least l n i) := hL
  rcases hL with ⟨h0, rfl⟩ | ⟨j, rfl, hjk, x, hx, h1, h2⟩
  · go_wp2
    go_ret2
    exact ⟨-1, HLL.out, rfl, HB2.out⟩
  · have hjl : j < l.length := by rw [← Hn.out]; exact hjk
    have hxe : l[j] = x := (List.getElem?_eq_some_iff.1 hx).2
    obtain ⟨g, rfl, cj0⟩ := HC.out j hjl
    rw [hxe] at cj0
    have cj : w2.cell? ⟨g, j, none⟩ = some (.int .u64 x) := by
      have hlt' : g < w.heap.size := by
        unfold World.cell? at cj0
        split at cj0
        · rename_i hq; exact lt_of_heapT hq
        · cases cj0
      exact (HB2.out.cell (p := ⟨g, j, none⟩) hlt').trans cj0
    have hneg : ¬ ((j : Int) < 0) := by omega
    have HR : Hid (rnextOf l (j : Int) = (x, true)) := by
      show rnextOf l (j : Int) = (x, true)
      unfold rnextOf
      rw [if_neg hneg]
      simp [List.getD, hx]
    clear h1 h2 hx hxe cj0 hjl
    go_wp2
    go_ret2
    exact ⟨j, HLL.out, by rw [HR.out]; rfl, HB2.out⟩

/-- append([]T{}, more...): more lies anywhere. -/
theorem run_append0 {e : TypeId} {z : Value} (t ty : TypeId) (ht : Try.prog.underlying t = some (.slice e)) (hi : (Try.prog.info? e).map (fun i => (i.zero, i.size, i.bytes)) = some (some z, 1, 8)) (hzs : z.cells.size = 1)
    (w : World) (g : Nat) (ao : Option Addr) (m c : Nat) (news : List Value) (hl : news.length = m) (hc : ∀ j u, news[j]? = some u → ∃ ad, ao = some ad ∧ w.cell? (ad.add j) = some u) (h1 : ∀ u ∈ news, u.oneCell' = true) (hlen : m * 8 ≤ 140737488355328) (hg : w.heap[g]? = some (.cells #[] e)) (B : Nat) (hB : B ≤ g) :
    ∃ v' w', (Builtin.append_ #[t, t] ty #[.slice (some ⟨g, 0, none⟩) 0 0, .slice ao m c]).run Try.prog w = .ok v' w' ∧ w'.ownsRow B e 1 v' news.length news ∧ Below w.heap.size w w' := by
  obtain ⟨i0, hi, hz0, hz1, hz2⟩ := infoOfT hi
  have hgl := lt_of_heapT hg
  have hown : w.ownsRow B e 1 (.slice (some ⟨g, 0, none⟩) 0 0) 0 [] := ⟨rfl, .inr ⟨g, 0, #[], rfl, hB, hg, Nat.le_refl _, by decide, rfl, rfl⟩⟩
  rcases Nat.eq_zero_or_pos m with h0 | h0
  · subst h0
    have hn : news = [] := List.eq_nil_of_length_eq_zero hl
    subst hn
    refine ⟨.slice (some ⟨g, 0, none⟩) 0 0, w, ?_, hown, Below.refl _ _⟩
    cases ao with
    | none => exact run_append_noneT t ty e i0 ht hi w _ 0 0 c (Nat.le_refl _)
    | some ad => simp [Builtin.append_, run_underlying ht, sizeOf, typeInfo, hi, Builtin.lenOf, Builtin.firstCells, storeCells, loadCells, loadCellsFrom]
  · obtain ⟨ad, rfl⟩ : ∃ ad, ao = some ad := by
      obtain ⟨ad, e, _⟩ := hc 0 news[0] (List.getElem?_eq_getElem (by omega))
      exact ⟨ad, e⟩
    have hcc : ∀ j u, news[j]? = some u → w.cell? (ad.add j) = some u := fun j u hu => by
      obtain ⟨ad', e, h⟩ := hc j u hu
      obtain rfl := Option.some.inj e
      exact h
    have hr := run_append_grow (P := Try.prog) (w := w) t ty e i0 z ht hi hz0 ⟨g, 0, none⟩ 0 0 [] (by simp) (fun j v hv => by simp at hv) ad m c news (by rw [hz1, hl]; omega) hcc (by omega) (by omega) (growslice_fits (by omega) (by rw [hz2]; omega))
    obtain ⟨v', w', hr', ho, _, _⟩ := run_append_grew (P := Try.prog) w B t ty e i0 z 1 8 ht hi hz0 hz1 hz2 hzs (by decide) _ 0 [] hown ad m c news (by omega) hcc h1 (by unfold maxLen; omega) (by omega) (by omega)
    have he := hr'.symm.trans hr
    injection he with e1 e2
    refine ⟨v', w', hr', ?_, ?_⟩
    · rw [hl]; simpa using ho
    · rw [e2]
      exact ⟨rfl, rfl, rfl, by simp [World.size_alloc], fun k hk => Below.heap_alloc _ _ _ hk⟩
section
variable {o : Oper} {a : Act} {W : World} {K : Act → World → Prop} {Q : Exit → Act → World → Prop}
theorem f_append0 {e : TypeId} {z : Value} {t : TypeId} {s x : Operand} (ht : Try.prog.underlying t = some (.slice e)) (hi : (Try.prog.info? e).map (fun i => (i.zero, i.size, i.bytes)) = some (some z, 1, 8)) (hzs : z.cells.size = 1)
    (ho : o.op = .call { callee := .builtin .append, args := #[s, x], argTypes := #[t, t] }) {g : Nat} {ao : Option Addr} {m c : Nat} {news : List Value} (hs : a.eval s = .slice (some ⟨g, 0, none⟩) 0 0) (hx : a.eval x = .slice ao m c)
    (hl : news.length = m) (hc : ∀ j u, news[j]? = some u → ∃ ad, ao = some ad ∧ W.cell? (ad.add j) = some u) (h1 : ∀ u ∈ news, u.oneCell' = true) (hlen : m * 8 ≤ 140737488355328) (hg : W.heap[g]? = some (.cells #[] e)) (B : Nat) (hB : B ≤ g)
    (h : ∀ v' w', w'.ownsRow B e 1 v' news.length news → Below W.heap.size W w' → K (a.put o.dst v') w') : o.wp Try.prog a W K Q := by
  obtain ⟨v', w', hr, h2, h3⟩ := run_append0 t o.type ht hi hzs W g ao m c news hl hc h1 hlen hg B hB
  unfold Oper.wp execOp
  simp only [ho, resolve, invoke, builtin, Sem.run_bind, Sem.run_pure, Result.andThen_ok, List.map_toArray, List.map_cons, List.map_nil, hs, hx, hr]
  exact h v' w' h2 h3
theorem f_fldR {x : Operand} {g : Nat} (k : Nat) (hk : k = 2 ∨ k = 3) (ho : o.op = .fieldAddr 30 x k) (hx : a.eval x = .pointer (some ⟨g, 0, none⟩)) (h : K (a.put o.dst (.pointer (some ⟨g, k, none⟩))) W) : o.wp Try.prog a W K Q := by
  rcases hk with rfl | rfl
  · exact wp_valF (v := .pointer (some ⟨g, 2, none⟩)) (by unfold execOp; simp only [ho, hx]; go_simp) h
  · exact wp_valF (v := .pointer (some ⟨g, 3, none⟩)) (by unfold execOp; simp only [ho, hx]; go_simp) h
theorem f_loadS {x : Operand} {p k : Nat} {t : TypeId} {b : Option Addr} {n c : Nat} (ht : t = 27 ∨ t = 28) (ho : o.op = .load t x) (hx : a.eval x = .pointer (some ⟨p, k, none⟩)) (hc : W.cell? ⟨p, k, none⟩ = some (.slice b n c)) (h : K (a.put o.dst (.slice b n c)) W) : o.wp Try.prog a W K Q := by
  rcases ht with rfl | rfl
  · exact wp_valF (v := .slice b n c) (by unfold execOp; simp only [ho, hx]; simp [hc, go_sem]) h
  · exact wp_valF (v := .slice b n c) (by unfold execOp; simp only [ho, hx]; simp [hc, go_sem]) h
theorem f_build0 {t e : TypeId} (ht : (t = 27 ∧ e = 3) ∨ (t = 28 ∧ e = 26)) (ho : o.op = .buildSlice t 0 #[]) (h : K (a.put o.dst (.slice (some ⟨W.heap.size, 0, none⟩) 0 0)) (W.alloc (.cells #[] e))) : o.wp Try.prog a W K Q := by
  rcases ht with ⟨rfl, rfl⟩ | ⟨rfl, rfl⟩
  · have hr : (execOp a.eval o).run Try.prog W = .ok (.value (.slice (some ⟨W.heap.size, 0, none⟩) 0 0)) (W.alloc (.cells #[] 3)) := by
      unfold execOp
      simp only [ho, List.map_toArray, List.map_nil]
      go_simp
    unfold Oper.wp
    rw [hr]
    exact h
  · have hr : (execOp a.eval o).run Try.prog W = .ok (.value (.slice (some ⟨W.heap.size, 0, none⟩) 0 0)) (W.alloc (.cells #[] 26)) := by
      unfold execOp
      simp only [ho, List.map_toArray, List.map_nil]
      go_simp
    unfold Oper.wp
    rw [hr]
    exact h
theorem f_sliceTo {t : TypeId} {x y : Operand} {g n c i : Nat} (ht : t = 27 ∨ t = 28) (ho : o.op = .slice t x none (some y) none) (hx : a.eval x = .slice (some ⟨g, 0, none⟩) n c) (hy : a.eval y = .int .i64 (i : Int)) (hi : i ≤ c) (hc : c ≤ maxLen) (h : K (a.put o.dst (.slice (some ⟨g, 0, none⟩) i c)) W) : o.wp Try.prog a W K Q := by
  have hi' : (i : Int) ≤ (c : Int) := by omega
  rcases ht with rfl | rfl
  · exact wp_valF (v := .slice (some ⟨g, 0, none⟩) i c) (by unfold execOp; simp only [ho, Option.map_some, Option.map_none, hx, hy]; go_simp) h
  · exact wp_valF (v := .slice (some ⟨g, 0, none⟩) i c) (by unfold execOp; simp only [ho, Option.map_some, Option.map_none, hx, hy]; go_simp) h
/-- Where a slice's rest begins. -/
def offS (c i : Nat) : Nat := if c = i then 0 else i
theorem f_sliceFrom {t : TypeId} {x y : Operand} {g n c i : Nat} (ht : t = 27 ∨ t = 28) (ho : o.op = .slice t x (some y) none none) (hx : a.eval x = .slice (some ⟨g, 0, none⟩) n c) (hy : a.eval y = .int .i64 (i : Int)) (hi : i ≤ n) (hn : n ≤ c) (hc : c ≤ maxLen) (h : K (a.put o.dst (.slice (some ⟨g, offS c i, none⟩) (n - i) (c - i))) W) : o.wp Try.prog a W K Q := by
  have hi' : (i : Int) ≤ (n : Int) := by omega
  by_cases hci : c = i
  · rw [offS, if_pos hci] at h
    rcases ht with rfl | rfl
    · exact wp_valF (v := .slice (some ⟨g, 0, none⟩) (n - i) (c - i)) (by unfold execOp; simp only [ho, Option.map_some, Option.map_none, hx, hy]; go_simp) h
    · exact wp_valF (v := .slice (some ⟨g, 0, none⟩) (n - i) (c - i)) (by unfold execOp; simp only [ho, Option.map_some, Option.map_none, hx, hy]; go_simp) h
  · rw [offS, if_neg hci] at h
    rcases ht with rfl | rfl
    · exact wp_valF (v := .slice (some ⟨g, i, none⟩) (n - i) (c - i)) (by unfold execOp; simp only [ho, Option.map_some, Option.map_none, hx, hy]; go_simp) h
    · exact wp_valF (v := .slice (some ⟨g, i, none⟩) (n - i) (c - i)) (by unfold execOp; simp only [ho, Option.map_some, Option.map_none, hx, hy]; go_simp) h
theorem wrapOne (i : Nat) (hi : i ≤ 140737488355328) : IntKind.i64.wrap ((i : Int) + 1) = (i : Int) + 1 := by
  simp [IntKind.wrap, IntKind.bits, IntKind.signed]
  omega
theorem f_addOne {x : Operand} {i : Nat} (ho : o.op = .binOp .add 3 x (.const (.int .i64 1)) 3) (hx : a.eval x = .int .i64 (i : Int)) (hi : i ≤ 140737488355328) (h : K (a.put o.dst (.int .i64 ((i + 1 : Nat) : Int))) W) : o.wp Try.prog a W K Q :=
  wp_valF (v := .int .i64 ((i + 1 : Nat) : Int)) (by unfold execOp; simp only [ho, hx]; have he : a.eval (.const (.int .i64 1)) = .int .i64 1 := rfl; rw [he]; go_simp; exact wrapOne i hi) h
end
end Go.Proofs.Ytedhjdkhfndinaa
