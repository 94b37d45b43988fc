/- Layer 3 (radix): Fresh; the law's onWay. -/
import Derived.Test.YtcdfbbjakkmmoaaXFrM
import Derived.Test.YtcdfbbjakkmmoaaRReach
import Derived.Test.YtcdfbbjakkmmoaaXBu3
import Derived.Lib.QuietBelow
import Derived.Deep.QuietTactic
namespace Go.Proofs.Ytcdfbbjakkmmoaa
open Go.RowKit Go.Shelf
open Go.Sort (grow)
set_option linter.unusedVariables false

theorem nodeInfo : ∃ i, Try.prog.info? 76 = some i ∧ i.size = 4 := by
  have h : (Try.prog.info? 76).map (·.size) = some 4 := by kernel_rfl
  obtain ⟨i, hi, hb⟩ := Option.map_eq_some_iff.1 h
  exact ⟨i, hi, hb⟩
theorem eqlNode_same (w : World) (a : Addr) : (binOp .eql 35 (.pointer (some a)) (.pointer (some a))).run Try.prog w = .ok (.bool true) w := by
  obtain ⟨i, hi, hb⟩ := nodeInfo
  exact run_eql_ptr_same w a Try.underlying35 hi
theorem TAt.blkN {R : Rg} {w : World} {t : Tr} (h : TAt R w t) : ∃ cs, w.heap[t.a]? = some (.cells cs 76) := by
  cases h with
  | mk blk _ _ _ _ _ _ _ => exact ⟨_, blk⟩
theorem eqlNode_other {R R' : Rg} {w : World} {s t : Tr} (h : TAt R w s) (h' : TAt R' w t) (hne : s.a ≠ t.a) :
    (binOp .eql 35 (.pointer (some ⟨s.a, 0, none⟩)) (.pointer (some ⟨t.a, 0, none⟩))).run Try.prog w = .ok (.bool false) w := by
  obtain ⟨i, hi, hb⟩ := nodeInfo
  obtain ⟨cs, h1⟩ := h.blkN
  obtain ⟨ds, h2⟩ := h'.blkN
  exact run_eql_ptr_other w Try.underlying35 hi (by omega) (fun e => hne (by simpa using congrArg Addr.block e)) h1 h2

def frS (o : Nat → Bool) (n : Nat) (ks : List Tr) (j : Nat) : Nat := ((ks.take j).map (fr o n)).sum
theorem frS_succ (o : Nat → Bool) (n : Nat) (ks : List Tr) {j : Nat} (h : j < ks.length) : frS o n ks (j + 1) = frS o n ks j + fr o n ks[j] := by
  unfold frS; rw [List.take_succ_eq_append_getElem h, List.map_append, List.sum_append]; simp
theorem kid_le (n : Nat) (ks : List Tr) {c : Tr} (h : c ∈ ks) : (pths n c).length ≤ sumL n ks := by
  unfold sumL
  induction ks with
  | nil => cases h
  | cons x l ih =>
    rw [List.flatMap_cons, List.length_append]
    rcases List.mem_cons.1 h with rfl | h
    · omega
    · have := ih h; omega
theorem frS_le (o : Nat → Bool) (n : Nat) (ks : List Tr) (j : Nat) : frS o n ks j ≤ sumL n ks := by
  unfold frS sumL
  rw [List.length_flatMap]
  have h1 : ∀ l : List Tr, (l.map (fr o n)).sum ≤ (l.map fun c => (pths n c).length).sum := fun l => by
    induction l with
    | nil => exact Nat.le_refl _
    | cons c l ih => simp only [List.map_cons, List.sum_cons]; have := fr_le o n c; omega
  have h2 := h1 (ks.take j)
  have h3 : ((ks.take j).map fun c => (pths n c).length).sum + ((ks.drop j).map fun c => (pths n c).length).sum = (ks.map fun c => (pths n c).length).sum := by
    rw [← List.sum_append, ← List.map_append, List.take_append_drop]
  omega

set_option maxRecDepth 100000 in
set_option maxHeartbeats 1600000 in
theorem fresh_calls (o : Nat → Bool) (T0 : Tr) (hw0 : WF T0) (n : Nat) : ∀ (t r : Tr) (pre post : List Tr) (w : World), Dep n t → TAt nR w t → WF t → TAt nR w T0 → T0.path <+: t.path → Along t.path T0 (pre ++ r :: post) → Cov o T0 n t → (pths n t).length ≤ 4611686018427387904 →
    Calls Try.prog 40 #[.pointer (some ⟨t.a, 0, none⟩), .pointer (some ⟨r.a, 0, none⟩)] w fun e w' => e = .returned (.int .i64 (fr o n t : Int)) ∧ Below w.heap.size w w' := by
  induction n with
  | zero => intro t r pre post w hd; cases hd
  | succ n ih =>
    intro t r pre post w hd htA hwt ht0 hp0 hA hC hlen
    obtain ⟨init, c, hic⟩ : ∃ init c, r :: post = init ++ [c] := ⟨(r :: post).dropLast, (r :: post).getLast (by simp), (List.dropLast_concat_getLast _).symm⟩
    have hAr := hA.suffix pre r post rfl
    rw [hic] at hAr
    have hA0 : Along t.path T0 ((pre ++ init) ++ [c]) := by rw [List.append_assoc, ← hic]; exact hA
    have hr : TAt nR w r := along_tat hA ht0 r (by simp)
    have hrw : WF r := hA.wf hw0 r (by simp)
    have hrp : r.path <+: t.path := hA.pre hp0 r (by simp)
    have hc : TAt nR w c := along_tat hA0 ht0 c (by simp)
    have hcw : WF c := hA0.wf hw0 c (by simp)
    have hpsz := htA.psz'
    obtain ⟨ao, cap, c0, -, c2, -, hk, hroom, -⟩ := htA.cells
    have hta := htA.lt
    have HR := reach_calls (R := nR) r t.p w init c hAr hr hrw hrp hpsz
    have hfew := hwt.few
    have hl1 : (pths (n + 1) t).length = sumL n t.ks + 1 := by simp [pths, sumL]
    by_cases ho : o t.a = true
    · have hct : c = t := hC.1 ho _ _ hA0
      have hfr : fr o (n + 1) t = 0 := by unfold fr; rw [if_pos ho]
      have hq := fun W => eqlNode_same W ⟨t.a, 0, none⟩
      rw [hfr]
      rw [hct] at HR
      clear hC hA hA0 hAr hic hr hrw hrp hc hcw hk htA ho hct hfr
      go_enter Try.func40, Try.ntmps40
      go_wp2_with fail
      refine HR.mono ?_
      clear HR
      rintro e w2 ⟨rfl, hb2⟩
      have HB2 : Hid (Below w.heap.size w w2) := hb2
      have hq2 := hq w2
      clear hb2 hq
      go_wp2_with fail
      go_ret
      exact ⟨rfl, HB2.out⟩
    · have ho' : o t.a = false := by simpa using ho
      obtain ⟨hne, hCk⟩ := hC.2 ho'
      have hca := hne _ _ hA0
      have hfr : fr o (n + 1) t = 1 + frS o n t.ks t.ks.length := by unfold fr frS; rw [if_neg ho, List.take_length]
      rw [hfr]
      have HQ : Hid (∀ W, Below w.heap.size w W → (binOp .eql 35 (.pointer (some ⟨c.a, 0, none⟩)) (.pointer (some ⟨t.a, 0, none⟩))).run Try.prog W = .ok (.bool false) W) := fun W hW => eqlNode_other (hc.keep hW) (htA.keep hW) hca
      have HT : Hid (TAt nR w t ∧ WF t ∧ Dep (n + 1) t ∧ TAt nR w T0 ∧ T0.path <+: t.path ∧ Along t.path T0 ((pre ++ init) ++ [c]) ∧ WF c ∧ KidsAt nR w ao t.ks ∧ ∀ c ∈ t.ks, Cov o T0 n c) := ⟨htA, hwt, hd, ht0, hp0, hA0, hcw, hk, hCk⟩
      have IH : Hid _ := ih
      have HL : Hid ((pths (n + 1) t).length = sumL n t.ks + 1 ∧ (pths (n + 1) t).length ≤ 4611686018427387904) := ⟨hl1, hlen⟩
      clear hC hCk hA hA0 hAr hic hr hrw hrp hc hcw hk htA ho ho' hne hca hfr hl1 hlen ih hwt hd ht0 hp0
      go_enter Try.func40, Try.ntmps40
      go_wp2_with fail
      refine HR.mono ?_
      clear HR
      rintro e w2 ⟨rfl, hb2⟩
      have hq2 := HQ.out w2 hb2
      have HB2 : Hid (Below w.heap.size w w2) := hb2
      have d2 : w2.cell? ⟨t.a, 2, none⟩ = some (.slice ao t.ks.length cap) := by rw [hb2.cell (by exact hta)]; exact c2
      clear hb2 c0 c2 HQ
      go_wp2_with fail
      go_loopw [6, 23] (fun s i wr => ∃ j : Nat, j ≤ t.ks.length ∧ s = .int .i64 ((1 + frS o n t.ks j : Nat) : Int) ∧ i = .int .i64 j ∧ Hid (Below w.heap.size w wr)) (fun _ i _ => t.ks.length - (intOf i).toNat)
      case atStart => exact ⟨0, Nat.zero_le _, rfl, rfl, HB2⟩
      case round =>
        obtain ⟨j, hj, rfl, rfl, HB⟩ := hrel
        clear d2
        have hfl := frS_le o n t.ks j
        by_cases hlt : j < t.ks.length
        · obtain ⟨b, off, hao, hcell, -⟩ := HT.out.2.2.2.2.2.2.2.1 j hlt
          subst hao
          have hcw2 : wr.cell? ⟨b, off + j, none⟩ = some (.pointer (some ⟨t.ks[j].a, 0, none⟩)) := by rw [HB.out.cell (World.block_lt_of_cell? w _ hcell)]; exact hcell
          have hm : t.ks[j] ∈ t.ks := List.getElem_mem hlt
          obtain ⟨h1, h2, h3, h4, h5, h6, h7, -, h9⟩ := HT.out
          obtain ⟨l2, hl2⟩ := Along.ex h7 t.ks[j].path
          obtain ⟨post2, rfl⟩ := hl2.head
          have hAk := h6.more (h2.ext' _ hm).1 (pre ++ init) c hw0 rfl _ hl2
          have hfj := fr_le o n t.ks[j]
          have hsum := frS_succ o n t.ks hlt
          have hfl2 := frS_le o n t.ks (j + 1)
          have hlo := HL.out
          have hkl := kid_le n t.ks hm
          have HC := IH.out t.ks[j] c (pre ++ init) post2 wr (h3 _ hm) ((h1.sub' _ hm).keep HB.out) (h2.kids' _ hm) (h4.keep HB.out) (h5.trans (h2.ext' _ hm).1) hAk (h9 _ hm) (by omega)
          obtain ⟨f, hf⟩ : ∃ f, f = fr o n t.ks[j] := ⟨_, rfl⟩
          obtain ⟨s, hs⟩ : ∃ s, s = frS o n t.ks j := ⟨_, rfl⟩
          rw [← hf] at HC hsum
          rw [← hs] at hsum ⊢
          have HS : Hid (frS o n t.ks (j + 1) = s + f) := hsum
          have hsf : s + f + 1 ≤ 4611686018427387904 := by rw [hsum] at hfl2; omega
          clear hm h1 h2 h3 h4 h5 h6 h7 h9 hl2 hAk hfj hsum hfl hfl2 hlo hkl hf hs hcell
          go_wp2_with fail
          refine HC.mono ?_
          clear HC
          rintro e w3 ⟨rfl, hb3⟩
          have HB3 : Hid (Below w.heap.size w w3) := HB.out.trans (hb3.mono HB.out.size)
          clear hb3 HB hcw2
          go_wp2_with fail
          go_roundw
          case rel => exact ⟨j + 1, by omega, by rw [HS.out]; go_num, by go_num, HB3⟩
          case measure => simp [intOf]; omega
        · have hjl : j = t.ks.length := by omega
          subst hjl
          go_wp2_with fail
          go_ret
          exact ⟨rfl, HB.out⟩

set_option maxRecDepth 100000 in
theorem freshT_calls (o : Nat → Bool) (T0 T : Tr) (tb0 tb : Nat) (m0 m : Int) (n : Nat) (w : World) (h0 : TreeAt w tb0 T0 m0) (h : TreeAt w tb T m) (hw0 : WF T0) (hw : WF T) (hr0 : T0.p = kE) (hd : Dep n T) (hC : Cov o T0 n T) (hl : (pths n T).length ≤ 4611686018427387904) :
    Calls Try.prog 13 #[.pointer (some ⟨tb0, 0, none⟩), .pointer (some ⟨tb, 0, none⟩)] w fun e w' => e = .returned (.int .i64 (fr o n T : Int)) ∧ Below w.heap.size w w' := by
  have c0 : w.cell? ⟨tb0, 0, none⟩ = some (.pointer (some ⟨T0.a, 0, none⟩)) := by rw [cell_of_blk h0.blk]; rfl
  have c1 : w.cell? ⟨tb, 0, none⟩ = some (.pointer (some ⟨T.a, 0, none⟩)) := by rw [cell_of_blk h.blk]; rfl
  obtain ⟨l, hl2⟩ := Along.ex hw0 T.path
  obtain ⟨post, rfl⟩ := hl2.head
  have HC := fun dd os => Calls.regrown_of (fresh_calls o T0 hw0 n T T0 [] post (grow (redrawn w dd) os) hd (h.tat.keep (below_regrown w dd os)) hw (h0.tat.keep (below_regrown w dd os)) (root_pre hr0 _) hl2 hC hl)
  have j0 := cell_regrown c0
  have j1 := cell_regrown c1
  clear h0 h hw0 hw hr0 hd hC hl hl2
  go_enter Try.func13, Try.ntmps13
  go_wp2_with fail
  refine wp_region_quiet_below (by kernel_rfl) (by kernel_rfl) ?_
  repeat (quiet_step (exact HC _ _))
  refine wpQuiet_nil ?_
  intro w9 hw'
  obtain ⟨⟨dq, osq⟩, hw9⟩ := hw'
  have HB9 : Hid (Below w.heap.size w w9) := by rw [hw9]; exact below_regrown w dq osq
  clear hw9
  go_wp2_with fail
  go_ret
  exact ⟨rfl, HB9.out⟩

theorem onW_succ (k : List UInt8) (P : List ByteArray) {j : Nat} (h : j < P.length) : onW k (P.take (j + 1)) = onW k (P.take j) + if startsB k (kyb P[j]) then 1 else 0 := by
  unfold onW
  rw [List.take_succ_eq_append_getElem h, List.countP_append, List.countP_singleton]
theorem onW_le (k : List UInt8) (P : List ByteArray) (j : Nat) : onW k (P.take j) ≤ j := by
  unfold onW
  have h1 := List.countP_le_length (p := fun q => startsB k (kyb q)) (l := P.take j)
  rw [List.length_take] at h1
  omega
theorem extract_is (k q : ByteArray) (h : q.size ≤ k.size) : startsB (kyb k) (kyb q) = true ↔ k.extract 0 q.size = q := by
  have he : kyb (k.extract 0 q.size) = (kyb k).take q.size := by
    simp only [kyb, ByteArray.data_extract, Array.toList_extract, List.extract_eq_take_drop]
    simp
  rw [startsB_iff, List.prefix_iff_eq_take, kyb_len, ← he]
  exact ⟨fun e => (kyb_inj e).symm, fun e => by rw [e]⟩

set_option maxRecDepth 100000 in
set_option maxHeartbeats 1600000 in
theorem onWay_calls (d : Dv) (es : List En) (P : List ByteArray) (k : ByteArray) (w : World) (hd : DocAt w d es P) (hks : k.size ≤ 140737488351296) (hl : P.length ≤ 11728124029400) :
    Calls Try.prog 17 #[.agg (d.cells es.length P.length), .string k] w fun e w' => e = .returned (.int .i64 (onW (kyb k) P : Int)) ∧ Below w.heap.size w w' := by
  have HX : Hid (∀ W, Below w.heap.size w W → ∀ j (hj : j < P.length), ∃ b off, d.p.ao = some ⟨b, off, none⟩ ∧ W.cell? ⟨b, off + j, none⟩ = some (.string P[j])) := fun W hW j hj => by
    obtain ⟨b2, o2, ha2, hc2⟩ := hd.p.str hd.pp j hj
    exact ⟨b2, o2, ha2, by rw [hW.cell (World.block_lt_of_cell? w _ hc2)]; exact hc2⟩
  have HZ : Hid (∀ (j : Nat) (h : j < P.length), P[j].size ≤ 140737488351296) := fun j h => hd.psz _ (List.getElem_mem h)
  obtain ⟨w1, HW1⟩ : ∃ w1, Hid (w1 = w.alloc (.cells (d.cells es.length P.length) 28)) := ⟨_, rfl⟩
  have hb1 : Below w.heap.size w w1 := by rw [HW1.out]; exact (Below.refl _ w).alloc (Nat.le_refl _) _
  have q0 : w1.heap[w.heap.size]? = some (.cells (d.cells es.length P.length) 28) := by rw [HW1.out]; exact heap_alloc_new _ _
  have k3 : w1.cell? ⟨w.heap.size, 3, none⟩ = some (.slice d.p.ao P.length d.p.cap) := by rw [cell_of_blk q0]; rfl
  have HB1 : Hid (Below w.heap.size w w1) := hb1
  unfold Dv.cells
  unfold Dv.cells at HW1
  clear hd hb1 q0
  obtain ⟨dk, dv, dl, ⟨dpa, dpc, dpv⟩, dm⟩ := d
  dsimp only at HX HW1 k3 ⊢
  go_enter Try.func17, Try.ntmps17
  go_wp2_with fail
  rw [← HW1.out]
  clear HW1
  go_wp2_with fail
  go_loopw [5, 11] (fun s i wr => ∃ j : Nat, j ≤ P.length ∧ s = .int .i64 (onW (kyb k) (P.take j) : Int) ∧ i = .int .i64 j ∧ Hid (Below w.heap.size w wr)) (fun _ i _ => P.length - (intOf i).toNat)
  case atStart => exact ⟨0, Nat.zero_le _, rfl, rfl, HB1⟩
  case round =>
    obtain ⟨j, hj, rfl, rfl, HB⟩ := hrel
    clear k3
    have hol := onW_le (kyb k) P j
    by_cases hlt : j < P.length
    · obtain ⟨b, off, hao, hcell⟩ := HX.out wr HB.out j hlt
      subst hao
      have hsz := HZ.out j hlt
      have hs := onW_succ (kyb k) P hlt
      obtain ⟨q, hq⟩ : ∃ q, q = P[j] := ⟨_, rfl⟩
      rw [← hq] at hcell hsz hs
      obtain ⟨s, hss⟩ : ∃ s, s = onW (kyb k) (P.take j) := ⟨_, rfl⟩
      rw [← hss] at hs hol ⊢
      clear hq hss
      by_cases hsz2 : q.size ≤ k.size
      · have hi : (q.size : Int) ≤ (k.size : Int) := by omega
        have hd1 : decide ((q.size : Int) ≤ (k.size : Int)) = true := by simpa using hsz2
        have hiff := extract_is k q hsz2
        by_cases hst : startsB (kyb k) (kyb q) = true
        · rw [if_pos hst] at hs
          have HS : Hid (onW (kyb k) (P.take (j + 1)) = s + 1) := hs
          have he : ((k.extract 0 q.size).toList == q.toList) = true := by rw [hiff.1 hst]; exact beq_self_eq_true _
          clear hs hiff hst
          go_wp2_with fail
          go_roundw
          case rel => exact ⟨j + 1, by omega, by rw [HS.out]; go_num, by go_num, HB⟩
          case measure => simp [intOf]; omega
        · rw [if_neg hst] at hs
          have HS : Hid (onW (kyb k) (P.take (j + 1)) = s) := hs
          have he : ((k.extract 0 q.size).toList == q.toList) = false := by
            rw [beq_eq_false_iff_ne, ByteArray.toList_eq, ByteArray.toList_eq]
            exact fun e => hst (hiff.2 (kyb_inj e))
          clear hs hiff hst
          go_wp2_with fail
          go_roundw
          case rel => exact ⟨j + 1, by omega, by rw [HS.out], by go_num, HB⟩
          case measure => simp [intOf]; omega
      · have hd1 : decide ((q.size : Int) ≤ (k.size : Int)) = false := by simp; omega
        have hst : ¬ startsB (kyb k) (kyb q) = true := fun h => hsz2 (by have := ((startsB_iff _ _).1 h).length_le; rw [kyb_len, kyb_len] at this; exact this)
        rw [if_neg hst] at hs
        have HS : Hid (onW (kyb k) (P.take (j + 1)) = s) := hs
        clear hs hst
        go_wp2_with fail
        go_roundw
        case rel => exact ⟨j + 1, by omega, by rw [HS.out], by go_num, HB⟩
        case measure => simp [intOf]; omega
    · have hjl : j = P.length := by omega
      subst hjl
      rw [List.take_length]
      go_wp2_with fail
      go_ret
      exact ⟨rfl, HB.out⟩
end Go.Proofs.Ytcdfbbjakkmmoaa
