/- The document's Get and Kids. -/
import Derived.Test.YtcdfbbjakkmmoaaXInsD0
import Derived.Test.YtcdfbbjakkmmoaaXKidsM
import Derived.BigQuiet
namespace Go.Proofs.Ytcdfbbjakkmmoaa
open Go.RowKit
set_option linter.unusedVariables false

/-- The boxed tree. -/
theorem boxed_blk (w : World) (c : Array Value) : (w.alloc (.cells c 28)).heap[w.heap.size]? = some (.cells c 28) := heap_alloc_new _ _

set_option maxRecDepth 100000 in
set_option maxHeartbeats 1600000 in
theorem getD_calls (d : Dv) (es : List En) (ps : List ByteArray) (k : ByteArray) (w : World) (hd : DocAt w d es ps) (hk : k.size ≤ 140737488351296) (hl : es.length ≤ 5864062014650) :
    Calls Try.prog 16 #[.agg (d.cells es.length ps.length), .string k] w fun e w' => e = .returned (.tuple #[.int .i64 (oldV es k), .bool (decide (k ∈ keysOf es))]) ∧ Below w.heap.size w w' := by
  obtain ⟨w1, HW1⟩ : ∃ w1, Hid (w1 = w.alloc (.cells (d.cells es.length ps.length) 28)) := ⟨_, rfl⟩
  have hb1 : Below w.heap.size w w1 := by rw [HW1.out]; exact (Below.refl _ w).alloc (Nat.le_refl _) _
  have q0 : w1.heap[w.heap.size]? = some (.cells (d.cells es.length ps.length) 28) := by rw [HW1.out]; exact heap_alloc_new _ _
  have k0 : w1.cell? ⟨w.heap.size, 0, none⟩ = some (.slice d.k.ao es.length d.k.cap) := by rw [cell_of_blk q0]; rfl
  have HF := find_calls d.k (keysOf es) k w1 (hd.k.below hb1) hd.kk hd.sorted.keys hd.ksz hk (by rw [keysOf_len]; omega)
  rw [keysOf_len] at HF
  have hnot : ∀ (x : Bool) (w : World), (Op.unary .not (.bool x)).run Try.prog w = .ok (.bool (!x)) w := fun _ _ => rfl
  have HD : Hid (DocAt w d es ps) := hd
  have HQ : Hid (Below w.heap.size w w1 ∧ w1.heap[w.heap.size]? = some (.cells (d.cells es.length ps.length) 28)) := ⟨hb1, q0⟩
  clear hd hb1 q0
  unfold Dv.cells
  unfold Dv.cells at HW1
  by_cases hin : k ∈ keysOf es
  · rw [decide_eq_true hin] at HF ⊢
    obtain ⟨hpl, -⟩ := (place_mem HD.out.sorted.keys).2 hin
    rw [keysOf_len] at hpl
    have hold : oldV es k = (valsOf es)[place (keysOf es) k]'(by simp [valsOf]; omega) := by unfold oldV; rw [if_pos hin]; simp [valsOf, hpl]
    obtain ⟨vb, voff, hva, hvc⟩ := (HD.out.v.below HQ.out.1).int HD.out.vv (place (keysOf es) k) (by simp [valsOf]; omega)
    rw [← hold] at hvc
    obtain ⟨at_, hat⟩ : ∃ a, a = place (keysOf es) k := ⟨_, rfl⟩
    rw [← hat] at HF hvc hpl
    have k1 : w1.cell? ⟨w.heap.size, 1, none⟩ = some (.slice (some ⟨vb, voff, none⟩) es.length d.v.cap) := by rw [cell_of_blk HQ.out.2, ← hva]; rfl
    have i1 : (0 : Int) ≤ (at_ : Int) ∧ (at_ : Int) < (es.length : Int) := by omega
    obtain ⟨o, ho⟩ : ∃ o, o = oldV es k := ⟨_, rfl⟩
    rw [← ho] at hvc ⊢
    clear hold hat hva ho
    go_enter Try.func16, Try.ntmps16
    go_wp2_with fail
    rw [← HW1.out]
    clear HW1
    refine HF.mono ?_
    clear HF
    rintro e w2 ⟨rfl, nq, hw2⟩
    have HB2 : Hid (Below w.heap.size w w2) := by rw [hw2]; exact HQ.out.1.trans ((drewN_below w1 nq).mono HQ.out.1.size)
    have m1 : w2.cell? ⟨w.heap.size, 1, none⟩ = some (.slice (some ⟨vb, voff, none⟩) es.length d.v.cap) := by rw [hw2]; exact k1
    have m2 : w2.cell? ⟨vb, voff + at_, none⟩ = some (.int .i64 o) := by rw [hw2]; exact hvc
    clear hw2 k0 k1 hvc
    go_wp2_with fail
    go_ret2
    exact ⟨rfl, HB2.out⟩
  · rw [decide_eq_false hin] at HF ⊢
    have hold : oldV es k = 0 := by unfold oldV; rw [if_neg hin]
    rw [hold]
    obtain ⟨at_, hat⟩ : ∃ a, a = place (keysOf es) k := ⟨_, rfl⟩
    rw [← hat] at HF
    clear hold hat
    go_enter Try.func16, Try.ntmps16
    go_wp2_with fail
    rw [← HW1.out]
    clear HW1
    refine HF.mono ?_
    clear HF
    rintro e w2 ⟨rfl, nq, hw2⟩
    have HB2 : Hid (Below w.heap.size w w2) := by rw [hw2]; exact HQ.out.1.trans ((drewN_below w1 nq).mono HQ.out.1.size)
    clear hw2 k0
    go_wp2_with fail
    go_ret2
    exact ⟨rfl, HB2.out⟩

/-- Within the document's Kids. -/
structure KdI (w : World) (c : Array Value) (v : Value) (l : List Nat) (W : World) : Prop where
  below : Below w.heap.size w W
  tb : W.heap[w.heap.size]? = some (.cells c 28)
  own : OwnV W w.heap.size 3 v (ints (l.map (fun (x : Nat) => (x : Int))))
theorem KdI.keep {w : World} {c : Array Value} {v : Value} {l : List Nat} {W W1 : World} (h : KdI w c v l W) (hb : Below W.heap.size W W1) : KdI w c v l W1 :=
  ⟨h.below.trans (hb.mono h.below.size), (hb.block _ (lt_of_heap h.tb)).trans h.tb, h.own.below hb⟩
theorem KdI.next {w : World} {c : Array Value} {v v1 : Value} {l : List Nat} {W W1 : World} {j : Nat} (h : KdI w c v l W) (ho : OwnV W1 w.heap.size 3 v1 (ints (l.map (fun (x : Nat) => (x : Int))) ++ [.int .i64 (j : Int)])) (hg : Grew W W1 v v1) : KdI w c v1 (l ++ [j]) W1 := by
  refine ⟨h.below.trans (hg.toBelow h.below.size (fun k hk => (h.own.lt k hk).1)), grew_blk h.own hg h.tb (by decide), ?_⟩
  have : ints ((l ++ [j]).map (fun (x : Nat) => (x : Int))) = ints (l.map (fun (x : Nat) => (x : Int))) ++ [.int .i64 (j : Int)] := by simp [ints]
  rw [this]; exact ho
theorem kdLen (l : List Nat) : (ints (l.map (fun (x : Nat) => (x : Int)))).length = l.length := by simp [ints]
theorem kstep_pos {P : List ByteArray} {l : List Nat} {j : Nat} (h : l = [] ∨ startsB (atP P j) (atP P (l.getLastD 0)) = false) : kstep P l j = l ++ [j] := by unfold kstep; rw [if_pos h]
theorem kstep_neg {P : List ByteArray} {l : List Nat} {j : Nat} (h : l ≠ []) (h2 : startsB (atP P j) (atP P (l.getLastD 0)) = true) : kstep P l j = l := by
  unfold kstep; rw [if_neg]; rintro (h3 | h3)
  · exact h h3
  · rw [h2] at h3; cases h3
theorem last_of {l : List Nat} {n : Nat} (h : l.length = n + 1) : l.getLastD 0 = l[n]'(by omega) := by
  have hn : n < l.length := by omega
  rw [List.getLastD_eq_getLast?, List.getLast?_eq_getElem?, show l.length - 1 = n by omega, List.getElem?_eq_getElem hn]; rfl
theorem atP_lt {P : List ByteArray} {i : Nat} (h : i < P.length) : atP P i = P[i].data.toList := by unfold atP; simp [h]; rfl

set_option maxRecDepth 100000 in
set_option maxHeartbeats 4000000 in
theorem kidsD_calls (d : Dv) (es : List En) (P : List ByteArray) (i E : Nat) (w : World) (hd : DocAt w d es P) (hl : P.length ≤ 11728124029400) (hi : i + 1 + E ≤ P.length) (hin : ∀ m, m < E → startsB (atP P (i + 1 + m)) (atP P i) = true) (hend : i + 1 + E < P.length → startsB (atP P (i + 1 + E)) (atP P i) = false) :
    Calls Try.prog 39 #[.agg (d.cells es.length P.length), .int .i64 (i : Int)] w fun e w' => ∃ ao cap, e = .returned (.slice ao (kout P i E).length cap) ∧ OwnV w' w.heap.size 3 (.slice ao (kout P i E).length cap) (ints ((kout P i E).map (fun (x : Nat) => (x : Int)))) ∧ Below w.heap.size w w' := by
  obtain ⟨pb, poff, hpa, hci⟩ := hd.p.str hd.pp i (by omega)
  have HX : Hid (∀ W, Below w.heap.size w W → ∀ j (hj : j < P.length), W.cell? ⟨pb, poff + j, none⟩ = some (.string P[j])) := fun W hW j hj => by
    obtain ⟨b2, o2, ha2, hc2⟩ := hd.p.str hd.pp j hj
    rw [hpa] at ha2
    simp only [Option.some.injEq, Addr.mk.injEq] at ha2
    obtain ⟨rfl, rfl, -⟩ := ha2
    rw [hW.cell (World.block_lt_of_cell? w _ hc2)]; exact hc2
  obtain ⟨w1, HW1⟩ : ∃ w1, Hid (w1 = (w.alloc (.cells (d.cells es.length P.length) 28)).alloc (.cells #[] 3)) := ⟨_, rfl⟩
  have HK0 : Hid (KdI w (d.cells es.length P.length) (.slice (some ⟨w.heap.size + 1, 0, none⟩) 0 0) (kout P i 0) w1) := by
    have hs : (w.alloc (.cells (d.cells es.length P.length) 28)).heap.size = w.heap.size + 1 := by simp [World.size_alloc]
    rw [HW1.out]
    refine ⟨((Below.refl _ w).alloc (Nat.le_refl _) _).alloc (by omega) _, ?_, ?_⟩
    · rw [Below.heap_alloc _ _ _ (by omega)]; exact heap_alloc_new _ _
    · have := OwnV.made (w.alloc (.cells (d.cells es.length P.length) 28)) 3 [] (by decide)
      rw [hs] at this
      exact this.mono (by omega)
  have hnot : ∀ (x : Bool) (w : World), (Op.unary .not (.bool x)).run Try.prog w = .ok (.bool (!x)) w := fun _ _ => rfl
  have HZ : Hid (∀ (j : Nat) (h : j < P.length), P[j].size ≤ 140737488351296) := fun j h => hd.psz _ (List.getElem_mem h)
  have HIN : Hid (∀ m, m < E → startsB (atP P (i + 1 + m)) (atP P i) = true) := hin
  have HEND : Hid (i + 1 + E < P.length → startsB (atP P (i + 1 + E)) (atP P i) = false) := hend
  have hiP : i < P.length := by omega
  have hzi := HZ.out i hiP
  have hmk : ∀ (W : World) (c : Array Value) (v : Value) (l : List Nat), KdI w c v l W → c = d.cells es.length P.length → W.cell? ⟨w.heap.size, 3, none⟩ = some (.slice (some ⟨pb, poff, none⟩) P.length d.p.cap) := fun W c v l h hc => by
    subst hc; rw [cell_of_blk h.tb, ← hpa]; rfl
  have HMK : Hid _ := hmk
  clear hd hin hend hci hpa hmk
  obtain ⟨C, HC⟩ : ∃ C, Hid (C = d.cells es.length P.length) := ⟨_, rfl⟩
  rw [← HC.out] at HK0
  unfold Dv.cells
  unfold Dv.cells at HW1
  go_enter Try.func39, Try.ntmps39
  go_wp2_with fail
  rw [← HW1.out]
  clear HW1
  go_loopw [5, 6] (fun o j wr => ∃ (m : Nat) (ao : Option Addr) (cap : Nat), m ≤ E ∧ j = .int .i64 ((i + 1 + m : Nat) : Int) ∧ o = .slice ao (kout P i m).length cap ∧ Hid (KdI w C (.slice ao (kout P i m).length cap) (kout P i m) wr)) (fun _ j _ => P.length - (intOf j).toNat)
  case atStart => exact ⟨0, _, 0, Nat.zero_le _, rfl, rfl, HK0⟩
  case round =>
    obtain ⟨m, ao, cap, hm, rfl, rfl, HI⟩ := hrel
    clear HK0
    have p3 := HMK.out _ _ _ _ HI.out HC.out
    have ci : wr.cell? ⟨pb, poff + i, none⟩ = some (.string P[i]) := HX.out wr HI.out.below i hiP
    obtain ⟨j, hj⟩ : ∃ j, j = i + 1 + m := ⟨_, rfl⟩
    have HJ : Hid (j = i + 1 + m) := hj
    have hji : i < j ∧ j ≤ i + 1 + E := by omega
    rw [← hj]
    clear hj
    by_cases hlt : j < P.length
    · have cj : wr.cell? ⟨pb, poff + j, none⟩ = some (.string P[j]) := HX.out wr HI.out.below j hlt
      have hzj := HZ.out j hlt
      have hd1 : decide ((j : Int) < (P.length : Int)) = true := by simp; omega
      have i1 : (0 : Int) ≤ (j : Int) ∧ (j : Int) < (P.length : Int) := by omega
      have i2 : (0 : Int) ≤ (i : Int) ∧ (i : Int) < (P.length : Int) := by omega
      have HS := fun W => starts_calls P[j] P[i] W (by omega) (by omega)
      rw [← atP_lt hlt, ← atP_lt hiP] at HS
      by_cases hme : m < E
      · have hst := HIN.out m hme
        rw [← HJ.out] at hst
        rw [hst] at HS
        clear hst
        have hml := kout_len P i m
        obtain ⟨L, hL⟩ : ∃ L, L = (kout P i m).length := ⟨_, rfl⟩
        have HL : Hid (L = (kout P i m).length) := hL
        rw [← hL] at HI hml ⊢
        clear hL
        by_cases h0 : kout P i m = []
        · have hz0 : L = 0 := by rw [HL.out, h0]; rfl
          have hd2 : (((L : Nat) : Int) == 0) = true := by rw [hz0]; rfl
          have HN : Hid (kout P i (m + 1) = kout P i m ++ [j]) := by
            show kstep P (kout P i m) (i + 1 + m) = _
            rw [kstep_pos (.inl h0), HJ.out]
          clear hz0 h0
          go_wp2_with fail
          go_quiet ((go_at_call 58; exact Calls.quiet_of_same (HS _)))
          obtain ⟨wy, hwy⟩ : ∃ wy, wy = wr.drewN nq := ⟨_, rfl⟩
          rw [← hwy]
          have HIy : Hid (KdI w C (.slice ao L cap) (kout P i m) wy) := HI.out.keep (by rw [hwy]; exact drewN_below _ _)
          have p3y : wy.cell? ⟨w.heap.size, 3, none⟩ = some (.slice (some ⟨pb, poff, none⟩) P.length d.p.cap) := by rw [hwy]; exact p3
          have cjy : wy.cell? ⟨pb, poff + j, none⟩ = some (.string P[j]) := by rw [hwy]; exact cj
          clear hwy HI p3 cj ci
          go_wp2_with fail
          go_quiet (fail)
          obtain ⟨wx, hwx⟩ : ∃ wx, wx = wy.drewN nq := ⟨_, rfl⟩
          rw [← hwx]
          have HI2 : Hid (KdI w C (.slice ao L cap) (kout P i m) wx) := HIy.out.keep (by rw [hwx]; exact drewN_below _ _)
          clear hwx
          have hbs := HI2.out.below.size
          have hlL : (ints ((kout P i m).map (fun (x : Nat) => (x : Int)))).length = L := by rw [kdLen]; exact HL.out.symm
          go_wp2_with (at_builtin; refine append_val wx rfl (.tmp 52) (.tmp 54) 26 3 (.int .i64 0) 8 Try.underlying26 infoI rfl rfl w.heap.size _ (ints ((kout P i m).map (fun (x : Nat) => (x : Int)))) rfl (.int .i64 (j : Int)) rfl _ rfl (by first | rfl | simp) HI2.out.own (by rw [hlL]; omega) (by rw [hlL]; omega) hbs ?_)
          intro v8 w8 ho8 hg8
          obtain ⟨ma8, mc8, hmv8⟩ := ho8.shape
          rw [List.length_append, hlL, List.length_singleton] at hmv8
          have HI8 : Hid (KdI w C v8 (kout P i (m + 1)) w8) := by rw [HN.out]; exact HI2.out.next ho8 hg8
          have hl8 : (kout P i (m + 1)).length = L + 1 := by rw [HN.out, List.length_append, ← HL.out]; rfl
          subst hmv8
          clear ho8 hg8 HI2 HIy
          go_wp2_with fail
          go_roundw
          case rel => exact ⟨m + 1, ma8, mc8, by omega, by have := HJ.out; subst this; go_num, by rw [hl8], by rw [hl8]; exact HI8⟩
          case measure => simp [intOf]; omega
        · obtain ⟨n, hn⟩ : ∃ n, L = n + 1 := by
            cases L with
            | zero => exact absurd (List.eq_nil_of_length_eq_zero HL.out.symm) h0
            | succ n => exact ⟨n, rfl⟩
          have hd2 : (((L : Nat) : Int) == 0) = false := by rw [beq_eq_false_iff_ne]; omega
          have hnl : n < (kout P i m).length := by rw [← HL.out]; omega
          have hlast := last_of (l := kout P i m) (n := n) (by rw [← HL.out]; exact hn)
          have hxm := kout_lt P i m _ (List.getElem_mem hnl)
          rw [← HJ.out, ← hlast] at hxm
          obtain ⟨x, hx⟩ : ∃ x, x = (kout P i m).getLastD 0 := ⟨_, rfl⟩
          have hxP : x < P.length := by rw [hx]; omega
          obtain ⟨g, hao, hco⟩ := HI.out.own.at n (by rw [kdLen]; exact hnl)
          rw [show (ints ((kout P i m).map (fun (x : Nat) => (x : Int))))[n]'(by rw [kdLen]; exact hnl) = .int .i64 (x : Int) by rw [hx, hlast]; simp [ints]] at hco
          have cx : wr.cell? ⟨pb, poff + x, none⟩ = some (.string P[x]) := HX.out wr HI.out.below x hxP
          have hzx := HZ.out x hxP
          have HX0 : Hid (x = (kout P i m).getLastD 0) := hx
          have i3 : (0 : Int) ≤ (x : Int) ∧ (x : Int) < (P.length : Int) := by omega
          have i5 : (L : Int) - 1 = (n : Int) := by omega
          have i6 : (0 : Int) ≤ (n : Int) ∧ (n : Int) < (L : Int) := by omega
          have i7 : IntKind.i64.wrap (n : Int) = (n : Int) := by rw [IntKind.wrap_i64]; omega
          have HS2 := fun W => starts_calls P[j] P[x] W (by omega) (by omega)
          rw [← atP_lt hlt, ← atP_lt hxP] at HS2
          clear hlast hx hn
          subst hao
          by_cases hst2 : startsB (atP P j) (atP P x) = true
          · have HN : Hid (kout P i (m + 1) = kout P i m) := by
              show kstep P (kout P i m) (i + 1 + m) = _
              rw [kstep_neg h0 (by rw [← HX0.out, ← HJ.out]; exact hst2)]
            rw [hst2] at HS2
            go_wp2_with fail
            go_quiet ((go_at_call 58; exact Calls.quiet_of_same (HS _)))
            obtain ⟨wy, hwy⟩ : ∃ wy, wy = wr.drewN nq := ⟨_, rfl⟩
            rw [← hwy]
            have HIy : Hid (KdI w C (.slice (some ⟨g, 0, none⟩) L cap) (kout P i m) wy) := HI.out.keep (by rw [hwy]; exact drewN_below _ _)
            have p3y : wy.cell? ⟨w.heap.size, 3, none⟩ = some (.slice (some ⟨pb, poff, none⟩) P.length d.p.cap) := by rw [hwy]; exact p3
            have cjy : wy.cell? ⟨pb, poff + j, none⟩ = some (.string P[j]) := by rw [hwy]; exact cj
            have cxy : wy.cell? ⟨pb, poff + x, none⟩ = some (.string P[x]) := by rw [hwy]; exact cx
            have coy : wy.cell? ⟨g, n, none⟩ = some (.int .i64 (x : Int)) := by rw [hwy]; exact hco
            clear hwy HI p3 cj ci cx hco
            go_wp2_with fail
            go_quiet ((go_at_call 58; exact Calls.quiet_of_same (HS2 _)))
            obtain ⟨wx, hwx⟩ : ∃ wx, wx = wy.drewN nq := ⟨_, rfl⟩
            rw [← hwx]
            have HI2 : Hid (KdI w C (.slice (some ⟨g, 0, none⟩) L cap) (kout P i (m + 1)) wx) := by rw [HN.out]; exact HIy.out.keep (by rw [hwx]; exact drewN_below _ _)
            have hl8 : (kout P i (m + 1)).length = L := by rw [HN.out]; exact HL.out.symm
            clear hwx HIy
            go_wp2_with fail
            go_roundw
            case rel => exact ⟨m + 1, _, cap, by omega, by have := HJ.out; subst this; go_num, by rw [hl8], by rw [hl8]; exact HI2⟩
            case measure => simp [intOf]; omega
          · have hst3 : startsB (atP P j) (atP P x) = false := Bool.eq_false_iff.2 hst2
            have HN : Hid (kout P i (m + 1) = kout P i m ++ [j]) := by
              show kstep P (kout P i m) (i + 1 + m) = _
              rw [kstep_pos (.inr (by rw [← HX0.out, ← HJ.out]; exact hst3)), HJ.out]
            rw [hst3] at HS2
            clear hst2
            go_wp2_with fail
            go_quiet ((go_at_call 58; exact Calls.quiet_of_same (HS _)))
            obtain ⟨wy, hwy⟩ : ∃ wy, wy = wr.drewN nq := ⟨_, rfl⟩
            rw [← hwy]
            have HIy : Hid (KdI w C (.slice (some ⟨g, 0, none⟩) L cap) (kout P i m) wy) := HI.out.keep (by rw [hwy]; exact drewN_below _ _)
            have p3y : wy.cell? ⟨w.heap.size, 3, none⟩ = some (.slice (some ⟨pb, poff, none⟩) P.length d.p.cap) := by rw [hwy]; exact p3
            have cjy : wy.cell? ⟨pb, poff + j, none⟩ = some (.string P[j]) := by rw [hwy]; exact cj
            have cxy : wy.cell? ⟨pb, poff + x, none⟩ = some (.string P[x]) := by rw [hwy]; exact cx
            have coy : wy.cell? ⟨g, n, none⟩ = some (.int .i64 (x : Int)) := by rw [hwy]; exact hco
            clear hwy HI p3 cj ci cx hco
            go_wp2_with fail
            go_quiet ((go_at_call 58; exact Calls.quiet_of_same (HS2 _)))
            obtain ⟨wx, hwx⟩ : ∃ wx, wx = wy.drewN nq := ⟨_, rfl⟩
            rw [← hwx]
            have HI2 : Hid (KdI w C (.slice (some ⟨g, 0, none⟩) L cap) (kout P i m) wx) := HIy.out.keep (by rw [hwx]; exact drewN_below _ _)
            clear hwx
            have hbs := HI2.out.below.size
            have hlL : (ints ((kout P i m).map (fun (x : Nat) => (x : Int)))).length = L := by rw [kdLen]; exact HL.out.symm
            go_wp2_with (at_builtin; refine append_val wx rfl (.tmp 52) (.tmp 54) 26 3 (.int .i64 0) 8 Try.underlying26 infoI rfl rfl w.heap.size _ (ints ((kout P i m).map (fun (x : Nat) => (x : Int)))) rfl (.int .i64 (j : Int)) rfl _ rfl (by first | rfl | simp) HI2.out.own (by rw [hlL]; omega) (by rw [hlL]; omega) hbs ?_)
            intro v8 w8 ho8 hg8
            obtain ⟨ma8, mc8, hmv8⟩ := ho8.shape
            rw [List.length_append, hlL, List.length_singleton] at hmv8
            have HI8 : Hid (KdI w C v8 (kout P i (m + 1)) w8) := by rw [HN.out]; exact HI2.out.next ho8 hg8
            have hl8 : (kout P i (m + 1)).length = L + 1 := by rw [HN.out, List.length_append, ← HL.out]; rfl
            subst hmv8
            clear ho8 hg8 HI2 HIy
            go_wp2_with fail
            go_roundw
            case rel => exact ⟨m + 1, ma8, mc8, by omega, by have := HJ.out; subst this; go_num, by rw [hl8], by rw [hl8]; exact HI8⟩
            case measure => simp [intOf]; omega
      · have hmE : m = E := by omega
        have hst := HEND.out (by have := HJ.out; omega)
        subst hmE
        rw [← HJ.out] at hst
        rw [hst] at HS
        go_wp2_with fail
        go_quiet ((go_at_call 58; exact Calls.quiet_of_same (HS _)))
        have HI2 := HI.out.keep (drewN_below wr nq)
        go_wp2_with fail
        go_ret
        exact ⟨ao, cap, rfl, HI2.own, HI2.below⟩
    · have hmE : m = E := by have := HJ.out; omega
      subst hmE
      have hd1 : decide ((j : Int) < (P.length : Int)) = false := by simp; omega
      go_wp2_with fail
      go_quiet (fail)
      have HI2 := HI.out.keep (drewN_below wr nq)
      go_wp2_with fail
      go_ret
      exact ⟨ao, cap, rfl, HI2.own, HI2.below⟩
end Go.Proofs.Ytcdfbbjakkmmoaa
