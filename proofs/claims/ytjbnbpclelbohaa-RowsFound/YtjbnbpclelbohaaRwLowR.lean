import Derived.Test.YtjbnbpclelbohaaRwAll2
/- Layer 7 (rows): hasPlace, Keys. -/
namespace Go.Proofs.Ytjbnbpclelbohaa
open Go.RowKit
set_option linter.unusedVariables false
attribute [local go_sem] Oper.semAt_some

def placeB (t : Tb) (p : Int) : Bool := decide (0 ≤ p) && decide (p < t.xs.length)
def noX : Ix := ⟨⟨#[]⟩, [], false, false, false⟩
def keysP (t : Tb) (p : Int) (cs : List CV) : List (List UInt8) × Int :=
  if placeB t p = false then ([], 75) else if fitP t cs ≠ 0 then ([], fitP t cs) else indexP t (t.xs.getD p.toNat noX) cs
theorem fitP_cells {t : Tb} {cs : List CV} (h : fitP t cs = 0) : fitC t.fs cs = 0 := by
  unfold fitP at h
  split at h
  · next h0 => exact absurd h h0
  · next h0 => exact Decidable.not_not.1 h0
set_option maxHeartbeats 1000000 in
theorem hasPlace_calls (t : TV) (p : Int) (w : World) (hp : -9223372036854775808 ≤ p ∧ p ≤ 9223372036854775807) (hx : t.xs.length ≤ 8) :
    Calls Try.prog 26 #[.agg #[.string t.n, t.fv, t.xv], .int .i64 p] w fun e w' => e = .returned (.bool (placeB t.tb p)) ∧ Below w.heap.size w w' := by
  have HP : Hid (placeB t.tb p = (decide (0 ≤ p) && decide (p < (t.xs.length : Int)))) := by unfold placeB; rw [Hid]; simp [TV.tb]
  obtain ⟨tn, fs, fa, fc, xs, xa, xc⟩ := t
  dsimp only [TV.fv, TV.xv] at *
  have HB : Hid (Below w.heap.size w (w.alloc (.cells #[.string tn, .slice fa fs.length fc, .slice xa xs.length xc] 29))) := (Below.refl _ _).alloc (Nat.le_refl _) _
  generalize xs.length = xl at *
  by_cases h0 : 0 ≤ p
  · by_cases h1 : p < (xl : Int)
    · rw [decide_eq_true h0, decide_eq_true h1] at HP
      go_enter Try.func26, Try.ntmps26
      go_wp2
      go_ret
      exact ⟨ret_bool HP.out.symm, HB.out⟩
    · rw [decide_eq_true h0, decide_eq_false h1] at HP
      go_enter Try.func26, Try.ntmps26
      go_wp2
      go_ret
      exact ⟨ret_bool HP.out.symm, HB.out⟩
  · rw [decide_eq_false h0] at HP
    have q0 : decide (0 ≤ p) = false := decide_eq_false h0
    go_enter Try.func26, Try.ntmps26
    go_wp2
    go_ret
    exact ⟨ret_bool HP.out.symm, HB.out⟩

set_option maxRecDepth 100000 in
set_option maxHeartbeats 2000000 in
theorem keys_calls (t : TV) (p : Int) (ca : Option Addr) (cc : Nat) (cs : List CV) (w : World) (hp : -9223372036854775808 ≤ p ∧ p ≤ 9223372036854775807) (hcm : cs.length ≤ 4398046511104) (ht : TRd w t) (hr : RowAt w ca cs) :
    Calls Try.prog 13 #[.agg #[.string t.n, t.fv, t.xv], .int .i64 p, .agg #[.slice ca cs.length cc]] w fun e w' => ∃ v, e = .returned (.tuple #[v, .int .i64 (keysP t.tb p cs).2]) ∧ KeysAt w' w.heap.size v (keysP t.tb p cs).1 ∧ Below w.heap.size w w' := by
  have HTR : Hid (TRd w t) := ht
  have HRA : Hid (RowAt w ca cs) := hr
  have HKP : Hid (keysP t.tb p cs = if placeB t.tb p = false then ([], 75) else if fitP t.tb cs ≠ 0 then ([], fitP t.tb cs) else indexP t.tb (t.tb.xs.getD p.toNat noX) cs) := rfl
  have hxm := ht.ok.xmost
  obtain ⟨w2, hw2⟩ : ∃ w2, w2 = (w.alloc (.cells #[.string t.n, t.fv, t.xv] 29)).alloc (.cells #[.slice ca cs.length cc] 24) := ⟨_, rfl⟩
  have hb2 : Below w.heap.size w w2 := by rw [hw2]; exact ((Below.refl _ _).alloc (Nat.le_refl _) _).alloc (by simp only [World.size_alloc]; omega) _
  have HT2 : Hid (w2.heap[w.heap.size]? = some (.cells #[.string t.n, t.fv, t.xv] 29)) := by rw [Hid, hw2]; exact old_blk (new_blk _ _) _
  have HR2 : Hid (w2.heap[w.heap.size + 1]? = some (.cells #[.slice ca cs.length cc] 24)) := by
    rw [Hid, hw2]
    have := new_blk (w.alloc (.cells #[.string t.n, t.fv, t.xv] 29)) (.cells #[.slice ca cs.length cc] 24)
    rw [World.size_alloc] at this
    exact this
  have HHP : Hid (Calls Try.prog 26 #[.agg #[.string t.n, t.fv, t.xv], .int .i64 p] w2 fun e w' => e = .returned (.bool (placeB t.tb p)) ∧ Below w2.heap.size w2 w') := hasPlace_calls t p w2 hp hxm
  have HFT : Hid (∀ W, Below w.heap.size w W → Calls Try.prog 9 #[.agg #[.string t.n, t.fv, t.xv], .agg #[.slice ca cs.length cc]] W fun e w' => e = .returned (.int .i64 (fitP t.tb cs)) ∧ Below W.heap.size W w') := fun W hW => fit_calls t ca cc cs W hcm (ht.below hW) (hr.below hW)
  have HIX : Hid (∀ W, Below w.heap.size w W → fitC t.fs cs = 0 → ∀ x ∈ t.xs, Calls Try.prog 24 #[.agg #[.string t.n, t.fv, t.xv], .agg #[.string x.x.n, .slice x.va x.x.ov.length x.vc, .bool x.x.u, .bool x.x.l, .bool x.x.s], .slice ca cs.length cc] W fun e w' => IxAns W t.tb x.x cs e w') := fun W hW hf x hx => indexKeys_calls t x ca cc cs W ((HTR.out.below hW).klok (HRA.out.below hW) hf hx)
  have HB2 : Hid (Below w.heap.size w w2) := hb2
  have HFC : Hid (fitP t.tb cs = 0 → fitC t.fs cs = 0) := fun h => fitP_cells h
  clear ht hr hb2
  obtain ⟨tn, fs, fa, fc, xs, xa, xc⟩ := t
  dsimp only [TV.fv, TV.xv] at *
  go_enter Try.func13, Try.ntmps13
  go_upto_region 1 with fail
  rw [← hw2]
  clear hw2
  have t0 : w2.cell? ⟨w.heap.size, 0, none⟩ = some (.string tn) := by rw [cell_blk HT2.out]; rfl
  have t1 : w2.cell? ⟨w.heap.size, 1, none⟩ = some (.slice fa fs.length fc) := by rw [cell_blk HT2.out]; rfl
  have t2 : w2.cell? ⟨w.heap.size, 2, none⟩ = some (.slice xa xs.length xc) := by rw [cell_blk HT2.out]; rfl
  go_wp2_with fail
  refine HHP.out.mono ?_
  clear HHP
  rintro e w3 ⟨rfl, hb3⟩
  have HT3 : Hid (w3.heap[w.heap.size]? = some (.cells #[.string tn, .slice fa fs.length fc, .slice xa xs.length xc] 29)) := (hb3.block _ (lt_blk HT2.out)).trans HT2.out
  have HR3 : Hid (w3.heap[w.heap.size + 1]? = some (.cells #[.slice ca cs.length cc] 24)) := (hb3.block _ (lt_blk HR2.out)).trans HR2.out
  have HB3 : Hid (Below w.heap.size w w3) := HB2.out.trans (hb3.mono HB2.out.size)
  clear hb3 HT2 HR2 HB2 t0 t1 t2
  have t0 : w3.cell? ⟨w.heap.size, 0, none⟩ = some (.string tn) := by rw [cell_blk HT3.out]; rfl
  have t1 : w3.cell? ⟨w.heap.size, 1, none⟩ = some (.slice fa fs.length fc) := by rw [cell_blk HT3.out]; rfl
  have t2 : w3.cell? ⟨w.heap.size, 2, none⟩ = some (.slice xa xs.length xc) := by rw [cell_blk HT3.out]; rfl
  have r0 : w3.cell? ⟨w.heap.size + 1, 0, none⟩ = some (.slice ca cs.length cc) := by rw [cell_blk HR3.out]; rfl
  cases hpb : placeB (TV.mk tn fs fa fc xs xa xc).tb p with
  | false =>
    rw [if_pos hpb] at HKP
    clear hpb
    go_wp2
    go_ret2
    refine ⟨.slice none 0 0, ?_, ?_, HB3.out⟩
    · rw [HKP.out]; rfl
    · rw [HKP.out]; exact World.ownsRow_nil _ _ _ _
  | true =>
    rw [if_neg (by rw [hpb]; simp)] at HKP
    have hpr : 0 ≤ p ∧ p < (xs.length : Int) := by
      unfold placeB at hpb
      simp only [Bool.and_eq_true, decide_eq_true_eq] at hpb
      simpa [TV.tb] using hpb
    clear hpb
    obtain ⟨k, rfl⟩ : ∃ k : Nat, p = (k : Int) := ⟨p.toNat, by omega⟩
    have hlt : k < xs.length := by omega
    go_wp2_with fail
    refine (HFT.out _ HB3.out).mono ?_
    clear HFT
    rintro e w4 ⟨rfl, hb4⟩
    have HB4 : Hid (Below w.heap.size w w4) := HB3.out.trans (hb4.mono HB3.out.size)
    have HT4 : Hid (w4.heap[w.heap.size]? = some (.cells #[.string tn, .slice fa fs.length fc, .slice xa xs.length xc] 29)) := (hb4.block _ (lt_blk HT3.out)).trans HT3.out
    have HR4 : Hid (w4.heap[w.heap.size + 1]? = some (.cells #[.slice ca cs.length cc] 24)) := (hb4.block _ (lt_blk HR3.out)).trans HR3.out
    clear hb4 t0 t1 t2 r0 HT3 HR3
    by_cases hf : fitP (TV.mk tn fs fa fc xs xa xc).tb cs = 0
    · rw [if_neg (by rw [hf]; simp)] at HKP
      have HKQ : Hid (keysP (TV.mk tn fs fa fc xs xa xc).tb (k : Int) cs = indexP (TV.mk tn fs fa fc xs xa xc).tb xs[k].x cs) := by
        rw [Hid, HKP.out, show ((k : Int).toNat) = k from rfl, List.getD_eq_getElem?_getD]
        show indexP _ (((xs.map (·.x))[k]?).getD noX) cs = _
        rw [List.getElem?_map, List.getElem?_eq_getElem hlt]
        rfl
      have hf0 := HFC.out hf
      rw [hf]
      clear hf HKP HFC
      have hbd : Below w.heap.size w w4.drew := ⟨HB4.out.os, HB4.out.tape, HB4.out.output, HB4.out.size, HB4.out.block⟩
      have HXC := HIX.out w4.drew hbd hf0 _ (List.getElem_mem hlt)
      obtain ⟨xb, xo, rfl, i0, i1, i2, i3, i4⟩ := (HTR.out.xs.below HB4.out).idx k hlt
      have HXC : Hid (Calls Try.prog 24 #[.agg #[.string tn, .slice fa fs.length fc, .slice (some ⟨xb, xo, none⟩) xs.length xc], .agg #[.string xs[k].x.n, .slice xs[k].va xs[k].x.ov.length xs[k].vc, .bool xs[k].x.u, .bool xs[k].x.l, .bool xs[k].x.s], .slice ca cs.length cc] w4.drew fun e w' => IxAns w4.drew (TV.mk tn fs fa fc xs (some ⟨xb, xo, none⟩) xc).tb xs[k].x cs e w') := HXC
      have t0 : w4.cell? ⟨w.heap.size, 0, none⟩ = some (.string tn) := by rw [cell_blk HT4.out]; rfl
      have t1 : w4.cell? ⟨w.heap.size, 1, none⟩ = some (.slice fa fs.length fc) := by rw [cell_blk HT4.out]; rfl
      have t2 : w4.cell? ⟨w.heap.size, 2, none⟩ = some (.slice (some ⟨xb, xo, none⟩) xs.length xc) := by rw [cell_blk HT4.out]; rfl
      have r0 : w4.cell? ⟨w.heap.size + 1, 0, none⟩ = some (.slice ca cs.length cc) := by rw [cell_blk HR4.out]; rfl
      have hi1 : (k : Int) < (xs.length : Int) := by omega
      have hi0 : (0 : Int) ≤ (k : Int) := by omega
      have hwl : w.heap.size < w4.heap.size := lt_blk HT4.out
      have hrl : w.heap.size + 1 < w4.heap.size := lt_blk HR4.out
      have hxl : xb < w4.heap.size := World.block_lt_of_cell? w4 _ i0
      clear hbd hf0 hpr
      go_upto_region 6 with fail
      go_region_held3 (fun W => W.cell? ⟨w.heap.size, 0, none⟩ = some (.string tn) ∧ W.cell? ⟨w.heap.size, 1, none⟩ = some (.slice fa fs.length fc) ∧ W.cell? ⟨w.heap.size, 2, none⟩ = some (.slice (some ⟨xb, xo, none⟩) xs.length xc) ∧ W.cell? ⟨w.heap.size + 1, 0, none⟩ = some (.slice ca cs.length cc) ∧ W.cell? ⟨xb, xo + k * 5, none⟩ = some (.string xs[k].x.n) ∧ W.cell? ⟨xb, xo + k * 5 + 1, none⟩ = some (.slice xs[k].va xs[k].x.ov.length xs[k].vc) ∧ W.cell? ⟨xb, xo + k * 5 + 2, none⟩ = some (.bool xs[k].x.u) ∧ W.cell? ⟨xb, xo + k * 5 + 3, none⟩ = some (.bool xs[k].x.l) ∧ W.cell? ⟨xb, xo + k * 5 + 4, none⟩ = some (.bool xs[k].x.s)) (first | (exact q3) | go_keep)
        (first
          | (go_at_call 24
             refine HXC.out.mono ?_
             rintro e w5 ⟨v5, rfl, hk5, hb5⟩
             have HB45 : Hid (Below w4.heap.size w4 w5) := ⟨hb5.os, hb5.tape, hb5.output, hb5.size, hb5.block⟩
             have HK5 : Hid (KeysAt w5 w.heap.size v5 (indexP (TV.mk tn fs fa fc xs (some ⟨xb, xo, none⟩) xc).tb xs[k].x cs).1) := row_mono hk5 HB4.out.size
             have q3 : w5.cell? ⟨w.heap.size, 0, none⟩ = some (.string tn) ∧ w5.cell? ⟨w.heap.size, 1, none⟩ = some (.slice fa fs.length fc) ∧ w5.cell? ⟨w.heap.size, 2, none⟩ = some (.slice (some ⟨xb, xo, none⟩) xs.length xc) ∧ w5.cell? ⟨w.heap.size + 1, 0, none⟩ = some (.slice ca cs.length cc) ∧ w5.cell? ⟨xb, xo + k * 5, none⟩ = some (.string xs[k].x.n) ∧ w5.cell? ⟨xb, xo + k * 5 + 1, none⟩ = some (.slice xs[k].va xs[k].x.ov.length xs[k].vc) ∧ w5.cell? ⟨xb, xo + k * 5 + 2, none⟩ = some (.bool xs[k].x.u) ∧ w5.cell? ⟨xb, xo + k * 5 + 3, none⟩ = some (.bool xs[k].x.l) ∧ w5.cell? ⟨xb, xo + k * 5 + 4, none⟩ = some (.bool xs[k].x.s) :=
               ⟨by rw [HB45.out.cell (by exact hwl)]; exact t0, by rw [HB45.out.cell (by exact hwl)]; exact t1, by rw [HB45.out.cell (by exact hwl)]; exact t2, by rw [HB45.out.cell (by exact hrl)]; exact r0, by rw [HB45.out.cell (by exact hxl)]; exact i0, by rw [HB45.out.cell (by exact hxl)]; exact i1, by rw [HB45.out.cell (by exact hxl)]; exact i2, by rw [HB45.out.cell (by exact hxl)]; exact i3, by rw [HB45.out.cell (by exact hxl)]; exact i4⟩
             clear hb5 hk5))
      go_wp2
      go_ret2
      refine ⟨v5, ?_, ?_, HB4.out.trans (HB45.out.mono HB4.out.size)⟩
      · rw [HKQ.out]; rfl
      · rw [HKQ.out]; exact HK5.out
    · rw [if_pos hf] at HKP
      have q5 : (fitP (TV.mk tn fs fa fc xs xa xc).tb cs == 0) = false := by simpa using hf
      clear hf
      go_wp2
      go_ret2
      refine ⟨.slice none 0 0, ?_, ?_, HB4.out⟩
      · rw [HKP.out]; rfl
      · rw [HKP.out]; exact World.ownsRow_nil _ _ _ _
end Go.Proofs.Ytjbnbpclelbohaa

/- Layer 7 (rows): the document's Low; RowsLow. -/
namespace Go.Proofs.Ytjbnbpclelbohaa
open Go.RowKit
set_option linter.unusedVariables false

def lowTo (s : ByteArray) (k : Nat) : List UInt8 := (s.data.toList.take k).map lowB
theorem lowTo_succ (s : ByteArray) (k : Nat) (hk : k < s.size) : lowTo s (k + 1) = lowTo s k ++ [lowB s[k]] := by
  unfold lowTo
  rw [List.take_succ_eq_append_getElem (by simpa using hk), List.map_append]
  rfl
theorem lowTo_all (s : ByteArray) : (⟨(lowTo s s.size).toArray⟩ : ByteArray) = lowS s := by
  unfold lowTo lowS
  rw [List.take_of_length_le (by simp)]
theorem lowTo_len (s : ByteArray) (k : Nat) (hk : k ≤ s.size) : (lowTo s k).length = k := by
  unfold lowTo
  rw [List.length_map, List.length_take]
  simp only [Array.length_toList]
  exact Nat.min_eq_left hk

set_option maxRecDepth 100000 in
set_option maxHeartbeats 1000000 in
theorem refLow_calls (s : ByteArray) (w : World) (hs : s.size ≤ 140737488351296) :
    Calls Try.prog 20 #[.string s] w fun e w' => e = .returned (.string (lowS s)) ∧ Below w.heap.size w w' := by
  go_enter Try.func20, Try.ntmps20
  go_wp2
  go_loopw [3, 4] (fun v i wr => ∃ (k : Nat) (a : Option Addr) (c : Nat), k ≤ s.size ∧ i = .int .i64 k ∧ v = .slice a k c ∧ Hid (Own wr w.heap.size (.slice a k c) (lowTo s k)) ∧ Hid (Below w.heap.size w wr)) (fun _ i _ => s.size - (intOf i).toNat)
  case atStart => exact ⟨0, _, _, Nat.zero_le _, rfl, rfl, World.ownsRow_lit (size := 1) w #[] 0 (Nat.le_refl _) (by unfold maxLen; omega) rfl, (Below.refl _ _).alloc (Nat.le_refl _) _⟩
  case round =>
    obtain ⟨k, a, c, hk, rfl, rfl, HO, HB⟩ := hrel
    have hlen := lowTo_len s k hk
    by_cases hlt : k < s.size
    · have hby : (s[k].toNat : Int) ≤ 255 := by have := s[k].toNat_lt; omega
      have hsz := HB.out.size
      have HT : Hid (lowTo s (k + 1) = lowTo s k ++ [lowB s[k]]) := lowTo_succ s k hlt
      have hln := lowB_toNat s[k]
      by_cases hb : 65 ≤ s[k].toNat ∧ s[k].toNat ≤ 90
      · have q1 : (65 : Int) ≤ (s[k].toNat : Int) := by omega
        have q2 : (s[k].toNat : Int) ≤ 90 := by omega
        rw [if_pos hb] at hln
        have HC : Hid (#[Value.int .u8 ((s[k].toNat : Int) + 32)] = (bs [lowB s[k]]).toArray) := by
          rw [Hid]
          simp only [bs, List.map_cons, List.map_nil]
          rw [hln]
          simp
        clear hb hln
        go_wp2_with (at_builtin; refine append_lit _ rfl (.tmp 22) (.tmp 27) rfl w.heap.size _ (lowTo s k) rfl [lowB s[k]] _ 1 1 _ rfl rfl HC.out rfl HO.out (by omega) hsz ?_)
        intro v1 w1 ho1 hg1
        have HB1 : Hid (Below w.heap.size w w1) := HB.out.trans (HO.out.toBelow hsz hg1)
        have HO1 : Hid (Own w1 w.heap.size v1 (lowTo s (k + 1))) := by rw [Hid, HT.out]; exact ho1
        obtain ⟨a1, c1, rfl⟩ := HO1.out.shape
        rw [lowTo_len s (k + 1) hlt] at HO1 ⊢
        clear ho1 hg1
        go_wp2
        go_roundw
        case rel => exact ⟨k + 1, a1, c1, by omega, by go_num, rfl, HO1, HB1⟩
        case measure => simp [intOf]; omega
      · rw [if_neg hb] at hln
        have HC : Hid (#[Value.int .u8 (s[k].toNat : Int)] = (bs [lowB s[k]]).toArray) := by
          rw [Hid]
          simp only [bs, List.map_cons, List.map_nil]
          rw [hln]
        clear hln
        by_cases h65 : 65 ≤ s[k].toNat
        · have q1 : (65 : Int) ≤ (s[k].toNat : Int) := by omega
          have q2 : ¬ ((s[k].toNat : Int) ≤ 90) := by omega
          clear hb h65
          go_wp2_with (at_builtin; refine append_lit _ rfl (.tmp 29) (.tmp 33) rfl w.heap.size _ (lowTo s k) rfl [lowB s[k]] _ 1 1 _ rfl rfl HC.out rfl HO.out (by omega) hsz ?_)
          intro v1 w1 ho1 hg1
          have HB1 : Hid (Below w.heap.size w w1) := HB.out.trans (HO.out.toBelow hsz hg1)
          have HO1 : Hid (Own w1 w.heap.size v1 (lowTo s (k + 1))) := by rw [Hid, HT.out]; exact ho1
          obtain ⟨a1, c1, rfl⟩ := HO1.out.shape
          rw [lowTo_len s (k + 1) hlt] at HO1 ⊢
          clear ho1 hg1
          go_wp2
          go_roundw
          case rel => exact ⟨k + 1, a1, c1, by omega, by go_num, rfl, HO1, HB1⟩
          case measure => simp [intOf]; omega
        · have q1 : ¬ ((65 : Int) ≤ (s[k].toNat : Int)) := by omega
          clear hb h65
          go_wp2_with (at_builtin; refine append_lit _ rfl (.tmp 29) (.tmp 33) rfl w.heap.size _ (lowTo s k) rfl [lowB s[k]] _ 1 1 _ rfl rfl HC.out rfl HO.out (by omega) hsz ?_)
          intro v1 w1 ho1 hg1
          have HB1 : Hid (Below w.heap.size w w1) := HB.out.trans (HO.out.toBelow hsz hg1)
          have HO1 : Hid (Own w1 w.heap.size v1 (lowTo s (k + 1))) := by rw [Hid, HT.out]; exact ho1
          obtain ⟨a1, c1, rfl⟩ := HO1.out.shape
          rw [lowTo_len s (k + 1) hlt] at HO1 ⊢
          clear ho1 hg1
          go_wp2
          go_roundw
          case rel => exact ⟨k + 1, a1, c1, by omega, by go_num, rfl, HO1, HB1⟩
          case measure => simp [intOf]; omega
    · obtain rfl : k = s.size := by omega
      have hst := HO.out.string
      rw [lowTo_all] at hst
      go_wp2
      go_ret
      exact ⟨rfl, HB.out⟩
end Go.Proofs.Ytjbnbpclelbohaa
