/- Layer 18 (json): the law JsonDeep. -/
import Derived.Test.YtelhgjepjieocaaDoorJxAlive
import Derived.Test.YtelhgjepjieocaaDoorJxSame
namespace Go.Proofs.YtelhgjepjieocaaDoor
open Go.RowKit Go.MapKept Go.Sort
set_option linter.unusedVariables false

theorem nmB_append (a b : List UInt8) : nmB a ++ nmB b = nmB (a ++ b) := by
  apply ByteArray.ext
  simp [nmB, ByteArray.data_append]
theorem nmB_size (a : List UInt8) : (nmB a).size = a.length := by simp [nmB, ByteArray.size]
/-- The value so far, in its box. -/
structure DpI (w : World) (gv : Nat) (R : List Bool) (cs : Array Value) (T : Nat → Prop) (wr : World) : Prop where
  below : Below w.heap.size w wr
  gb : w.heap.size ≤ gv
  blk : Blk wr gv cs 26
  val : JAt wr T (valN R) cs
  tb : ∀ q, T q → q < wr.heap.size ∧ q ≠ gv
theorem DpI.more {w w1 w2 : World} {gv : Nat} {R : List Bool} {cs : Array Value} {T : Nat → Prop} (h : DpI w gv R cs T w1) (hb : Below w1.heap.size w1 w2) : DpI w gv R cs T w2 :=
  ⟨h.below.trans (hb.mono h.below.size), h.gb, h.blk.below hb, h.val.below hb, fun q hq => ⟨Nat.lt_of_lt_of_le (h.tb q hq).1 hb.size, (h.tb q hq).2⟩⟩
theorem DpI.put {w w1 w2 : World} {gv : Nat} {R R' : List Bool} {cs ds : Array Value} {T T' : Nat → Prop} (h : DpI w gv R cs T w1) (h5 : cs.size = 5) (hb : Below w1.heap.size w1 w2) (hj : JAt w2 T' (valN R') ds) (hd : ds.size = 5) (hT : ∀ q, T' q → w1.heap.size ≤ q ∧ q < w2.heap.size) :
    DpI w gv R' ds T' (putC w2 gv 0 ds.toList) := by
  have hg : gv < w1.heap.size := h.blk.lt
  refine ⟨putC_below _ _ _ (h.below.trans (hb.mono h.below.size)) h.gb, h.gb, ?_, JAt.frm (frm_put w2 gv _) (fun q hq e => by have := (hT q hq).1; omega) _ _ hj, fun q hq => ⟨by rw [putC_size]; exact (hT q hq).2, by have := (hT q hq).1; omega⟩⟩
  have := putC_all (l := ds.toList) (h.blk.below hb) (by rw [Array.length_toList, h5, hd])
  simpa using this
theorem one_at {w : World} {S : Nat → Prop} {nb : Nat} {v : Js} {cs : Array Value} (hb : Blk w nb cs 26) (h5 : cs.size = 5) (hj : JAt w S v cs) : ItAt w S (some ⟨nb, 0, none⟩) 0 [v] := by
  unfold ItAt ItAt
  exact ⟨⟨nb, 0, cs, rfl, h5, fun j u hu => by rw [show 0 + 0 * 5 + j = j by omega]; exact hb.cell j hu, hj⟩, trivial⟩
set_option maxRecDepth 100000 in
set_option maxHeartbeats 8000000 in
theorem jsonDeep_calls (ks : List Bool) (kl kc : Nat) (ka : Option Addr) (w : World) (hkl : ks.length = kl) (hk : VAt w ka (ks.map bV)) (hV : Vs w) :
    Calls Tryd.prog 8 #[.slice ka kl kc] w (fun e w' => e = .returned (.bool true) ∧ Below w.heap.size w w') := by
  have HA := alive_calls w hV
  have HK : Hid (VAt w ka (ks.map bV) ∧ ks.length = kl ∧ Vs w) := ⟨hk, hkl, hV⟩
  clear hk hkl hV
  go_enter Tryd.func8, Tryd.ntmps8
  go_wp2_with fail
  refine HA.mono ?_
  clear HA
  rintro e w1 ⟨rfl, hb1⟩
  have HB1 : Hid (Below w.heap.size w w1) := hb1
  clear hb1
  by_cases hbig : 1000 < kl
  · go_wp2
    go_ret
    exact ⟨rfl, HB1.out⟩
  · go_wp2_with fail
    refine (num_calls 7 _).mono ?_
    rintro e w2 ⟨rfl, hb2⟩
    unfold jC
    obtain ⟨w3, Hw3⟩ : ∃ w3, Hid (w3 = w2.alloc (.cells #[.int .i64 3, .int .i64 7, .string ⟨#[]⟩, .slice none 0 0, .slice none 0 0] 26)) := ⟨_, rfl⟩
    obtain ⟨gv, Hgv⟩ : ∃ gv, Hid (gv = w2.heap.size) := ⟨_, rfl⟩
    have hb3 : Below w2.heap.size w2 w3 := by rw [Hw3.out]; exact below_new _ _
    have h12 : Below w.heap.size w w2 := HB1.out.trans (hb2.mono HB1.out.size)
    have HD : Hid (DpI w gv [] #[.int .i64 3, .int .i64 7, .string ⟨#[]⟩, .slice none 0 0, .slice none 0 0] noB w3) :=
      ⟨h12.trans (hb3.mono h12.size), by rw [Hgv.out]; exact h12.size, by rw [Hw3.out, Hgv.out]; exact Blk.new _ _ _, JAt.plain w3 3 7 [], fun q hq => hq.elim⟩
    clear hb2 hb3 h12 HB1
    go_upto_region 7 with fail
    rw [← Hw3.out, ← Hgv.out]
    clear Hw3 Hgv
    go_wp2
    go_loopw [3, 4, 20] (fun h t i wr => ∃ (k : Nat) (R : List Bool) (cs : Array Value) (T : Nat → Prop), k ≤ kl ∧ i = .int .i64 (k : Int) ∧ R.length = k ∧ h = .string (nmB (hdL R)) ∧ t = .string (nmB (tlD R)) ∧ Hid (DpI w gv R cs T wr)) (fun _ _ i _ => kl - (intOf i).toNat)
    case atStart => exact ⟨0, [], _, _, Nat.zero_le _, rfl, rfl, rfl, rfl, HD⟩
    case round =>
      clear HD
      obtain ⟨k, R, cs, T, hk, rfl, hR, rfl, rfl, HD⟩ := hrel
      obtain ⟨hb, Hhb⟩ : ∃ hb, Hid (hb = nmB (hdL R)) := ⟨_, rfl⟩
      obtain ⟨tb, Htb⟩ : ∃ tb, Hid (tb = nmB (tlD R)) := ⟨_, rfl⟩
      have HR : Hid (R.length = k) := hR
      have hsz1 : hb.size ≤ 5000 := by rw [Hhb.out, nmB_size]; have := hdL_len R; omega
      have hsz2 : tb.size ≤ 5000 := by rw [Htb.out, nmB_size]; have := hdL_len R; omega
      rw [← Hhb.out, ← Htb.out]
      clear hR
      obtain ⟨xk, xn, xt, xa, xl, xc, ya, yl, yc, hcs⟩ := JAt.cs HD.out.val
      subst hcs
      obtain ⟨x0, x1, x2, x3, x4, z0, z1, z2, z3, z4⟩ := Blk.five HD.out.blk
      by_cases hlt : k < kl
      · obtain ⟨b9, off, hka, hc9⟩ := HK.out.1 k (by rw [List.length_map, HK.out.2.1]; exact hlt)
        subst hka
        rw [List.getElem_map] at hc9
        have q0 := cell_frm (Frm.ofBelow HD.out.below noB) hc9 (fun h => h)
        clear hc9
        have hk2 : k < ks.length := by rw [HK.out.2.1]; exact hlt
        obtain ⟨kb, Hkb⟩ : ∃ kb, kb = ks[k] := ⟨_, rfl⟩
        rw [← Hkb] at q0
        clear Hkb hk2
        unfold bV at q0
        cases kb with
        | true =>
          obtain ⟨w5, Hw5⟩ : ∃ w5, Hid (w5 = wr.alloc (.cells #[.int .i64 xk, .int .i64 xn, .string xt, .slice xa xl xc, .slice ya yl yc] 26)) := ⟨_, rfl⟩
          obtain ⟨g5, Hg5⟩ : ∃ g5, Hid (g5 = wr.heap.size) := ⟨_, rfl⟩
          have hb5 : Below wr.heap.size wr w5 := by rw [Hw5.out]; exact below_new _ _
          have hB5 : Blk w5 g5 #[.int .i64 xk, .int .i64 xn, .string xt, .slice xa xl xc, .slice ya yl yc] 26 := by rw [Hw5.out, Hg5.out]; exact Blk.new _ _ _
          have HL := list_calls [valN R] 1 1 (some ⟨g5, 0, none⟩) w5 (fun q => q < w5.heap.size) rfl (by omega) (Fits.of fun x hx => by simp at hx; subst hx; exact fit_deep R) (one_at hB5 rfl (JAt.mono (fun q hq => Nat.lt_of_lt_of_le (HD.out.tb q hq).1 hb5.size) _ _ (HD.out.val.below hb5))) (fun a e _ => by cases e; exact hB5.lt) (fun q hq => hq)
          have HB5 : Hid (Below wr.heap.size wr w5) := hb5
          clear hb5 hB5
          go_wp2_with fail
          rw [← Hw5.out, ← Hg5.out]
          refine HL.mono ?_
          clear HL
          rintro e w6 ⟨hb6, ds, T6, rfl, hj6, hT6⟩
          obtain ⟨zk, zn, zt, za, zl, zc, ua, ul, uc, hds⟩ := JAt.cs hj6
          subst hds
          have hb56 : Below wr.heap.size wr w6 := HB5.out.trans (hb6.mono HB5.out.size)
          have HD6 : Hid (DpI w gv (true :: R) #[.int .i64 zk, .int .i64 zn, .string zt, .slice za zl zc, .slice ua ul uc] T6 (putC w6 gv 0 [.int .i64 zk, .int .i64 zn, .string zt, .slice za zl zc, .slice ua ul uc])) := HD.out.put (R' := true :: R) rfl hb56 hj6 rfl (fun q hq => ⟨Nat.le_trans HB5.out.size (hT6 q hq).1, (hT6 q hq).2⟩)
          clear x0 x1 x2 x3 x4 z0 z1 z2 z3 z4
          obtain ⟨x0, x1, x2, x3, x4, z0, z1, z2, z3, z4⟩ := Blk.five (HD.out.blk.below hb56)
          have HT1 : Hid ((⟨#[91]⟩ : ByteArray) ++ hb = nmB (hdL (true :: R))) := by rw [Hid, Hhb.out]; exact nmB_append [91] (hdL R)
          have HT2 : Hid (tb ++ (⟨#[93]⟩ : ByteArray) = nmB (tlD (true :: R))) := by rw [Hid, Htb.out]; exact nmB_append (tlD R) [93]
          clear hb6 hj6 hT6 hb56 HB5 HD
          go_wp2
          go_roundw
          case rel => exact ⟨k + 1, true :: R, _, _, by omega, by go_num, by rw [List.length_cons, HR.out], congrArg Value.string HT1.out, congrArg Value.string HT2.out, HD6⟩
          case measure => simp [intOf]; omega
        | false =>
          obtain ⟨w4, Hw4⟩ : ∃ w4, Hid (w4 = wr.alloc (.cells #[.string ⟨#[97]⟩] 9)) := ⟨_, rfl⟩
          obtain ⟨g4, Hg4⟩ : ∃ g4, Hid (g4 = wr.heap.size) := ⟨_, rfl⟩
          obtain ⟨w5, Hw5⟩ : ∃ w5, Hid (w5 = w4.alloc (.cells #[.int .i64 xk, .int .i64 xn, .string xt, .slice xa xl xc, .slice ya yl yc] 26)) := ⟨_, rfl⟩
          obtain ⟨g5, Hg5⟩ : ∃ g5, Hid (g5 = wr.heap.size + 1) := ⟨_, rfl⟩
          have hz4 : w4.heap.size = wr.heap.size + 1 := by rw [Hw4.out, World.size_alloc]
          have hb4 : Below wr.heap.size wr w4 := by rw [Hw4.out]; exact below_new _ _
          have hb45 : Below w4.heap.size w4 w5 := by rw [Hw5.out]; exact below_new _ _
          have hb5 : Below wr.heap.size wr w5 := hb4.trans (hb45.mono hb4.size)
          have hB4 : Blk w5 g4 #[.string ⟨#[97]⟩] 9 := Blk.below (by rw [Hw4.out, Hg4.out]; exact Blk.new _ _ _) hb45
          have hB5 : Blk w5 g5 #[.int .i64 xk, .int .i64 xn, .string xt, .slice xa xl xc, .slice ya yl yc] 26 := by rw [Hw5.out, show g5 = w4.heap.size by rw [Hg5.out, hz4]]; exact Blk.new _ _ _
          have HL := object_calls [[97]] [valN R] 1 1 1 1 (some ⟨g4, 0, none⟩) (some ⟨g5, 0, none⟩) w5 (fun q => q < w5.heap.size) rfl rfl (by omega) (by omega) (fun t ht => by simp at ht; subst ht; simp) (Fits.of fun x hx => by simp at hx; subst hx; exact fit_deep R)
            (fun i hi => by
              obtain rfl : i = 0 := by simp at hi; exact hi
              exact ⟨g4, 0, rfl, hB4.cell 0 rfl⟩) (fun a e _ => by cases e; exact hB4.lt) (one_at hB5 rfl (JAt.mono (fun q hq => Nat.lt_of_lt_of_le (HD.out.tb q hq).1 hb5.size) _ _ (HD.out.val.below hb5))) (fun a e _ => by cases e; exact hB5.lt) (fun q hq => hq)
          have HB5 : Hid (Below wr.heap.size wr w5) := hb5
          clear hb5 hB5 hB4 hb4 hb45 hz4
          obtain ⟨v0, v1, v2, v3, v4, -⟩ := Blk.five (HD.out.blk.alloc (.cells #[.string ⟨#[97]⟩] 9))
          go_wp2_with fail
          rw [← Hw4.out, ← Hw5.out, ← Hg5.out, ← Hg4.out]
          refine HL.mono ?_
          clear HL
          rintro e w6 ⟨hb6, ds, T6, rfl, hj6, hT6⟩
          obtain ⟨zk, zn, zt, za, zl, zc, ua, ul, uc, hds⟩ := JAt.cs hj6
          subst hds
          have hb56 : Below wr.heap.size wr w6 := HB5.out.trans (hb6.mono HB5.out.size)
          have HD6 : Hid (DpI w gv (false :: R) #[.int .i64 zk, .int .i64 zn, .string zt, .slice za zl zc, .slice ua ul uc] T6 (putC w6 gv 0 [.int .i64 zk, .int .i64 zn, .string zt, .slice za zl zc, .slice ua ul uc])) := HD.out.put (R' := false :: R) rfl hb56 hj6 rfl (fun q hq => ⟨Nat.le_trans HB5.out.size (hT6 q hq).1, (hT6 q hq).2⟩)
          clear v0 v1 v2 v3 v4
          clear x0 x1 x2 x3 x4 z0 z1 z2 z3 z4
          obtain ⟨x0, x1, x2, x3, x4, z0, z1, z2, z3, z4⟩ := Blk.five (HD.out.blk.below hb56)
          have HT1 : Hid ((⟨#[123, 34, 97, 34, 58]⟩ : ByteArray) ++ hb = nmB (hdL (false :: R))) := by rw [Hid, Hhb.out]; exact nmB_append [123, 34, 97, 34, 58] (hdL R)
          have HT2 : Hid (tb ++ (⟨#[125]⟩ : ByteArray) = nmB (tlD (false :: R))) := by rw [Hid, Htb.out]; exact nmB_append (tlD R) [125]
          clear hb6 hj6 hT6 hb56 HB5 HD
          go_wp2
          go_roundw
          case rel => exact ⟨k + 1, false :: R, _, _, by omega, by go_num, by rw [List.length_cons, HR.out], congrArg Value.string HT1.out, congrArg Value.string HT2.out, HD6⟩
          case measure => simp [intOf]; omega
      · have hRl : R.length = kl := by have := HR.out; omega
        have HE : Hid (hb ++ (⟨#[55]⟩ : ByteArray) ++ tb = nmB (midL R [])) := by
          rw [Hid, Hhb.out, Htb.out, show (⟨#[55]⟩ : ByteArray) = nmB [55] from rfl, nmB_append, nmB_append]
          unfold midL
          simp
        have hlen : (midL R []).length ≤ 6001 := by
          have := hdL_len R
          unfold midL
          simp
          omega
        have HV : Hid (Vs wr ∧ R.length = kl ∧ kl ≤ 1000) := ⟨HK.out.2.2.stay HD.out.below, hRl, by omega⟩
        have HP : Calls Tryd.prog 11 #[.string (hb ++ (⟨#[55]⟩ : ByteArray) ++ tb)] wr (PrR wr (if R.length ≤ 16 then .ok (valN R) else .error 182)) := by
          rw [HE.out, ← parseJ_deep R (by omega)]
          exact parseJ_calls _ wr (by rw [nmB_size]; omega) HV.out.1
        clear hlen HR Hhb Htb x0 x1 x2 x3 x4 z0 z1 z2 z3 z4
        by_cases h16 : kl ≤ 16
        · rw [if_pos (by omega)] at HP
          clear hRl
          go_wp2_with fail
          refine HP.mono ?_
          clear HP
          rintro e w5 ⟨hb5, ds, S, rfl, hjd, hS⟩
          obtain ⟨zk, zn, zt, za, zl, zc, ua, ul, uc, hds⟩ := JAt.cs hjd
          subst hds
          obtain ⟨w6, Hw6⟩ : ∃ w6, Hid (w6 = w5.alloc (.cells #[.int .i64 zk, .int .i64 zn, .string zt, .slice za zl zc, .slice ua ul uc] 26)) := ⟨_, rfl⟩
          obtain ⟨g6, Hg6⟩ : ∃ g6, Hid (g6 = w5.heap.size) := ⟨_, rfl⟩
          have hb6 : Below w5.heap.size w5 w6 := by rw [Hw6.out]; exact below_new _ _
          have hb56 : Below wr.heap.size wr w6 := hb5.trans (hb6.mono hb5.size)
          have HD6 : Hid (DpI w gv R #[.int .i64 xk, .int .i64 xn, .string xt, .slice xa xl xc, .slice ya yl yc] T w6) := HD.out.more hb56
          have HB6 : Hid (Blk w6 g6 #[.int .i64 zk, .int .i64 zn, .string zt, .slice za zl zc, .slice ua ul uc] 26 ∧ JAt w6 S (valN R) #[.int .i64 zk, .int .i64 zn, .string zt, .slice za zl zc, .slice ua ul uc] ∧ Vs w6) := ⟨by rw [Hw6.out, Hg6.out]; exact Blk.new _ _ _, hjd.below hb6, HV.out.1.stay hb56⟩
          clear hb5 hb6 hb56 hjd hS HD
          go_upto_region 19 with fail
          rw [← Hw6.out, ← Hg6.out]
          clear Hw6 Hg6
          obtain ⟨x0, x1, x2, x3, x4, -⟩ := Blk.five HD6.out.blk
          have HPr : Calls Tryd.prog 15 #[.agg #[.int .i64 xk, .int .i64 xn, .string xt, .slice xa xl xc, .slice ya yl yc]] w6 (fun e w' => e = .returned (.tuple #[.string (hb ++ (⟨#[55]⟩ : ByteArray) ++ tb), .int .i64 0]) ∧ Below w6.heap.size w6 w') := by
            have h := print_calls (valN R) w6 T _ (rng_deep R) HD6.out.val (fun q hq => (HD6.out.tb q hq).1) HB6.out.2.2
            have h2 := (printJ_deep R (by have := HV.out; omega)).1 (by have := HV.out; omega)
            rw [h2.1, h2.2, show (⟨(midL R []).toArray⟩ : ByteArray) = nmB (midL R []) from rfl, ← HE.out] at h
            exact h
          go_wp2_with fail
          refine HPr.mono ?_
          clear HPr
          rintro e w7 ⟨rfl, hb7⟩
          have HD7 : Hid (DpI w gv R #[.int .i64 xk, .int .i64 xn, .string xt, .slice xa xl xc, .slice ya yl yc] T w7) := HD6.out.more hb7
          have HB7 : Hid (Blk w7 g6 #[.int .i64 zk, .int .i64 zn, .string zt, .slice za zl zc, .slice ua ul uc] 26) := HB6.out.1.below hb7
          have HS := specM (valN R) w7 T S _ _ (rng_deep R) HD7.out.val (HB6.out.2.1.below hb7)
          clear hb7 HD6 HB6 x0 x1 x2 x3 x4
          obtain ⟨x0, x1, x2, x3, x4, -⟩ := Blk.five HD7.out.blk
          obtain ⟨y0, y1, y2, y3, y4, -⟩ := Blk.five HB7.out
          go_wp2_with fail
          refine HS.mono ?_
          clear HS
          rintro e w8 ⟨rfl, hb8⟩
          have HD8 : Hid (DpI w gv R #[.int .i64 xk, .int .i64 xn, .string xt, .slice xa xl xc, .slice ya yl yc] T w8) := HD7.out.more hb8
          clear hb8 HD7 HB7 x0 x1 x2 x3 x4 y0 y1 y2 y3 y4
          go_wp2
          go_ret
          exact ⟨by simp, HD8.out.below⟩
        · rw [if_neg (by omega)] at HP
          clear hRl
          go_wp2_with fail
          refine HP.mono ?_
          clear HP
          rintro e w5 ⟨hb5, rfl, -⟩
          unfold jZ jC
          obtain ⟨w6, Hw6⟩ : ∃ w6, Hid (w6 = w5.alloc (.cells #[.int .i64 0, .int .i64 0, .string ⟨#[]⟩, .slice none 0 0, .slice none 0 0] 26)) := ⟨_, rfl⟩
          have hb6 : Below w5.heap.size w5 w6 := by rw [Hw6.out]; exact below_new _ _
          have hb56 : Below wr.heap.size wr w6 := hb5.trans (hb6.mono hb5.size)
          have HD6 : Hid (DpI w gv R #[.int .i64 xk, .int .i64 xn, .string xt, .slice xa xl xc, .slice ya yl yc] T w6 ∧ Vs w6) := ⟨HD.out.more hb56, HV.out.1.stay hb56⟩
          clear hb5 hb6 hb56 HD
          go_upto_region 19 with fail
          rw [← Hw6.out]
          clear Hw6
          obtain ⟨x0, x1, x2, x3, x4, -⟩ := Blk.five HD6.out.1.blk
          have HPr : Calls Tryd.prog 15 #[.agg #[.int .i64 xk, .int .i64 xn, .string xt, .slice xa xl xc, .slice ya yl yc]] w6 (fun e w' => e = .returned (.tuple #[.string ⟨#[]⟩, .int .i64 184]) ∧ Below w6.heap.size w6 w') := by
            have h := print_calls (valN R) w6 T _ (rng_deep R) HD6.out.1.val (fun q hq => (HD6.out.1.tb q hq).1) HD6.out.2
            have h2 := (printJ_deep R (by have := HV.out; omega)).2 (by have := HV.out; omega)
            rw [h2.1, h2.2] at h
            exact h
          go_wp2_with fail
          refine HPr.mono ?_
          clear HPr
          rintro e w7 ⟨rfl, hb7⟩
          have HD7 : Hid (DpI w gv R #[.int .i64 xk, .int .i64 xn, .string xt, .slice xa xl xc, .slice ya yl yc] T w7) := HD6.out.1.more hb7
          clear hb7 HD6 x0 x1 x2 x3 x4
          go_wp2
          go_ret
          exact ⟨rfl, HD7.out.below⟩
end Go.Proofs.YtelhgjepjieocaaDoor
