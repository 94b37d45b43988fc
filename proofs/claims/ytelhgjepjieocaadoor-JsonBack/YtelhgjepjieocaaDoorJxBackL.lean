/- Layer 18 (json): the law JsonBack. -/
import Derived.Test.YtelhgjepjieocaaDoorJxAlive
namespace Go.Proofs.YtelhgjepjieocaaDoor
open Go.RowKit Go.MapKept Go.Sort
set_option linter.unusedVariables false

set_option maxRecDepth 100000 in
set_option maxHeartbeats 8000000 in
theorem jsonBack_calls (v : Js) (s : ByteArray) (w : World) (cs : Array Value) (hr : Rng v) (hs : s.size ≤ 140737488351232) (hj : JAt w (fun k => k < w.heap.size) v cs) (hv : Vs w) :
    Calls Tryd.prog 5 #[.agg cs, .string s] w (fun e w' => e = .returned (.bool true) ∧ Below w.heap.size w w') := by
  obtain ⟨xk, xn, xt, xa, xl, xc, ya, yl, yc, hcs⟩ := JAt.cs hj
  subst hcs
  obtain ⟨S, HS0⟩ : ∃ S : Nat → Prop, Hid (S = fun k => k < w.heap.size) := ⟨_, rfl⟩
  rw [← HS0.out] at hj
  obtain ⟨w1, Hw1⟩ : ∃ w1, Hid (w1 = w.alloc (.cells #[.int .i64 xk, .int .i64 xn, .string xt, .slice xa xl xc, .slice ya yl yc] 26)) := ⟨_, rfl⟩
  obtain ⟨g, Hg⟩ : ∃ g, Hid (g = w.heap.size) := ⟨_, rfl⟩
  have HF1 : Hid (Below w.heap.size w w1) := by rw [Hid, Hw1.out]; exact below_new _ _
  have HB1 : Hid (Blk w1 g #[.int .i64 xk, .int .i64 xn, .string xt, .slice xa xl xc, .slice ya yl yc] 26) := by rw [Hid, Hw1.out, Hg.out]; exact Blk.new _ _ _
  have HJ : Hid (JAt w1 S v #[.int .i64 xk, .int .i64 xn, .string xt, .slice xa xl xc, .slice ya yl yc]) := hj.below HF1.out
  have HV : Hid (Vs w) := hv
  have HSZ : Hid (s.size ≤ 140737488351232) := hs
  have HR : Hid (Rng v ∧ ∀ k, S k → k < w.heap.size) := ⟨hr, fun k hk => by rw [HS0.out] at hk; exact hk⟩
  have HA := alive_calls w1 (hv.stay HF1.out)
  have HTW : Hid ((bytesOfN (printJ v).1 = pv v ∧ (printJ v).2 = 0 ∧ parseJ (nmB (pv v)) = .ok v ∧ (pv v).length ≤ 65536) ∨ (printJ v).2 ≠ 0) := printJ_two v hr
  clear hr hj hv HS0
  go_enter Tryd.func5, Tryd.ntmps5
  go_upto_region 1 with fail
  rw [← Hw1.out, ← Hg.out]
  clear Hw1 Hg
  go_wp2_with fail
  refine HA.mono ?_
  clear HA
  rintro e w2 ⟨rfl, hb2⟩
  have H2 : Hid (Below w.heap.size w w2 ∧ Blk w2 g #[.int .i64 xk, .int .i64 xn, .string xt, .slice xa xl xc, .slice ya yl yc] 26 ∧ JAt w2 S v #[.int .i64 xk, .int .i64 xn, .string xt, .slice xa xl xc, .slice ya yl yc]) := ⟨HF1.out.trans (hb2.mono HF1.out.size), HB1.out.below hb2, HJ.out.below hb2⟩
  clear hb2 HF1 HB1 HJ
  obtain ⟨x0, x1, x2, x3, x4, -⟩ := Blk.five H2.out.2.1
  have HN := specN v 5000 w2 S _ (by omega) (by omega) HR.out.1 H2.out.2.2
  go_wp2_with fail
  refine HN.mono ?_
  clear HN x0 x1 x2 x3 x4
  rintro e w3 ⟨⟨r, rfl, hr⟩, hb3⟩
  have H3 : Hid (Below w.heap.size w w3 ∧ Blk w3 g #[.int .i64 xk, .int .i64 xn, .string xt, .slice xa xl xc, .slice ya yl yc] 26 ∧ JAt w3 S v #[.int .i64 xk, .int .i64 xn, .string xt, .slice xa xl xc, .slice ya yl yc]) := ⟨H2.out.1.trans (hb3.mono H2.out.1.size), H2.out.2.1.below hb3, H2.out.2.2.below hb3⟩
  clear hb3 H2
  by_cases h5 : 5000 ≤ r
  · go_wp2
    go_ret
    exact ⟨rfl, H3.out.1⟩
  · obtain ⟨x0, x1, x2, x3, x4, -⟩ := Blk.five H3.out.2.1
    have HP := print_calls v w3 S _ HR.out.1 H3.out.2.2 (fun k hk => Nat.lt_of_lt_of_le (HR.out.2 k hk) H3.out.1.size) (HV.out.stay H3.out.1)
    rcases HTW.out with ⟨t1, t2, t3, t4⟩ | t2
    · obtain ⟨qb, Hqb⟩ : ∃ qb, Hid (qb = nmB (pv v)) := ⟨_, rfl⟩
      rw [t1, t2, show (⟨(pv v).toArray⟩ : ByteArray) = qb from Hqb.out.symm] at HP
      have HQZ : Hid (qb.size ≤ 65536 ∧ parseJ qb = .ok v) := ⟨by rw [Hqb.out, nmB_len]; exact t4, by rw [Hqb.out]; exact t3⟩
      clear t1 t2 t3 t4 HTW Hqb hs
      go_wp2_with fail
      refine HP.mono ?_
      clear HP x0 x1 x2 x3 x4
      rintro e w4 ⟨rfl, hb4⟩
      have H4 : Hid (Below w.heap.size w w4 ∧ Blk w4 g #[.int .i64 xk, .int .i64 xn, .string xt, .slice xa xl xc, .slice ya yl yc] 26 ∧ JAt w4 S v #[.int .i64 xk, .int .i64 xn, .string xt, .slice xa xl xc, .slice ya yl yc]) := ⟨H3.out.1.trans (hb4.mono H3.out.1.size), H3.out.2.1.below hb4, H3.out.2.2.below hb4⟩
      clear hb4 H3
      have HPa := parseJ_calls qb w4 (by have := HQZ.out.1; omega) (HV.out.stay H4.out.1)
      rw [HQZ.out.2] at HPa
      go_wp2_with fail
      refine HPa.mono ?_
      clear HPa
      rintro e w5 ⟨hb5, ds, T, rfl, hj5, hT5⟩
      obtain ⟨zk, zn, zt, za, zl, zc, ta, tl, tc, hds⟩ := JAt.cs hj5
      subst hds
      obtain ⟨w6, Hw6⟩ : ∃ w6, Hid (w6 = w5.alloc (.cells #[.int .i64 zk, .int .i64 zn, .string zt, .slice za zl zc, .slice ta tl tc] 26)) := ⟨_, rfl⟩
      obtain ⟨g7, Hg7⟩ : ∃ g7, Hid (g7 = w5.heap.size) := ⟨_, rfl⟩
      have hb6 : Below w5.heap.size w5 w6 := by rw [Hw6.out]; exact below_new _ _
      have hb56 : Below w4.heap.size w4 w6 := hb5.trans (hb6.mono hb5.size)
      have H6 : Hid (Below w.heap.size w w6 ∧ Blk w6 g #[.int .i64 xk, .int .i64 xn, .string xt, .slice xa xl xc, .slice ya yl yc] 26 ∧ Blk w6 g7 #[.int .i64 zk, .int .i64 zn, .string zt, .slice za zl zc, .slice ta tl tc] 26) := ⟨H4.out.1.trans (hb56.mono H4.out.1.size), H4.out.2.1.below hb56, by rw [Hw6.out, Hg7.out]; exact Blk.new _ _ _⟩
      have HS := specM v w6 S T _ _ HR.out.1 (H4.out.2.2.below hb56) (hj5.below hb6)
      clear hb5 hb6 hb56 hj5 hT5 H4
      go_upto_region 8 with fail
      rw [← Hw6.out, ← Hg7.out]
      clear Hw6 Hg7
      obtain ⟨x0, x1, x2, x3, x4, -⟩ := Blk.five H6.out.2.1
      obtain ⟨y0, y1, y2, y3, y4, -⟩ := Blk.five H6.out.2.2
      go_wp2_with fail
      refine HS.mono ?_
      clear HS
      rintro e w7 ⟨rfl, hb7⟩
      have H7 : Hid (Below w.heap.size w w7) := H6.out.1.trans (hb7.mono H6.out.1.size)
      clear hb7 H6 x0 x1 x2 x3 x4 y0 y1 y2 y3 y4
      have HPs := parseJ_calls s w7 HSZ.out (HV.out.stay H7.out)
      cases hps : parseJ s with
      | error c =>
        rw [hps] at HPs
        clear hps
        go_wp2_with fail
        refine HPs.mono ?_
        clear HPs
        rintro e p5 ⟨hb5, rfl, hcc⟩
        have hc0 : c ≠ 0 := by omega
        clear hcc
        unfold jZ jC
        obtain ⟨p6, Hp6⟩ : ∃ p6, Hid (p6 = p5.alloc (.cells #[.int .i64 0, .int .i64 0, .string ⟨#[]⟩, .slice none 0 0, .slice none 0 0] 26)) := ⟨_, rfl⟩
        obtain ⟨g9, Hg9⟩ : ∃ g9, Hid (g9 = p5.heap.size) := ⟨_, rfl⟩
        have hb6 : Below p5.heap.size p5 p6 := by rw [Hp6.out]; exact below_new _ _
        have HE : Hid (Below w.heap.size w p6) := H7.out.trans ((hb5.trans (hb6.mono hb5.size)).mono H7.out.size)
        have hB6 : Blk p6 g9 #[.int .i64 0, .int .i64 0, .string ⟨#[]⟩, .slice none 0 0, .slice none 0 0] 26 := by rw [Hp6.out, Hg9.out]; exact Blk.new _ _ _
        clear hb5 hb6 H7
        go_upto_region 11 with fail
        rw [← Hp6.out, ← Hg9.out]
        clear Hp6 Hg9
        obtain ⟨y0, y1, y2, y3, y4, -⟩ := Blk.five hB6
        clear hB6
        go_wp2
        go_ret
        exact ⟨rfl, HE.out⟩
      | ok u =>
        rw [hps] at HPs
        obtain ⟨hsnd, hlen, hle⟩ := parseJ_snd hps
        have hru := parseJ_rng hps
        clear hps
        have hpr := printJ_of hsnd (by omega)
        have hback := parseJ_back u hsnd hru (by omega)
        obtain ⟨pb, Hpb⟩ : ∃ pb, Hid (pb = nmB (pv u)) := ⟨_, rfl⟩
        have hpz : pb.size ≤ s.size := by rw [Hpb.out, nmB_len]; exact hlen
        have hpz2 : pb.size ≤ 65536 := by omega
        have HU : Hid (Rng u) := hru
        rw [← Hpb.out] at hback
        have HPB : Hid (parseJ pb = .ok u) := hback
        have HPP : Hid ((⟨(bytesOfN (printJ u).1).toArray⟩ : ByteArray) = pb ∧ (printJ u).2 = 0) := ⟨by rw [hpr.1, Hpb.out]; rfl, hpr.2⟩
        clear hsnd hlen hle hru hpr hback Hpb
        go_wp2_with fail
        refine HPs.mono ?_
        clear HPs
        rintro e p5 ⟨hb5, ds, T, rfl, hj5, hT5⟩
        obtain ⟨zk, zn, zt, za, zl, zc, ta, tl, tc, hds⟩ := JAt.cs hj5
        subst hds
        obtain ⟨p6, Hp6⟩ : ∃ p6, Hid (p6 = p5.alloc (.cells #[.int .i64 zk, .int .i64 zn, .string zt, .slice za zl zc, .slice ta tl tc] 26)) := ⟨_, rfl⟩
        obtain ⟨g9, Hg9⟩ : ∃ g9, Hid (g9 = p5.heap.size) := ⟨_, rfl⟩
        have hb6 : Below p5.heap.size p5 p6 := by rw [Hp6.out]; exact below_new _ _
        have HE6 : Hid (Below w.heap.size w p6) := H7.out.trans ((hb5.trans (hb6.mono hb5.size)).mono H7.out.size)
        have HJ6 : Hid (Blk p6 g9 #[.int .i64 zk, .int .i64 zn, .string zt, .slice za zl zc, .slice ta tl tc] 26 ∧ JAt p6 T u #[.int .i64 zk, .int .i64 zn, .string zt, .slice za zl zc, .slice ta tl tc] ∧ ∀ q, T q → q < p6.heap.size) := ⟨by rw [Hp6.out, Hg9.out]; exact Blk.new _ _ _, hj5.below hb6, fun q hq => Nat.lt_of_lt_of_le (hT5 q hq).2 hb6.size⟩
        clear hb5 hb6 hj5 hT5 H7
        go_upto_region 11 with fail
        rw [← Hp6.out, ← Hg9.out]
        clear Hp6 Hg9
        obtain ⟨y0, y1, y2, y3, y4, -⟩ := Blk.five HJ6.out.1
        have HPr := print_calls u p6 T _ HU.out HJ6.out.2.1 HJ6.out.2.2 (HV.out.stay HE6.out)
        rw [HPP.out.1, HPP.out.2] at HPr
        go_wp2_with fail
        refine HPr.mono ?_
        clear HPr
        rintro e p7 ⟨rfl, hb7⟩
        have HE7 : Hid (Below w.heap.size w p7) := HE6.out.trans (hb7.mono HE6.out.size)
        have HJ7 : Hid (Blk p7 g9 #[.int .i64 zk, .int .i64 zn, .string zt, .slice za zl zc, .slice ta tl tc] 26 ∧ JAt p7 T u #[.int .i64 zk, .int .i64 zn, .string zt, .slice za zl zc, .slice ta tl tc]) := ⟨HJ6.out.1.below hb7, HJ6.out.2.1.below hb7⟩
        clear hb7 HE6 HJ6 y0 y1 y2 y3 y4
        have HPa := parseJ_calls pb p7 (by omega) (HV.out.stay HE7.out)
        rw [HPB.out] at HPa
        go_wp2_with fail
        refine HPa.mono ?_
        clear HPa
        rintro e p8 ⟨hb8, es, U, rfl, hj8, hU8⟩
        obtain ⟨rk, rn, rt, ra, rl, rc, sa, sl, sc, hes⟩ := JAt.cs hj8
        subst hes
        obtain ⟨p9, Hp9⟩ : ∃ p9, Hid (p9 = p8.alloc (.cells #[.int .i64 rk, .int .i64 rn, .string rt, .slice ra rl rc, .slice sa sl sc] 26)) := ⟨_, rfl⟩
        obtain ⟨ga, Hga⟩ : ∃ ga, Hid (ga = p8.heap.size) := ⟨_, rfl⟩
        have hb9 : Below p8.heap.size p8 p9 := by rw [Hp9.out]; exact below_new _ _
        have hb89 : Below p7.heap.size p7 p9 := hb8.trans (hb9.mono hb8.size)
        have HE9 : Hid (Below w.heap.size w p9) := HE7.out.trans (hb89.mono HE7.out.size)
        have HJ9 : Hid (Blk p9 g9 #[.int .i64 zk, .int .i64 zn, .string zt, .slice za zl zc, .slice ta tl tc] 26 ∧ JAt p9 T u #[.int .i64 zk, .int .i64 zn, .string zt, .slice za zl zc, .slice ta tl tc]) := ⟨HJ7.out.1.below hb89, HJ7.out.2.below hb89⟩
        have HK9 : Hid (Blk p9 ga #[.int .i64 rk, .int .i64 rn, .string rt, .slice ra rl rc, .slice sa sl sc] 26 ∧ JAt p9 U u #[.int .i64 rk, .int .i64 rn, .string rt, .slice ra rl rc, .slice sa sl sc] ∧ ∀ q, U q → q < p9.heap.size) := ⟨by rw [Hp9.out, Hga.out]; exact Blk.new _ _ _, hj8.below hb9, fun q hq => Nat.lt_of_lt_of_le (hU8 q hq).2 hb9.size⟩
        clear hb8 hb9 hb89 hj8 hU8 HE7 HJ7
        go_upto_region 17 with fail
        rw [← Hp9.out, ← Hga.out]
        clear Hp9 Hga
        obtain ⟨y0, y1, y2, y3, y4, -⟩ := Blk.five HK9.out.1
        have HPr := print_calls u p9 U _ HU.out HK9.out.2.1 HK9.out.2.2 (HV.out.stay HE9.out)
        rw [HPP.out.1, HPP.out.2] at HPr
        go_wp2_with fail
        refine HPr.mono ?_
        clear HPr
        rintro e pa ⟨rfl, hba⟩
        have HEa : Hid (Below w.heap.size w pa) := HE9.out.trans (hba.mono HE9.out.size)
        have HBa : Hid (Blk pa g9 #[.int .i64 zk, .int .i64 zn, .string zt, .slice za zl zc, .slice ta tl tc] 26 ∧ Blk pa ga #[.int .i64 rk, .int .i64 rn, .string rt, .slice ra rl rc, .slice sa sl sc] 26) := ⟨HJ9.out.1.below hba, HK9.out.1.below hba⟩
        have HS := specM u pa U T _ _ HU.out (HK9.out.2.1.below hba) (HJ9.out.2.below hba)
        clear hba HE9 HJ9 HK9 y0 y1 y2 y3 y4
        obtain ⟨y0, y1, y2, y3, y4, -⟩ := Blk.five HBa.out.1
        obtain ⟨z0, z1, z2, z3, z4, -⟩ := Blk.five HBa.out.2
        go_wp2_with fail
        refine HS.mono ?_
        clear HS
        rintro e pz ⟨rfl, hbz⟩
        have HEz : Hid (Below w.heap.size w pz) := HEa.out.trans (hbz.mono HEa.out.size)
        clear hbz HEa HBa y0 y1 y2 y3 y4 z0 z1 z2 z3 z4
        go_wp2
        go_ret
        exact ⟨by simp, HEz.out⟩
    · obtain ⟨qs, qc, hqq⟩ : ∃ (qs : ByteArray) (qc : Int), qs = ⟨(bytesOfN (printJ v).1).toArray⟩ ∧ qc = (printJ v).2 := ⟨_, _, rfl, rfl⟩
      rw [← hqq.1, ← hqq.2] at HP
      have hqc : qc ≠ 0 := by rw [hqq.2]; exact t2
      clear hqq t2 HTW hs
      go_wp2_with fail
      refine HP.mono ?_
      clear HP x0 x1 x2 x3 x4
      rintro e w4 ⟨rfl, hb4⟩
      have H4 : Hid (Below w.heap.size w w4) := H3.out.1.trans (hb4.mono H3.out.1.size)
      clear hb4 H3
      have HPs := parseJ_calls s w4 HSZ.out (HV.out.stay H4.out)
      cases hps : parseJ s with
      | error c =>
        rw [hps] at HPs
        clear hps
        go_wp2_with fail
        refine HPs.mono ?_
        clear HPs
        rintro e p5 ⟨hb5, rfl, hcc⟩
        have hc0 : c ≠ 0 := by omega
        clear hcc
        unfold jZ jC
        obtain ⟨p6, Hp6⟩ : ∃ p6, Hid (p6 = p5.alloc (.cells #[.int .i64 0, .int .i64 0, .string ⟨#[]⟩, .slice none 0 0, .slice none 0 0] 26)) := ⟨_, rfl⟩
        obtain ⟨g9, Hg9⟩ : ∃ g9, Hid (g9 = p5.heap.size) := ⟨_, rfl⟩
        have hb6 : Below p5.heap.size p5 p6 := by rw [Hp6.out]; exact below_new _ _
        have HE : Hid (Below w.heap.size w p6) := H4.out.trans ((hb5.trans (hb6.mono hb5.size)).mono H4.out.size)
        have hB6 : Blk p6 g9 #[.int .i64 0, .int .i64 0, .string ⟨#[]⟩, .slice none 0 0, .slice none 0 0] 26 := by rw [Hp6.out, Hg9.out]; exact Blk.new _ _ _
        clear hb5 hb6 H4
        go_upto_region 11 with fail
        rw [← Hp6.out, ← Hg9.out]
        clear Hp6 Hg9
        obtain ⟨y0, y1, y2, y3, y4, -⟩ := Blk.five hB6
        clear hB6
        go_wp2
        go_ret
        exact ⟨rfl, HE.out⟩
      | ok u =>
        rw [hps] at HPs
        obtain ⟨hsnd, hlen, hle⟩ := parseJ_snd hps
        have hru := parseJ_rng hps
        clear hps
        have hpr := printJ_of hsnd (by omega)
        have hback := parseJ_back u hsnd hru (by omega)
        obtain ⟨pb, Hpb⟩ : ∃ pb, Hid (pb = nmB (pv u)) := ⟨_, rfl⟩
        have hpz : pb.size ≤ s.size := by rw [Hpb.out, nmB_len]; exact hlen
        have hpz2 : pb.size ≤ 65536 := by omega
        have HU : Hid (Rng u) := hru
        rw [← Hpb.out] at hback
        have HPB : Hid (parseJ pb = .ok u) := hback
        have HPP : Hid ((⟨(bytesOfN (printJ u).1).toArray⟩ : ByteArray) = pb ∧ (printJ u).2 = 0) := ⟨by rw [hpr.1, Hpb.out]; rfl, hpr.2⟩
        clear hsnd hlen hle hru hpr hback Hpb
        go_wp2_with fail
        refine HPs.mono ?_
        clear HPs
        rintro e p5 ⟨hb5, ds, T, rfl, hj5, hT5⟩
        obtain ⟨zk, zn, zt, za, zl, zc, ta, tl, tc, hds⟩ := JAt.cs hj5
        subst hds
        obtain ⟨p6, Hp6⟩ : ∃ p6, Hid (p6 = p5.alloc (.cells #[.int .i64 zk, .int .i64 zn, .string zt, .slice za zl zc, .slice ta tl tc] 26)) := ⟨_, rfl⟩
        obtain ⟨g9, Hg9⟩ : ∃ g9, Hid (g9 = p5.heap.size) := ⟨_, rfl⟩
        have hb6 : Below p5.heap.size p5 p6 := by rw [Hp6.out]; exact below_new _ _
        have HE6 : Hid (Below w.heap.size w p6) := H4.out.trans ((hb5.trans (hb6.mono hb5.size)).mono H4.out.size)
        have HJ6 : Hid (Blk p6 g9 #[.int .i64 zk, .int .i64 zn, .string zt, .slice za zl zc, .slice ta tl tc] 26 ∧ JAt p6 T u #[.int .i64 zk, .int .i64 zn, .string zt, .slice za zl zc, .slice ta tl tc] ∧ ∀ q, T q → q < p6.heap.size) := ⟨by rw [Hp6.out, Hg9.out]; exact Blk.new _ _ _, hj5.below hb6, fun q hq => Nat.lt_of_lt_of_le (hT5 q hq).2 hb6.size⟩
        clear hb5 hb6 hj5 hT5 H4
        go_upto_region 11 with fail
        rw [← Hp6.out, ← Hg9.out]
        clear Hp6 Hg9
        obtain ⟨y0, y1, y2, y3, y4, -⟩ := Blk.five HJ6.out.1
        have HPr := print_calls u p6 T _ HU.out HJ6.out.2.1 HJ6.out.2.2 (HV.out.stay HE6.out)
        rw [HPP.out.1, HPP.out.2] at HPr
        go_wp2_with fail
        refine HPr.mono ?_
        clear HPr
        rintro e p7 ⟨rfl, hb7⟩
        have HE7 : Hid (Below w.heap.size w p7) := HE6.out.trans (hb7.mono HE6.out.size)
        have HJ7 : Hid (Blk p7 g9 #[.int .i64 zk, .int .i64 zn, .string zt, .slice za zl zc, .slice ta tl tc] 26 ∧ JAt p7 T u #[.int .i64 zk, .int .i64 zn, .string zt, .slice za zl zc, .slice ta tl tc]) := ⟨HJ6.out.1.below hb7, HJ6.out.2.1.below hb7⟩
        clear hb7 HE6 HJ6 y0 y1 y2 y3 y4
        have HPa := parseJ_calls pb p7 (by omega) (HV.out.stay HE7.out)
        rw [HPB.out] at HPa
        go_wp2_with fail
        refine HPa.mono ?_
        clear HPa
        rintro e p8 ⟨hb8, es, U, rfl, hj8, hU8⟩
        obtain ⟨rk, rn, rt, ra, rl, rc, sa, sl, sc, hes⟩ := JAt.cs hj8
        subst hes
        obtain ⟨p9, Hp9⟩ : ∃ p9, Hid (p9 = p8.alloc (.cells #[.int .i64 rk, .int .i64 rn, .string rt, .slice ra rl rc, .slice sa sl sc] 26)) := ⟨_, rfl⟩
        obtain ⟨ga, Hga⟩ : ∃ ga, Hid (ga = p8.heap.size) := ⟨_, rfl⟩
        have hb9 : Below p8.heap.size p8 p9 := by rw [Hp9.out]; exact below_new _ _
        have hb89 : Below p7.heap.size p7 p9 := hb8.trans (hb9.mono hb8.size)
        have HE9 : Hid (Below w.heap.size w p9) := HE7.out.trans (hb89.mono HE7.out.size)
        have HJ9 : Hid (Blk p9 g9 #[.int .i64 zk, .int .i64 zn, .string zt, .slice za zl zc, .slice ta tl tc] 26 ∧ JAt p9 T u #[.int .i64 zk, .int .i64 zn, .string zt, .slice za zl zc, .slice ta tl tc]) := ⟨HJ7.out.1.below hb89, HJ7.out.2.below hb89⟩
        have HK9 : Hid (Blk p9 ga #[.int .i64 rk, .int .i64 rn, .string rt, .slice ra rl rc, .slice sa sl sc] 26 ∧ JAt p9 U u #[.int .i64 rk, .int .i64 rn, .string rt, .slice ra rl rc, .slice sa sl sc] ∧ ∀ q, U q → q < p9.heap.size) := ⟨by rw [Hp9.out, Hga.out]; exact Blk.new _ _ _, hj8.below hb9, fun q hq => Nat.lt_of_lt_of_le (hU8 q hq).2 hb9.size⟩
        clear hb8 hb9 hb89 hj8 hU8 HE7 HJ7
        go_upto_region 17 with fail
        rw [← Hp9.out, ← Hga.out]
        clear Hp9 Hga
        obtain ⟨y0, y1, y2, y3, y4, -⟩ := Blk.five HK9.out.1
        have HPr := print_calls u p9 U _ HU.out HK9.out.2.1 HK9.out.2.2 (HV.out.stay HE9.out)
        rw [HPP.out.1, HPP.out.2] at HPr
        go_wp2_with fail
        refine HPr.mono ?_
        clear HPr
        rintro e pa ⟨rfl, hba⟩
        have HEa : Hid (Below w.heap.size w pa) := HE9.out.trans (hba.mono HE9.out.size)
        have HBa : Hid (Blk pa g9 #[.int .i64 zk, .int .i64 zn, .string zt, .slice za zl zc, .slice ta tl tc] 26 ∧ Blk pa ga #[.int .i64 rk, .int .i64 rn, .string rt, .slice ra rl rc, .slice sa sl sc] 26) := ⟨HJ9.out.1.below hba, HK9.out.1.below hba⟩
        have HS := specM u pa U T _ _ HU.out (HK9.out.2.1.below hba) (HJ9.out.2.below hba)
        clear hba HE9 HJ9 HK9 y0 y1 y2 y3 y4
        obtain ⟨y0, y1, y2, y3, y4, -⟩ := Blk.five HBa.out.1
        obtain ⟨z0, z1, z2, z3, z4, -⟩ := Blk.five HBa.out.2
        go_wp2_with fail
        refine HS.mono ?_
        clear HS
        rintro e pz ⟨rfl, hbz⟩
        have HEz : Hid (Below w.heap.size w pz) := HEa.out.trans (hbz.mono HEa.out.size)
        clear hbz HEa HBa y0 y1 y2 y3 y4 z0 z1 z2 z3 z4
        go_wp2
        go_ret
        exact ⟨by simp, HEz.out⟩
end Go.Proofs.YtelhgjepjieocaaDoor
