import Derived.Test.YtelhgjepjieocaaDoorJxUnlike
import Derived.Lib.QuietBelow
import Derived.Deep.QuietTactic
import Derived.BigQuiet
/- Layer 18 (json): soundItems, sound. -/
namespace Go.Proofs.YtelhgjepjieocaaDoor
open Go.RowKit Go.MapKept Go.Sort
set_option linter.unusedVariables false

mutual
/-- Numbers and lengths in their ranges. -/
def Rng : Js → Prop
  | .mk k n t ns its => (-9223372036854775808 ≤ n ∧ n ≤ 9223372036854775807) ∧ t.length ≤ 140737488355328 ∧ ns.length ≤ 140737488355328 ∧ its.length ≤ 140737488355328 ∧ (∀ s ∈ ns, s.length ≤ 140737488355328) ∧ Rngs its
def Rngs : List Js → Prop
  | [] => True
  | x :: xs => Rng x ∧ Rngs xs
end
theorem Rngs.mem : ∀ {its : List Js}, Rngs its → ∀ x ∈ its, Rng x
  | [], _, x, hx => by cases hx
  | y :: ys, h, x, hx => by
    unfold Rngs at h
    rcases List.mem_cons.1 hx with rfl | hx
    · exact h.1
    · exact Rngs.mem h.2 x hx
theorem ItAt.get {w : World} {S : Nat → Prop} {ia : Option Addr} : ∀ (its : List Js) (m k : Nat) (hk : k < its.length), ItAt w S ia m its → ∃ b off cs, ia = some ⟨b, off, none⟩ ∧ cs.size = 5 ∧ (∀ j u, cs[j]? = some u → w.cell? ⟨b, off + (m + k) * 5 + j, none⟩ = some u) ∧ JAt w S its[k] cs
  | x :: xs, m, 0, _, h => by
    unfold ItAt at h
    exact h.1
  | x :: xs, m, k + 1, hk, h => by
    unfold ItAt at h
    have := ItAt.get xs (m + 1) k (by simpa using hk) h.2
    rw [show m + 1 + k = m + (k + 1) by omega] at this
    exact this
theorem JAt.csJ {w : World} {S : Nat → Prop} {v : Js} {cs : Array Value} (h : JAt w S v cs) : ∃ k n t ns its na nc ia ic, v = .mk k n t ns its ∧ cs = jC k n (nmB t) (.slice na ns.length nc) (.slice ia its.length ic) ∧ VAt w na (ns.map strV) ∧ ItAt w S ia 0 its := by
  cases v with
  | mk k n t ns its =>
    unfold JAt at h
    obtain ⟨na, nc, ia, ic, h1, h2, h3, h4, h5⟩ := h
    exact ⟨k, n, t, ns, its, na, nc, ia, ic, rfl, h1, h2, h5⟩
theorem JAt.below {w w' : World} {S : Nat → Prop} {v : Js} {cs : Array Value} (h : JAt w S v cs) (hb : Below w.heap.size w w') : JAt w' S v cs := JAt.frm (Frm.ofBelow hb (fun _ => False)) (fun _ _ h => h) _ _ h
theorem ItAt.below {w w' : World} {S : Nat → Prop} {ia : Option Addr} {its : List Js} (h : ItAt w S ia 0 its) (hs : ∀ a, ia = some a → its ≠ [] → S a.block) (hb : Below w.heap.size w w') : ItAt w' S ia 0 its := ItAt.frm (Frm.ofBelow hb (fun _ => False)) (fun _ _ h => h) _ _ _ hs h
def SpecS (v : Js) : Prop := ∀ (d : Nat) (w : World) (S : Nat → Prop) (cs : Array Value), d ≤ 17 → Rng v → JAt w S v cs → Calls Tryd.prog 30 #[.agg cs, .int .i64 (d : Int)] w fun e w' => e = .returned (.bool (soundJ v d)) ∧ Below w.heap.size w w'
theorem allS_drop {its : List Js} {d k : Nat} (hk : k < its.length) : allS (its.drop k) d = (soundJ its[k] d && allS (its.drop (k + 1)) d) := by
  rw [List.drop_eq_getElem_cons hk]
  conv => lhs; unfold allS
set_option maxRecDepth 100000 in
set_option maxHeartbeats 2000000 in
theorem soundItems_calls (its : List Js) (IH : ∀ x ∈ its, SpecS x) (d il ic : Nat) (ia : Option Addr) (w : World) (S : Nat → Prop) (hl : its.length = il) (hd : d ≤ 17) (hr : Rngs its) (hil : il ≤ 140737488355328) (hi : ItAt w S ia 0 its) (hs : ∀ a, ia = some a → its ≠ [] → S a.block) :
    Calls Tryd.prog 47 #[.slice ia il ic, .int .i64 (d : Int)] w fun e w' => e = .returned (.bool (decide (d < 16) && allS its (d + 1))) ∧ Below w.heap.size w w' := by
  by_cases h16 : d < 16
  · obtain ⟨Q, HQ⟩ : ∃ Q, Hid (Q = (decide (d < 16) && allS its (d + 1))) := ⟨_, rfl⟩
    rw [← HQ.out]
    have HQ2 : Hid (Q = allS (its.drop 0) (d + 1)) := by rw [Hid, HQ.out, decide_eq_true h16, Bool.true_and, List.drop_zero]
    have HIH : Hid ((∀ x ∈ its, SpecS x) ∧ Rngs its ∧ its.length = il) := ⟨IH, hr, hl⟩
    have HII : Hid (ItAt w S ia 0 its ∧ ∀ a, ia = some a → its ≠ [] → S a.block) := ⟨hi, hs⟩
    have HB0 : Hid (Below w.heap.size w w) := Below.refl _ _
    clear IH hr hl hi hs HQ
    go_enter Tryd.func47, Tryd.ntmps47
    go_wp2
    go_loopw [6, 11] (fun x i wr => ∃ k : Nat, k ≤ il ∧ i = .int .i64 (k : Int) ∧ Hid (Below w.heap.size w wr ∧ Q = allS (its.drop k) (d + 1))) (fun _ i _ => il - (intOf i).toNat)
    case atStart => exact ⟨0, Nat.zero_le _, rfl, HB0.out, HQ2.out⟩
    case round =>
      clear HQ2 HB0
      obtain ⟨k, hk, rfl, HI⟩ := hrel
      by_cases hlt : k < il
      · have hkl : k < its.length := by rw [HIH.out.2.2]; exact hlt
        obtain ⟨b, off, cs, rfl, h5, hcell, hj⟩ := ItAt.get its 0 k hkl (HII.out.1.below HII.out.2 HI.out.1)
        obtain ⟨xk, xn, xt, xa, xl, xc, ya, yl, yc, hcs⟩ := JAt.cs hj
        subst hcs
        simp only [Nat.zero_add] at hcell
        have q0 := hcell 0 _ rfl
        have q1 := hcell 1 _ rfl
        have q2 := hcell 2 _ rfl
        have q3 := hcell 3 _ rfl
        have q4 := hcell 4 _ rfl
        simp only [Nat.add_zero] at q0
        obtain ⟨w1, Hw1⟩ : ∃ w1, Hid (w1 = wr.alloc (.cells #[.int .i64 xk, .int .i64 xn, .string xt, .slice xa xl xc, .slice ya yl yc] 26)) := ⟨_, rfl⟩
        obtain ⟨g, Hg⟩ : ∃ g, Hid (g = wr.heap.size) := ⟨_, rfl⟩
        have hb1 : Below wr.heap.size wr w1 := by rw [Hw1.out]; exact below_new _ _
        have HBk : Hid (Blk w1 g #[.int .i64 xk, .int .i64 xn, .string xt, .slice xa xl xc, .slice ya yl yc] 26) := by rw [Hid, Hw1.out, Hg.out]; exact Blk.new _ _ _
        obtain ⟨x0, x1, x2, x3, x4, -⟩ := Blk.five HBk.out
        have HC := HIH.out.1 _ (List.getElem_mem hkl) (d + 1) w1 S _ (by omega) (Rngs.mem HIH.out.2.1 _ (List.getElem_mem hkl)) (hj.below hb1)
        rw [show ((d + 1 : Nat) : Int) = (d : Int) + 1 by omega] at HC
        have HB1 : Hid (Below w.heap.size w w1) := HI.out.1.trans (hb1.mono HI.out.1.size)
        have HE := HI.out.2
        rw [allS_drop hkl] at HE
        obtain ⟨sv, Hsv⟩ : ∃ sv, Hid (sv = soundJ (its[k]'hkl) (d + 1)) := ⟨soundJ (its[k]'hkl) (d + 1), rfl⟩
        rw [← Hsv.out] at HC HE
        have HE2 : Hid (Q = (sv && allS (its.drop (k + 1)) (d + 1))) := HE
        clear HI hcell hj hb1 HE Hsv
        go_upto_region 6 with fail
        rw [← Hw1.out, ← Hg.out]
        clear Hw1 Hg q0 q1 q2 q3 q4
        go_wp2_with fail
        refine HC.mono ?_
        clear HC
        rintro e w2 ⟨rfl, hb2⟩
        have HB2 : Hid (Below w.heap.size w w2) := HB1.out.trans (hb2.mono HB1.out.size)
        clear hb2 x0 x1 x2 x3 x4
        cases sv with
        | true =>
          have HN : Hid (Below w.heap.size w w2 ∧ Q = allS (its.drop (k + 1)) (d + 1)) := ⟨HB2.out, by rw [HE2.out, Bool.true_and]⟩
          go_wp2
          go_roundw
          case rel => exact ⟨k + 1, by omega, by go_num, HN⟩
          case measure => simp [intOf]; omega
        | false =>
          have HN : Hid (Q = false) := by rw [Hid, HE2.out, Bool.false_and]
          go_wp2
          go_ret
          exact ⟨by rw [HN.out]; rfl, HB2.out⟩
      · have HN : Hid (Q = true) := by
          rw [Hid, HI.out.2, List.drop_of_length_le (by rw [HIH.out.2.2]; omega)]
          unfold allS; rfl
        go_wp2
        go_ret
        exact ⟨by rw [HN.out]; rfl, HI.out.1⟩
  · have hz : (decide (d < 16) && allS its (d + 1)) = false := by rw [decide_eq_false h16, Bool.false_and]
    rw [hz]
    clear IH hr hl hi hs hz
    go_enter Tryd.func47, Tryd.ntmps47
    go_wp2
    go_ret
    exact ⟨rfl, Below.refl _ _⟩
theorem empty_txt (t : List UInt8) : (nmB t).toList.isEmpty = t.isEmpty := by
  rw [ByteArray.toList_eq]
  simp [nmB]
theorem parts_or {ns : List (List UInt8)} {its : List Js} {nl il : Nat} (h1 : ns.length = nl) (h2 : its.length = il) : (decide (0 < nl) || decide (0 < il)) = !(ns.isEmpty && its.isEmpty) := by
  subst h1 h2
  cases ns <;> cases its <;> simp
end Go.Proofs.YtelhgjepjieocaaDoor

/- Layer 18 (json): the document's Same: of one value, wherever it lies, the answer is true. -/
namespace Go.Proofs.YtelhgjepjieocaaDoor
open Go.RowKit Go.MapKept Go.Sort
set_option linter.unusedVariables false

def SpecM (v : Js) : Prop := ∀ (w : World) (S T : Nat → Prop) (cs ds : Array Value), Rng v → JAt w S v cs → JAt w T v ds → Calls Tryd.prog 12 #[.agg cs, .agg ds] w fun e w' => e = .returned (.bool true) ∧ Below w.heap.size w w'
theorem VAt.str {w : World} {na : Option Addr} {ns : List (List UInt8)} (h : VAt w na (ns.map strV)) {k : Nat} (hk : k < ns.length) : ∃ b off, na = some ⟨b, off, none⟩ ∧ w.cell? ⟨b, off + k, none⟩ = some (.string (nmB ns[k])) := by
  obtain ⟨b, off, h1, h2⟩ := h k (by rw [List.length_map]; exact hk)
  refine ⟨b, off, h1, ?_⟩
  rw [List.getElem_map] at h2
  exact h2
set_option maxRecDepth 100000 in
set_option maxHeartbeats 4000000 in
theorem same_of (k n : Int) (t : List UInt8) (ns : List (List UInt8)) (its : List Js) (IH : ∀ x ∈ its, SpecM x) : SpecM (.mk k n t ns its) := by
  intro w S T cs ds hr hj hm
  unfold Rng at hr
  obtain ⟨-, -, r3, r4, -, r6⟩ := hr
  unfold JAt at hj hm
  obtain ⟨na, nc, ia, ic, rfl, h2, h3, h4, h5⟩ := hj
  obtain ⟨na2, nc2, ia2, ic2, rfl, g2, g3, g4, g5⟩ := hm
  obtain ⟨nl, hnl⟩ : ∃ nl, nl = ns.length := ⟨_, rfl⟩
  obtain ⟨il, hil⟩ : ∃ il, il = its.length := ⟨_, rfl⟩
  obtain ⟨tb, htb⟩ : ∃ tb, tb = nmB t := ⟨_, rfl⟩
  rw [← hnl, ← hil, ← htb]
  rw [← hnl] at r3
  rw [← hil] at r4
  have HA : Hid (VAt w na (ns.map strV) ∧ VAt w na2 (ns.map strV) ∧ ItAt w S ia 0 its ∧ ItAt w T ia2 0 its ∧ (∀ a, ia = some a → its ≠ [] → S a.block) ∧ (∀ a, ia2 = some a → its ≠ [] → T a.block)) := ⟨h2, g2, h5, g5, h4, g4⟩
  have HIH : Hid ((∀ x ∈ its, SpecM x) ∧ Rngs its ∧ nl = ns.length ∧ il = its.length) := ⟨IH, r6, hnl, hil⟩
  clear IH r6 hnl hil htb h2 h3 h4 h5 g2 g3 g4 g5
  obtain ⟨w1, Hw1⟩ : ∃ w1, Hid (w1 = w.alloc (.cells #[.int .i64 k, .int .i64 n, .string tb, .slice na nl nc, .slice ia il ic] 26)) := ⟨_, rfl⟩
  obtain ⟨ga, Hga⟩ : ∃ ga, Hid (ga = w.heap.size) := ⟨_, rfl⟩
  obtain ⟨w2, Hw2⟩ : ∃ w2, Hid (w2 = w1.alloc (.cells #[.int .i64 k, .int .i64 n, .string tb, .slice na2 nl nc2, .slice ia2 il ic2] 26)) := ⟨_, rfl⟩
  obtain ⟨gb, Hgb⟩ : ∃ gb, Hid (gb = w.heap.size + 1) := ⟨_, rfl⟩
  have HB : Hid (Below w.heap.size w w2 ∧ Blk w2 ga #[.int .i64 k, .int .i64 n, .string tb, .slice na nl nc, .slice ia il ic] 26 ∧ Blk w2 gb #[.int .i64 k, .int .i64 n, .string tb, .slice na2 nl nc2, .slice ia2 il ic2] 26) := by
    have hb1 : Below w.heap.size w w1 := by rw [Hw1.out]; exact below_new _ _
    have hb2 : Below w1.heap.size w1 w2 := by rw [Hw2.out]; exact below_new _ _
    refine ⟨hb1.trans (hb2.mono hb1.size), Blk.below ?_ hb2, ?_⟩
    · rw [Hw1.out, Hga.out]; exact Blk.new _ _ _
    · have hz : gb = w1.heap.size := by rw [Hgb.out, Hw1.out, World.size_alloc]
      rw [Hw2.out, hz]; exact Blk.new _ _ _
  unfold jC
  go_enter Tryd.func12, Tryd.ntmps12
  go_upto_region 1 with fail
  rw [← Hw1.out, ← Hw2.out, ← Hgb.out, ← Hga.out]
  clear Hw1 Hw2 Hga Hgb
  obtain ⟨x0, x1, x2, x3, x4, -⟩ := Blk.five HB.out.2.1
  obtain ⟨y0, y1, y2, y3, y4, -⟩ := Blk.five HB.out.2.2
  go_upto_region 3 with fail
  go_wp2
  go_loopw [5, 47] (fun x i wr => ∃ j : Nat, j ≤ nl ∧ i = .int .i64 (j : Int) ∧ Hid (Below w2.heap.size w2 wr)) (fun _ i _ => nl - (intOf i).toNat)
  case atStart => exact ⟨0, Nat.zero_le _, rfl, Below.refl _ _⟩
  case round =>
    obtain ⟨j, hj, rfl, HW⟩ := hrel
    have HBw : Hid (Below w.heap.size w wr ∧ Blk wr ga #[.int .i64 k, .int .i64 n, .string tb, .slice na nl nc, .slice ia il ic] 26 ∧ Blk wr gb #[.int .i64 k, .int .i64 n, .string tb, .slice na2 nl nc2, .slice ia2 il ic2] 26) :=
      ⟨HB.out.1.trans (HW.out.mono HB.out.1.size), HB.out.2.1.below HW.out, HB.out.2.2.below HW.out⟩
    clear x0 x1 x2 x3 x4 y0 y1 y2 y3 y4
    obtain ⟨x0, x1, x2, x3, x4, -⟩ := Blk.five HBw.out.2.1
    obtain ⟨y0, y1, y2, y3, y4, -⟩ := Blk.five HBw.out.2.2
    by_cases hlt : j < nl
    · have hjn : j < ns.length := by rw [← HIH.out.2.2.1]; exact hlt
      obtain ⟨b, off, rfl, c1⟩ := (HA.out.1.frm (Frm.ofBelow HBw.out.1 (fun _ => False)) (fun _ _ h => h)).str hjn
      obtain ⟨b2, off2, rfl, c2⟩ := (HA.out.2.1.frm (Frm.ofBelow HBw.out.1 (fun _ => False)) (fun _ _ h => h)).str hjn
      generalize nmB ns[j] = nm at c1 c2
      clear hjn HBw
      have HW2 : ∀ m, Hid (Below w2.heap.size w2 (wr.drewN m)) := fun m => HW.out.trans ((below_drawsT wr m).mono HW.out.size)
      go_wp2_with fail
      go_quiet (fail)
      go_wp2
      go_roundw
      case rel => exact ⟨j + 1, by omega, by go_num, HW2 _⟩
      case measure => simp [intOf]; omega
    · clear HB
      go_wp2
      go_loopw [6, 65] (fun x i wr' => ∃ j : Nat, j ≤ il ∧ i = .int .i64 (j : Int) ∧ Hid (Below w.heap.size w wr' ∧ Blk wr' ga #[.int .i64 k, .int .i64 n, .string tb, .slice na nl nc, .slice ia il ic] 26 ∧ Blk wr' gb #[.int .i64 k, .int .i64 n, .string tb, .slice na2 nl nc2, .slice ia2 il ic2] 26)) (fun _ i _ => il - (intOf i).toNat)
      case atStart => exact ⟨0, Nat.zero_le _, rfl, HBw.out⟩
      case round =>
        clear HBw HW x0 x1 x2 x3 x4 y0 y1 y2 y3 y4
        obtain ⟨j, hj, rfl, HW⟩ := hrel
        obtain ⟨x0, x1, x2, x3, x4, -⟩ := Blk.five HW.out.2.1
        obtain ⟨y0, y1, y2, y3, y4, -⟩ := Blk.five HW.out.2.2
        by_cases hlt : j < il
        · have hjn : j < its.length := by rw [← HIH.out.2.2.2]; exact hlt
          obtain ⟨b, off, cs, rfl, h5, hc, hj1⟩ := ItAt.get its 0 j hjn (HA.out.2.2.1.below HA.out.2.2.2.2.1 HW.out.1)
          obtain ⟨b2, off2, ds, rfl, h6, hd, hj2⟩ := ItAt.get its 0 j hjn (HA.out.2.2.2.1.below HA.out.2.2.2.2.2 HW.out.1)
          obtain ⟨xk, xn, xt, xa, xl, xc, ya, yl, yc, hcs⟩ := JAt.cs hj1
          obtain ⟨zk, zn, zt, za, zl, zc, ta, tl, tc, hds⟩ := JAt.cs hj2
          subst hcs
          subst hds
          simp only [Nat.zero_add] at hc hd
          have q0 := hc 0 _ rfl
          have q1 := hc 1 _ rfl
          have q2 := hc 2 _ rfl
          have q3 := hc 3 _ rfl
          have q4 := hc 4 _ rfl
          have p0 := hd 0 _ rfl
          have p1 := hd 1 _ rfl
          have p2 := hd 2 _ rfl
          have p3 := hd 3 _ rfl
          have p4 := hd 4 _ rfl
          simp only [Nat.add_zero] at q0 p0
          have hjx := List.getElem_mem hjn
          have cA := fun d os => Calls.regrown_of (HIH.out.1 its[j] hjx (grow (redrawn wr d) os) S T _ _ (Rngs.mem HIH.out.2.1 _ hjx) (hj1.below (below_regrown wr d os)) (hj2.below (below_regrown wr d os)))
          clear hc hd hj1 hj2 h5 h6 hjx hjn
          go_upto_region 12 with fail
          have j0 := cell_regrown q0
          have j1 := cell_regrown q1
          have j2 := cell_regrown q2
          have j3 := cell_regrown q3
          have j4 := cell_regrown q4
          have k0 := cell_regrown p0
          have k1 := cell_regrown p1
          have k2 := cell_regrown p2
          have k3 := cell_regrown p3
          have k4 := cell_regrown p4
          have l4 := cell_regrown x4
          have m4 := cell_regrown y4
          refine wp_region_quiet_below (by kernel_rfl) (by kernel_rfl) ?_
          repeat (quiet_step (exact cA _ _))
          refine wpQuiet_nil ?_
          intro w7 hw'
          obtain ⟨⟨dq, osq⟩, hw7⟩ := hw'
          have hb7 : Below wr.heap.size wr w7 := by rw [hw7]; exact below_regrown wr dq osq
          have HW7 : Hid (Below w.heap.size w w7 ∧ Blk w7 ga #[.int .i64 k, .int .i64 n, .string tb, .slice na nl nc, .slice (some ⟨b, off, none⟩) il ic] 26 ∧ Blk w7 gb #[.int .i64 k, .int .i64 n, .string tb, .slice na2 nl nc2, .slice (some ⟨b2, off2, none⟩) il ic2] 26) :=
            ⟨HW.out.1.trans (hb7.mono HW.out.1.size), HW.out.2.1.below hb7, HW.out.2.2.below hb7⟩
          clear hb7 hw7 cA j0 j1 j2 j3 j4 k0 k1 k2 k3 k4 l4 m4 q0 q1 q2 q3 q4 p0 p1 p2 p3 p4 HW x0 x1 x2 x3 x4 y0 y1 y2 y3 y4
          go_wp2
          go_roundw
          case rel => exact ⟨j + 1, by omega, by go_num, HW7⟩
          case measure => simp [intOf]; omega
        · go_wp2
          go_ret
          exact ⟨rfl, HW.out.1⟩
mutual
theorem specM : ∀ v : Js, SpecM v
  | .mk k n t ns its => same_of k n t ns its (specMs its)
theorem specMs : ∀ its : List Js, ∀ x ∈ its, SpecM x
  | [], x, hx => by cases hx
  | y :: ys, x, hx => by
    rcases List.mem_cons.1 hx with h | h
    · rw [h]; exact specM y
    · exact specMs ys x h
end
end Go.Proofs.YtelhgjepjieocaaDoor
