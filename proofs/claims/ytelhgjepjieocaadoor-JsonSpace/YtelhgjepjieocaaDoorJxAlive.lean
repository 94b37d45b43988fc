import Derived.Test.YtelhgjepjieocaaDoorJxMk
import Derived.Test.YtelhgjepjieocaaDoorJxRfA
/- Layer 18 (json): Field, the program's and the document's. -/
namespace Go.Proofs.YtelhgjepjieocaaDoor
open Go.RowKit Go.MapKept Go.Sort
set_option linter.unusedVariables false

def jsN : Js := .mk 0 0 [] [] []
/-- The first place of a name; the length: none. -/
def idxN : List (List UInt8) → List UInt8 → Nat
  | [], _ => 0
  | x :: xs, nm => if x = nm then 0 else idxN xs nm + 1
theorem idxN_le : ∀ (ns : List (List UInt8)) (nm : List UInt8), idxN ns nm ≤ ns.length
  | [], nm => Nat.le_refl _
  | x :: xs, nm => by
    unfold idxN
    have := idxN_le xs nm
    split
    · omega
    · rw [List.length_cons]; omega
theorem idxN_hit : ∀ (ns : List (List UInt8)) (nm : List UInt8) (h : idxN ns nm < ns.length), ns[idxN ns nm] = nm
  | [], nm, h => absurd h (Nat.not_lt_zero _)
  | x :: xs, nm, h => by
    by_cases hx : x = nm
    · have e : idxN (x :: xs) nm = 0 := by unfold idxN; rw [if_pos hx]
      simp only [e]
      exact hx
    · have e : idxN (x :: xs) nm = idxN xs nm + 1 := by conv => lhs; unfold idxN; rw [if_neg hx]
      have h2 : idxN xs nm < xs.length := by rw [e] at h; simpa using h
      simp only [e]
      exact idxN_hit xs nm h2
theorem idxN_before : ∀ (ns : List (List UInt8)) (nm : List UInt8) (j : Nat) (hj : j < idxN ns nm) (h : j < ns.length), ns[j] ≠ nm
  | [], nm, j, _, h => absurd h (Nat.not_lt_zero _)
  | x :: xs, nm, j, hj, h => by
    by_cases hx : x = nm
    · unfold idxN at hj; rw [if_pos hx] at hj; exact absurd hj (Nat.not_lt_zero _)
    · have e : idxN (x :: xs) nm = idxN xs nm + 1 := by conv => lhs; unfold idxN; rw [if_neg hx]
      rw [e] at hj
      cases j with
      | zero => exact hx
      | succ j => exact idxN_before xs nm j (by omega) (by simpa using h)
/-- The item of a name. -/
def fieldJ : Js → List UInt8 → Option Js
  | .mk k n t ns its, nm => if k = 6 then (if idxN ns nm < ns.length then its[idxN ns nm]? else none) else none
theorem fieldJ_eq (k n : Int) (t : List UInt8) (ns : List (List UInt8)) (its : List Js) (nm : List UInt8) : fieldJ (.mk k n t ns its) nm = if k = 6 then (if idxN ns nm < ns.length then its[idxN ns nm]? else none) else none := rfl
def FdR (w : World) (r : Option Js) (e : Ending) (w' : World) : Prop := Below w.heap.size w w' ∧ ∃ cs T, e = .returned (.tuple #[.agg cs, .bool r.isSome]) ∧ JAt w' T (r.getD jsN) cs
theorem nmB_ne {a b : List UInt8} (h : a ≠ b) : ((nmB a).toList == (nmB b).toList) = false := by
  rw [beq_eq_false_iff_ne]
  intro e
  rw [ByteArray.toList_eq, ByteArray.toList_eq] at e
  exact h (by simpa [nmB] using e)
theorem idx_calls (na : Option Addr) (nl nc : Nat) (ns : List (List UInt8)) (nm : List UInt8) (w : World) (hnl : ns.length = nl) (hb : nl ≤ 9223372036854775807) (hv : VAt w na (ns.map strV)) :
    Calls Tryd.prog 33 #[.slice na nl nc, .string (nmB nm)] w fun e w' => e = .returned (.int .i64 (if idxN ns nm < nl then (idxN ns nm : Int) else -1)) ∧ w' = w := by
  by_cases h0 : ns = []
  · subst h0
    have hz : nl = 0 := hnl.symm
    subst hz
    refine (Tryd.slices_Index_string_empty na nc (nmB nm) w).mono ?_
    rintro e w' ⟨rfl, rfl⟩
    exact ⟨rfl, rfl⟩
  · obtain ⟨b, off, rfl, _⟩ := hv 0 (by rw [List.length_map]; exact List.length_pos_iff.2 h0)
    refine (Tryd.slices_Index_string b off nl nc (ns.map nmB) (nmB nm) w (by rw [List.length_map]; omega) hb ?_).mono ?_
    · intro j hj
      rw [List.length_map] at hj
      obtain ⟨b2, off2, e2, hc⟩ := VAt.str hv hj
      simp only [Option.some.injEq, Addr.mk.injEq, and_true] at e2
      obtain ⟨rfl, rfl⟩ := e2
      rw [getD_map ns j hj]
      exact hc
    · rintro e w' ⟨rfl, rfl⟩
      refine ⟨?_, rfl⟩
      congr 2
      by_cases hi : idxN ns nm < nl
      · rw [if_pos hi]
        refine Lib.idxOfS_hit _ nl (idxN ns nm) _ hi (by rw [List.length_map]; omega) ?_ ?_
        · rw [getD_map ns _ (by omega), idxN_hit ns nm (by omega)]
        · intro j hj
          rw [getD_map ns j (by omega)]
          exact fun e => idxN_before ns nm j hj (by omega) (nmB_inj e)
      · rw [if_neg hi]
        refine Lib.idxOfS_miss _ nl _ fun j hj => ?_
        rw [getD_map ns j (by omega)]
        exact fun e => idxN_before ns nm j (by omega) (by omega) (nmB_inj e)
theorem fieldJ_at {k n : Int} {t : List UInt8} {ns : List (List UInt8)} {its : List Js} {nm : List UInt8} (h6 : k = 6) (h1 : idxN ns nm < ns.length) (h2 : idxN ns nm < its.length) : fieldJ (.mk k n t ns its) nm = some its[idxN ns nm] := by
  rw [fieldJ_eq, if_pos h6, if_pos h1, List.getElem?_eq_getElem h2]
theorem fieldJ_no {k n : Int} {t : List UInt8} {ns : List (List UInt8)} {its : List Js} {nm : List UInt8} (h : k ≠ 6 ∨ ¬ idxN ns nm < ns.length ∨ ¬ idxN ns nm < its.length) : fieldJ (.mk k n t ns its) nm = none := by
  rw [fieldJ_eq]
  by_cases h6 : k = 6
  · rw [if_pos h6]
    by_cases h1 : idxN ns nm < ns.length
    · rw [if_pos h1, List.getElem?_eq_none]
      rcases h with h | h | h
      · exact absurd h6 h
      · exact absurd h1 h
      · omega
    · rw [if_neg h1]
  · rw [if_neg h6]
theorem FdR.no {w w' : World} (hb : Below w.heap.size w w') : FdR w none (.returned (.tuple #[.agg jZ, .bool false])) w' := ⟨hb, jZ, fun _ => False, rfl, JAt.plain w' 0 0 []⟩
set_option maxRecDepth 100000 in
set_option maxHeartbeats 4000000 in
theorem field_calls (v : Js) (nm : List UInt8) (w : World) (S : Nat → Prop) (cs : Array Value) (hf : Fit v) (hj : JAt w S v cs) (hSB : ∀ k, S k → k < w.heap.size) :
    Calls Tryd.prog 17 #[.agg cs, .string (nmB nm)] w (FdR w (fieldJ v nm)) := by
  obtain ⟨Q, HQ⟩ : ∃ Q, Hid (Q = fieldJ v nm) := ⟨fieldJ v nm, (Eq.refl _ : fieldJ v nm = _)⟩
  rw [← HQ.out]
  obtain ⟨k, n, t, ns, its⟩ := v
  unfold Fit at hf
  obtain ⟨f1, f2, f3, f4, f5⟩ := hf
  unfold JAt at hj
  obtain ⟨na, nc, ia, ic, rfl, h2, h3, h4, h5⟩ := hj
  obtain ⟨nl, hnl⟩ : ∃ nl, nl = ns.length := ⟨_, rfl⟩
  obtain ⟨il, hil⟩ : ∃ il, il = its.length := ⟨_, rfl⟩
  obtain ⟨tb, htb⟩ : ∃ tb, tb = nmB t := ⟨_, rfl⟩
  obtain ⟨sb, hsb⟩ : ∃ sb, sb = nmB nm := ⟨_, rfl⟩
  rw [← hnl, ← hil, ← htb]
  obtain ⟨w1, Hw1⟩ : ∃ w1, Hid (w1 = w.alloc (.cells #[.int .i64 k, .int .i64 n, .string tb, .slice na nl nc, .slice ia il ic] 26)) := ⟨_, rfl⟩
  obtain ⟨ga, Hga⟩ : ∃ ga, Hid (ga = w.heap.size) := ⟨_, rfl⟩
  obtain ⟨w2, Hw2⟩ : ∃ w2, Hid (w2 = w1.alloc (.cells #[.int .i64 0, .int .i64 0, .string ⟨#[]⟩, .slice none 0 0, .slice none 0 0] 26)) := ⟨_, rfl⟩
  obtain ⟨gr, Hgr⟩ : ∃ gr, Hid (gr = w.heap.size + 1) := ⟨_, rfl⟩
  have hz1 : w1.heap.size = w.heap.size + 1 := by rw [Hw1.out, World.size_alloc]
  have hb1 : Below w.heap.size w w1 := by rw [Hw1.out]; exact below_new _ _
  have hb2 : Below w1.heap.size w1 w2 := by rw [Hw2.out]; exact below_new _ _
  have HB2 : Hid (Below w.heap.size w w2 ∧ Blk w2 ga #[.int .i64 k, .int .i64 n, .string tb, .slice na nl nc, .slice ia il ic] 26 ∧ Blk w2 gr jZ 26 ∧ w.heap.size ≤ gr) := by
    refine ⟨hb1.trans (hb2.mono hb1.size), Blk.below ?_ hb2, ?_, ?_⟩
    · rw [Hw1.out, Hga.out]; exact Blk.new _ _ _
    · rw [Hw2.out, show gr = w1.heap.size by rw [Hgr.out, hz1]]; exact Blk.new _ _ _
    · have := Hgr.out; omega
  have HA : Hid (ItAt w2 S ia 0 its ∧ (∀ a, ia = some a → its ≠ [] → S a.block) ∧ (∀ q, S q → q < w2.heap.size) ∧ Fits its ∧ its.length = il ∧ ns.length = nl) := ⟨ItAt.frm (Frm.ofBelow HB2.out.1 noB) (fun _ _ h => h) its ia 0 h4 h5, h4, fun q hq => Nat.lt_of_lt_of_le (hSB q hq) HB2.out.1.size, f5, hil.symm, hnl.symm⟩
  have HC := idx_calls na nl nc ns nm w2 hnl.symm (by omega) (VAt.frmN h2 (Frm.ofBelow HB2.out.1 noB) (fun _ _ h => h) h3)
  obtain ⟨ix, Hix⟩ : ∃ ix, Hid (ix = idxN ns nm) := ⟨_, rfl⟩
  rw [← Hix.out, ← hsb] at HC
  rw [← hsb]
  have hil2 : il ≤ 1759218604416 := by omega
  have hnl2 : nl ≤ 8796093021952 := by omega
  clear f1 f2 f3 f4 f5 h2 h3 h4 h5 hSB hnl hil htb hsb hz1 hb1 hb2
  unfold jC
  go_enter Tryd.func17, Tryd.ntmps17
  go_upto_region 1 with fail
  rw [← Hw1.out, ← Hw2.out, ← Hgr.out, ← Hga.out]
  clear Hw1 Hw2 Hgr Hga
  obtain ⟨x0, x1, x2, x3, x4, -⟩ := Blk.five HB2.out.2.1
  obtain ⟨y0, y1, y2, y3, y4, z0, z1, z2, z3, z4⟩ := Blk.five HB2.out.2.2.1
  by_cases h6 : k = 6
  · by_cases hin : ix < nl
    · rw [if_pos hin] at HC
      by_cases hit : ix < il
      · have HN : Hid (∃ h : ix < its.length, Q = some its[ix]) := by
          have h9 : ix < its.length := by rw [HA.out.2.2.2.2.1]; exact hit
          refine ⟨h9, ?_⟩
          rw [HQ.out, fieldJ_at h6 (by rw [← Hix.out, HA.out.2.2.2.2.2]; exact hin) (by rw [← Hix.out]; exact h9)]
          simp only [Hix.out]
        have hkl := HN.out.1
        obtain ⟨b, off, cs, rfl, h5, hcell, hj⟩ := ItAt.get its 0 ix hkl HA.out.1
        obtain ⟨xk, xn, xt, xa, xl, xc, ya, yl, yc, hcs⟩ := JAt.cs hj
        subst hcs
        simp only [Nat.zero_add] at hcell
        have q0 := hcell 0 _ rfl
        have q1 := hcell 1 _ rfl
        have q2 := hcell 2 _ rfl
        have q3 := hcell 3 _ rfl
        have q4 := hcell 4 _ rfl
        simp only [Nat.add_zero] at q0
        have HV := specC (its[ix]'hkl) w2 S _ (Fits.mem HA.out.2.2.2.1 _ (List.getElem_mem hkl)) hj HA.out.2.2.1
        have i0 : ¬ ((ix : Int) < 0) := by omega
        subst h6
        clear HQ Hix hcell hj
        go_wp2_with fail
        refine HC.mono ?_
        clear HC
        rintro e w3 ⟨rfl, rfl⟩
        go_wp2_with fail
        refine HV.mono ?_
        clear HV
        rintro e w4 ⟨hb4, ds, T, rfl, hj4, hT4⟩
        obtain ⟨zk, zn, zt, za, zl, zc, ta, tl_, tc, hds⟩ := JAt.cs hj4
        subst hds
        have HB4 : Hid (Below w.heap.size w w4 ∧ Blk w4 gr jZ 26) := ⟨HB2.out.1.trans (hb4.mono HB2.out.1.size), HB2.out.2.2.1.below hb4⟩
        have hr3 := HB2.out.2.2.1.lt
        have HJ4 : Hid (JAt w4 T (its[ix]'hkl) #[.int .i64 zk, .int .i64 zn, .string zt, .slice za zl zc, .slice ta tl_ tc] ∧ ∀ q, T q → q ≠ gr) := ⟨hj4, fun q hq => by have := (hT4 q hq).1; omega⟩
        clear hb4 hj4 hT4 x0 x1 x2 x3 x4 y0 y1 y2 y3 y4 z0 z1 z2 z3 z4 q0 q1 q2 q3 q4
        obtain ⟨y0, y1, y2, y3, y4, z0, z1, z2, z3, z4⟩ := Blk.five HB4.out.2
        go_wp2
        change bodyPost _ _ _ _ _ (putC w4 gr 0 [.int .i64 zk, .int .i64 zn, .string zt, .slice za zl zc, .slice ta tl_ tc])
        refine ret_cellE rfl rfl rfl rfl (load_js (putC_all HB4.out.2 rfl) rfl) ?_
        rw [HN.out.2]
        exact ⟨putC_below _ _ _ HB4.out.1 HB2.out.2.2.2, _, T, rfl, JAt.frm (frm_put w4 gr _) (fun q hq e => HJ4.out.2 q hq e) _ _ HJ4.out.1⟩
      · have HN : Hid (Q = none) := by rw [Hid, HQ.out]; exact fieldJ_no (.inr (.inr (by rw [← Hix.out, HA.out.2.2.2.2.1]; exact hit)))
        have i0 : ¬ ((ix : Int) < 0) := by omega
        have i1 : (il : Int) ≤ (ix : Int) := by omega
        subst h6
        clear HQ Hix
        go_wp2_with fail
        refine HC.mono ?_
        clear HC
        rintro e w3 ⟨rfl, rfl⟩
        go_wp2
        change bodyPost _ _ _ _ _ (putC w3 gr 0 [.int .i64 0, .int .i64 0, .string ⟨#[]⟩, .slice none 0 0, .slice none 0 0])
        refine ret_cellE rfl rfl rfl rfl (load_js (putC_all HB2.out.2.2.1 rfl) rfl) ?_
        rw [HN.out]
        exact FdR.no (putC_below _ _ _ HB2.out.1 HB2.out.2.2.2)
    · rw [if_neg hin] at HC
      have HN : Hid (Q = none) := by rw [Hid, HQ.out]; exact fieldJ_no (.inr (.inl (by rw [← Hix.out, HA.out.2.2.2.2.2]; exact hin)))
      subst h6
      clear HQ Hix
      go_wp2_with fail
      refine HC.mono ?_
      clear HC
      rintro e w3 ⟨rfl, rfl⟩
      go_wp2
      change bodyPost _ _ _ _ _ (putC w3 gr 0 [.int .i64 0, .int .i64 0, .string ⟨#[]⟩, .slice none 0 0, .slice none 0 0])
      refine ret_cellE rfl rfl rfl rfl (load_js (putC_all HB2.out.2.2.1 rfl) rfl) ?_
      rw [HN.out]
      exact FdR.no (putC_below _ _ _ HB2.out.1 HB2.out.2.2.2)
  · have HN : Hid (Q = none) := by rw [Hid, HQ.out]; exact fieldJ_no (.inl h6)
    have q6 : (k != 6) = true := by simpa using h6
    clear HC
    go_wp2
    change bodyPost _ _ _ _ _ (putC w2 gr 0 [.int .i64 0, .int .i64 0, .string ⟨#[]⟩, .slice none 0 0, .slice none 0 0])
    refine ret_cellE rfl rfl rfl rfl (load_js (putC_all HB2.out.2.2.1 rfl) rfl) ?_
    rw [HN.out]
    exact FdR.no (putC_below _ _ _ HB2.out.1 HB2.out.2.2.2)
set_option maxRecDepth 100000 in
set_option maxHeartbeats 4000000 in
theorem refField_calls (v : Js) (nm : List UInt8) (w : World) (S : Nat → Prop) (cs : Array Value) (hf : Fit v) (hj : JAt w S v cs) (hSB : ∀ k, S k → k < w.heap.size) :
    Calls Tryd.prog 24 #[.agg cs, .string (nmB nm)] w (FdR w (fieldJ v nm)) := by
  obtain ⟨Q, HQ⟩ : ∃ Q, Hid (Q = fieldJ v nm) := ⟨fieldJ v nm, (Eq.refl _ : fieldJ v nm = _)⟩
  rw [← HQ.out]
  obtain ⟨k, n, t, ns, its⟩ := v
  unfold Fit at hf
  obtain ⟨f1, f2, f3, f4, f5⟩ := hf
  unfold JAt at hj
  obtain ⟨na, nc, ia, ic, rfl, h2, h3, h4, h5⟩ := hj
  obtain ⟨nl, hnl⟩ : ∃ nl, nl = ns.length := ⟨_, rfl⟩
  obtain ⟨il, hil⟩ : ∃ il, il = its.length := ⟨_, rfl⟩
  obtain ⟨tb, htb⟩ : ∃ tb, tb = nmB t := ⟨_, rfl⟩
  obtain ⟨sb, hsb⟩ : ∃ sb, Hid (sb = nmB nm) := ⟨_, rfl⟩
  rw [← hnl, ← hil, ← htb, ← hsb.out]
  obtain ⟨w1, Hw1⟩ : ∃ w1, Hid (w1 = w.alloc (.cells #[.int .i64 k, .int .i64 n, .string tb, .slice na nl nc, .slice ia il ic] 26)) := ⟨_, rfl⟩
  obtain ⟨ga, Hga⟩ : ∃ ga, Hid (ga = w.heap.size) := ⟨_, rfl⟩
  obtain ⟨w2, Hw2⟩ : ∃ w2, Hid (w2 = w1.alloc (.cells #[.int .i64 0, .int .i64 0, .string ⟨#[]⟩, .slice none 0 0, .slice none 0 0] 26)) := ⟨_, rfl⟩
  obtain ⟨gr, Hgr⟩ : ∃ gr, Hid (gr = w.heap.size + 1) := ⟨_, rfl⟩
  have hz1 : w1.heap.size = w.heap.size + 1 := by rw [Hw1.out, World.size_alloc]
  have hb1 : Below w.heap.size w w1 := by rw [Hw1.out]; exact below_new _ _
  have hb2 : Below w1.heap.size w1 w2 := by rw [Hw2.out]; exact below_new _ _
  have HB2 : Hid (Below w.heap.size w w2 ∧ Blk w2 ga #[.int .i64 k, .int .i64 n, .string tb, .slice na nl nc, .slice ia il ic] 26 ∧ Blk w2 gr jZ 26 ∧ w.heap.size ≤ gr) := by
    refine ⟨hb1.trans (hb2.mono hb1.size), Blk.below ?_ hb2, ?_, ?_⟩
    · rw [Hw1.out, Hga.out]; exact Blk.new _ _ _
    · rw [Hw2.out, show gr = w1.heap.size by rw [Hgr.out, hz1]]; exact Blk.new _ _ _
    · have := Hgr.out; omega
  have HA : Hid (ItAt w2 S ia 0 its ∧ VAt w2 na (ns.map strV) ∧ (∀ q, S q → q < w.heap.size) ∧ its.length = il ∧ ns.length = nl) := ⟨ItAt.frm (Frm.ofBelow HB2.out.1 noB) (fun _ _ h => h) its ia 0 h4 h5, VAt.frmN h2 (Frm.ofBelow HB2.out.1 noB) (fun _ _ h => h) h3, hSB, hil.symm, hnl.symm⟩
  obtain ⟨ix, Hix⟩ : ∃ ix, Hid (ix = idxN ns nm) := ⟨_, rfl⟩
  have hixl : ix ≤ nl := by rw [Hix.out, hnl]; exact idxN_le ns nm
  have hil2 : il ≤ 1759218604416 := by omega
  have hnl2 : nl ≤ 8796093021952 := by omega
  have hgg : w.heap.size ≤ gr := HB2.out.2.2.2
  clear f1 f2 f3 f4 f5 h2 h3 h4 h5 hSB hnl hil htb hz1 hb1 hb2
  unfold jC
  go_enter Tryd.func24, Tryd.ntmps24
  go_upto_region 1 with fail
  rw [← Hw1.out, ← Hw2.out, ← Hgr.out, ← Hga.out]
  clear Hw1 Hw2 Hgr Hga
  obtain ⟨x0, x1, x2, x3, x4, -⟩ := Blk.five HB2.out.2.1
  obtain ⟨y0, y1, y2, y3, y4, z0, z1, z2, z3, z4⟩ := Blk.five HB2.out.2.2.1
  by_cases h6 : k = 6
  · have HQ6 : Hid (Q = if ix < ns.length then its[ix]? else none) := by rw [Hid, HQ.out, Hix.out, fieldJ_eq, if_pos h6]
    subst h6
    go_wp2
    go_loopw [6, 7, 14] (fun x y i wr => wr = w2 ∧ ∃ j : Nat, j ≤ ix ∧ i = .int .i64 (j : Int)) (fun _ _ i _ => nl - (intOf i).toNat)
    case atStart => exact ⟨rfl, 0, Nat.zero_le _, rfl⟩
    case round =>
      obtain ⟨rfl, j, hj, rfl⟩ := hrel
      by_cases hlt : j < nl
      · have hjn : j < ns.length := by rw [HA.out.2.2.2.2]; exact hlt
        obtain ⟨b, off, rfl, c1⟩ := VAt.str HA.out.2.1 hjn
        by_cases he : j = ix
        · have hnm : ns[j] = nm := by
            have h9 : idxN ns nm < ns.length := by rw [← Hix.out, ← he]; exact hjn
            have := idxN_hit ns nm h9
            simp only [← Hix.out, ← he] at this
            exact this
          have qe : ((nmB ns[j]).toList == sb.toList) = true := by rw [hnm, ← hsb.out]; simp
          by_cases hit : j < il
          · have hkl : j < its.length := by rw [HA.out.2.2.2.1]; exact hit
            have HN : Hid (Q = some (its[j]'hkl)) := by rw [Hid, HQ6.out, ← he, if_pos hjn, List.getElem?_eq_getElem hkl]
            obtain ⟨b2, off2, cs, rfl, h5, hcell, hjj⟩ := ItAt.get its 0 j hkl HA.out.1
            obtain ⟨xk, xn, xt, xa, xl, xc, ya, yl, yc, hcs⟩ := JAt.cs hjj
            subst hcs
            simp only [Nat.zero_add] at hcell
            have q0 := hcell 0 _ rfl
            have q1 := hcell 1 _ rfl
            have q2 := hcell 2 _ rfl
            have q3 := hcell 3 _ rfl
            have q4 := hcell 4 _ rfl
            simp only [Nat.add_zero] at q0
            have HJ : Hid (JAt wr S (its[j]'hkl) #[.int .i64 xk, .int .i64 xn, .string xt, .slice xa xl xc, .slice ya yl yc] ∧ ∀ q, S q → q ≠ gr) := ⟨hjj, fun q hq => by have := HA.out.2.2.1 q hq; omega⟩
            generalize nmB ns[j] = nj at c1 qe
            clear hcell hjj h5 hnm he
            go_wp2
            change bodyPost _ _ _ _ _ (putC wr gr 0 [.int .i64 xk, .int .i64 xn, .string xt, .slice xa xl xc, .slice ya yl yc])
            refine ret_cellE rfl rfl rfl rfl (load_js (putC_all HB2.out.2.2.1 rfl) rfl) ?_
            rw [HN.out]
            exact ⟨putC_below _ _ _ HB2.out.1 hgg, _, S, rfl, JAt.frm (frm_put wr gr _) (fun q hq e => HJ.out.2 q hq e) _ _ HJ.out.1⟩
          · have HN : Hid (Q = none) := by
              rw [Hid, HQ6.out, ← he, if_pos hjn, List.getElem?_eq_none]
              rw [HA.out.2.2.2.1]; omega
            have i1 : ¬ ((j : Int) < (il : Int)) := by omega
            generalize nmB ns[j] = nj at c1 qe
            clear hnm he
            go_wp2
            change bodyPost _ _ _ _ _ (putC wr gr 0 [.int .i64 0, .int .i64 0, .string ⟨#[]⟩, .slice none 0 0, .slice none 0 0])
            refine ret_cellE rfl rfl rfl rfl (load_js (putC_all HB2.out.2.2.1 rfl) rfl) ?_
            rw [HN.out]
            exact FdR.no (putC_below _ _ _ HB2.out.1 hgg)
        · have qe : ((nmB ns[j]).toList == sb.toList) = false := by
            rw [hsb.out]
            exact nmB_ne (idxN_before ns nm j (by rw [← Hix.out]; omega) hjn)
          generalize nmB ns[j] = nj at c1 qe
          clear hjn
          go_wp2
          go_roundw
          case rel => exact ⟨by trivial, j + 1, by omega, by go_num⟩
          case measure => simp [intOf]; omega
      · have HN : Hid (Q = none) := by rw [Hid, HQ6.out, if_neg (by rw [HA.out.2.2.2.2]; omega)]
        go_wp2
        change bodyPost _ _ _ _ _ (putC wr gr 0 [.int .i64 0, .int .i64 0, .string ⟨#[]⟩, .slice none 0 0, .slice none 0 0])
        refine ret_cellE rfl rfl rfl rfl (load_js (putC_all HB2.out.2.2.1 rfl) rfl) ?_
        rw [HN.out]
        exact FdR.no (putC_below _ _ _ HB2.out.1 hgg)
  · have HN : Hid (Q = none) := by rw [Hid, HQ.out]; exact fieldJ_no (.inl h6)
    have q6 : (k == 6) = false := by simpa using h6
    go_wp2
    change bodyPost _ _ _ _ _ (putC w2 gr 0 [.int .i64 0, .int .i64 0, .string ⟨#[]⟩, .slice none 0 0, .slice none 0 0])
    refine ret_cellE rfl rfl rfl rfl (load_js (putC_all HB2.out.2.2.1 rfl) rfl) ?_
    rw [HN.out]
    exact FdR.no (putC_below _ _ _ HB2.out.1 hgg)
end Go.Proofs.YtelhgjepjieocaaDoor

/- Layer 18 (json): the chapter's example. -/
namespace Go.Proofs.YtelhgjepjieocaaDoor
open Go.RowKit Go.MapKept Go.Sort
set_option linter.unusedVariables false

def exS : ByteArray := ⟨#[32, 123, 34, 97, 34, 58, 32, 91, 49, 44, 32, 45, 50, 44, 32, 34, 120, 92, 117, 48, 48, 48, 65, 34, 93, 125, 32]⟩
def exV : Js := .mk 6 0 [] [[97]] [.mk 5 0 [] [] [.mk 3 1 [] [] [], .mk 3 (-2) [] [] [], .mk 4 0 [120, 10] [] []]]
set_option maxRecDepth 100000 in
theorem parse_ex : parseJ exS = .ok exV := by kernel_rfl
set_option maxRecDepth 100000 in
theorem print_ex : printJ exV = ([123, 34, 97, 34, 58, 91, 49, 44, 45, 50, 44, 34, 120, 92, 110, 34, 93, 125], 0) := by kernel_rfl
theorem rng_ex : Rng exV := by
  unfold exV
  simp [Rng, Rngs]
theorem bytes_ex : (⟨(bytesOfN [123, 34, 97, 34, 58, 91, 49, 44, 45, 50, 44, 34, 120, 92, 110, 34, 93, 125]).toArray⟩ : ByteArray) = ⟨#[123, 34, 97, 34, 58, 91, 49, 44, 45, 50, 44, 34, 120, 92, 110, 34, 93, 125]⟩ := rfl
set_option maxRecDepth 100000 in
set_option maxHeartbeats 4000000 in
theorem alive_calls (w : World) (hv : Vs w) : Calls Tryd.prog 9 #[] w (fun e w' => e = .returned (.bool true) ∧ Below w.heap.size w w') := by
  have HP := parseJ_calls exS w (by decide) hv
  rw [parse_ex] at HP
  have HV : Hid (Vs w) := hv
  clear hv
  go_enter Tryd.func9, Tryd.ntmps9
  go_wp2_with fail
  refine HP.mono ?_
  clear HP
  rintro e w1 ⟨hb1, cs, S, rfl, hj, hs⟩
  obtain ⟨xk, xn, xt, xa, xl, xc, ya, yl, yc, hcs⟩ := JAt.cs hj
  subst hcs
  have HB1 : Hid (Below w.heap.size w w1 ∧ JAt w1 S exV _ ∧ ∀ k, S k → k < w1.heap.size) := ⟨hb1, hj, fun k hk => (hs k hk).2⟩
  clear hb1 hj hs
  obtain ⟨w2, Hw2⟩ : ∃ w2, Hid (w2 = w1.alloc (.cells #[.int .i64 xk, .int .i64 xn, .string xt, .slice xa xl xc, .slice ya yl yc] 26)) := ⟨_, rfl⟩
  obtain ⟨g, Hg⟩ : ∃ g, Hid (g = w1.heap.size) := ⟨_, rfl⟩
  have HBg : Hid (Blk w2 g #[.int .i64 xk, .int .i64 xn, .string xt, .slice xa xl xc, .slice ya yl yc] 26) := by rw [Hid, Hw2.out, Hg.out]; exact Blk.new _ _ _
  have HF2 : Hid (Below w1.heap.size w1 w2) := by rw [Hid, Hw2.out]; exact below_new _ _
  have HB2 : Hid (Below w.heap.size w w2) := HB1.out.1.trans (HF2.out.mono HB1.out.1.size)
  have HP := print_calls exV w2 S _ rng_ex (HB1.out.2.1.below HF2.out) (fun k hk => Nat.lt_of_lt_of_le (HB1.out.2.2 k hk) HF2.out.size) (HV.out.stay HB2.out)
  rw [print_ex] at HP
  simp only [] at HP
  rw [bytes_ex] at HP
  obtain ⟨x0, x1, x2, x3, x4, -⟩ := Blk.five HBg.out
  go_upto_region 2 with fail
  rw [← Hw2.out, ← Hg.out]
  clear Hw2 Hg
  go_wp2_with fail
  refine HP.mono ?_
  clear HP
  rintro e w3 ⟨rfl, hb3⟩
  have HB3 : Hid (Below w.heap.size w w3) := HB2.out.trans (hb3.mono HB2.out.size)
  clear hb3
  go_wp2
  go_ret
  exact ⟨rfl, HB3.out⟩
end Go.Proofs.YtelhgjepjieocaaDoor
