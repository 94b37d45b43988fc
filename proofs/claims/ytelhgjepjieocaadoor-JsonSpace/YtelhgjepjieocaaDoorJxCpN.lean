import Derived.Test.YtelhgjepjieocaaDoorJxSpA
import Derived.Test.YtelhgjepjieocaaDoorJxSame
import Derived.Test.YtelhgjepjieocaaDoorShelf
/- Layer 18 (json): the law's own depth of a value. -/
namespace Go.Proofs.YtelhgjepjieocaaDoor
open Go.RowKit Go.MapKept Go.Sort
set_option linter.unusedVariables false

def SpecD (v : Js) : Prop := ∀ (w : World) (S : Nat → Prop) (cs : Array Value), Rng v → depJ v ≤ 1000 → JAt w S v cs → Calls Tryd.prog 16 #[.agg cs] w fun e w' => e = .returned (.int .i64 (depJ v : Int)) ∧ Below w.heap.size w w'
theorem depL_take {its : List Js} {j : Nat} (h : j < its.length) : depL (its.take (j + 1)) = max (depL (its.take j)) (depJ its[j]) := by
  rw [List.take_add_one, List.getElem?_eq_getElem h, Option.toList_some, depL_app, depL_cons, depL_nil]
  omega
theorem depL_le {its : List Js} {j : Nat} (h : j < its.length) : depJ its[j] ≤ depL its := by
  have h1 := depL_app (its.take j) (its.drop j)
  rw [List.take_append_drop, List.drop_eq_getElem_cons h, depL_cons] at h1
  omega
theorem depL_take_le (its : List Js) (j : Nat) : depL (its.take j) ≤ depL its := by
  have h1 := depL_app (its.take j) (its.drop j)
  rw [List.take_append_drop] at h1
  omega
set_option maxRecDepth 100000 in
set_option maxHeartbeats 2000000 in
theorem deep_of (k n : Int) (t : List UInt8) (ns : List (List UInt8)) (its : List Js) (IH : ∀ x ∈ its, SpecD x) : SpecD (.mk k n t ns its) := by
  intro w S cs hr hdep hj
  unfold Rng at hr
  obtain ⟨-, -, r3, r4, -, r6⟩ := hr
  unfold JAt at hj
  obtain ⟨na, nc, ia, ic, rfl, h2, h3, h4, h5⟩ := hj
  obtain ⟨nl, hnl⟩ : ∃ nl, nl = ns.length := ⟨_, rfl⟩
  obtain ⟨il, hil⟩ : ∃ il, il = its.length := ⟨_, rfl⟩
  obtain ⟨tb, htb⟩ : ∃ tb, tb = nmB t := ⟨_, rfl⟩
  rw [← hnl, ← hil, ← htb]
  rw [← hnl] at r3
  rw [← hil] at r4
  obtain ⟨D, HD⟩ : ∃ D : Nat, Hid (D = depJ (.mk k n t ns its)) := ⟨depJ (.mk k n t ns its), (Eq.refl _ : depJ (.mk k n t ns its) = _)⟩
  rw [← HD.out]
  have HDD : Hid (D = if k = 5 ∨ k = 6 then depL its + 1 else 0) := by rw [Hid, HD.out]; unfold depJ; rfl
  have HIH : Hid ((∀ x ∈ its, SpecD x) ∧ Rngs its ∧ its.length = il ∧ D ≤ 1000) := ⟨IH, r6, hil.symm, by rw [HD.out]; exact hdep⟩
  have HII : Hid (ItAt w S ia 0 its ∧ ∀ a, ia = some a → its ≠ [] → S a.block) := ⟨h5, h4⟩
  clear IH r6 hnl hil htb h2 h3 h4 h5 HD hdep
  obtain ⟨w1, Hw1⟩ : ∃ w1, Hid (w1 = w.alloc (.cells #[.int .i64 k, .int .i64 n, .string tb, .slice na nl nc, .slice ia il ic] 26)) := ⟨_, rfl⟩
  obtain ⟨ga, Hga⟩ : ∃ ga, Hid (ga = w.heap.size) := ⟨_, rfl⟩
  have hb1 : Below w.heap.size w w1 := by rw [Hw1.out]; exact below_new _ _
  have HBk : Blk w1 ga #[.int .i64 k, .int .i64 n, .string tb, .slice na nl nc, .slice ia il ic] 26 := by rw [Hw1.out, Hga.out]; exact Blk.new _ _ _
  have HB1 : Hid (Below w.heap.size w w1) := hb1
  obtain ⟨x0, x1, x2, x3, x4, -⟩ := Blk.five HBk
  clear hb1 HBk
  unfold jC
  go_enter Tryd.func16, Tryd.ntmps16
  go_upto_region 1 with fail
  rw [← Hw1.out, ← Hga.out]
  clear Hw1 Hga
  by_cases hk : k = 5 ∨ k = 6
  · have HD2 : Hid (D = depL its + 1 ∧ depL its ≤ 999) := by
      have h := HDD.out
      rw [if_pos hk] at h
      exact ⟨h, by have := HIH.out.2.2.2; omega⟩
    clear HDD
    rcases hk with rfl | rfl
    all_goals
      go_wp2
      go_loopw [3, 18] (fun x i wr => ∃ (j : Nat), j ≤ il ∧ x = .int .i64 (depL (its.take j) : Int) ∧ i = .int .i64 (j : Int) ∧ Hid (Below w.heap.size w wr)) (fun _ i _ => il - (intOf i).toNat)
      case atStart => exact ⟨0, Nat.zero_le _, by rw [List.take_zero, depL_nil]; rfl, rfl, HB1⟩
      case round =>
        clear HB1 x0 x1 x2 x3 x4
        obtain ⟨j, hj, rfl, rfl, HI⟩ := hrel
        obtain ⟨dd, Hdd⟩ : ∃ dd : Nat, Hid (dd = depL (its.take j)) := ⟨_, rfl⟩
        have hdd : dd ≤ 999 := by rw [Hdd.out]; exact Nat.le_trans (depL_take_le its j) HD2.out.2
        rw [← Hdd.out]
        by_cases hlt : j < il
        · have hkl : j < its.length := by rw [HIH.out.2.2.1]; exact hlt
          obtain ⟨b, off, cs, rfl, h5, hcell, hj2⟩ := ItAt.get its 0 j hkl (HII.out.1.below HII.out.2 HI.out)
          obtain ⟨xk, xn, xt, xa, xl, xc, ya, yl, yc, hcs⟩ := JAt.cs hj2
          subst hcs
          simp only [Nat.zero_add] at hcell
          have q0 := hcell 0 _ rfl
          have q1 := hcell 1 _ rfl
          have q2 := hcell 2 _ rfl
          have q3 := hcell 3 _ rfl
          have q4 := hcell 4 _ rfl
          simp only [Nat.add_zero] at q0
          obtain ⟨w1, Hw1⟩ : ∃ w1, Hid (w1 = wr.alloc (.cells #[.int .i64 xk, .int .i64 xn, .string xt, .slice xa xl xc, .slice ya yl yc] 26)) := ⟨_, rfl⟩
          obtain ⟨g, Hg⟩ : ∃ g, Hid (g = wr.heap.size) := ⟨_, rfl⟩
          have hb1 : Below wr.heap.size wr w1 := by rw [Hw1.out]; exact below_new _ _
          have HBk : Hid (Blk w1 g #[.int .i64 xk, .int .i64 xn, .string xt, .slice xa xl xc, .slice ya yl yc] 26) := by rw [Hid, Hw1.out, Hg.out]; exact Blk.new _ _ _
          obtain ⟨x0, x1, x2, x3, x4, -⟩ := Blk.five HBk.out
          have HB1 : Hid (Below w.heap.size w w1) := HI.out.trans (hb1.mono HI.out.size)
          have hle := depL_le hkl
          have HC := HIH.out.1 _ (List.getElem_mem hkl) w1 S _ (Rngs.mem HIH.out.2.1 _ (List.getElem_mem hkl)) (by have := HD2.out; omega) (hj2.below hb1)
          obtain ⟨de, Hde⟩ : ∃ de : Nat, Hid (de = depJ its[j]) := ⟨depJ its[j], (Eq.refl _ : depJ its[j] = _)⟩
          rw [← Hde.out] at HC hle
          have hde : de ≤ 999 := by have := HD2.out.2; omega
          have HNX : Hid (depL (its.take (j + 1)) = max dd de) := by rw [Hid, Hdd.out, Hde.out]; exact depL_take hkl
          clear hcell hj2 hb1 HI hle Hdd Hde
          go_upto_region 7 with fail
          rw [← Hw1.out, ← Hg.out]
          clear Hw1 Hg q0 q1 q2 q3 q4
          go_wp2_with fail
          refine HC.mono ?_
          clear HC
          rintro e w2 ⟨rfl, hb2⟩
          have HB2 : Hid (Below w.heap.size w w2) := HB1.out.trans (hb2.mono HB1.out.size)
          clear hb2 x0 x1 x2 x3 x4
          by_cases hgt : dd < de
          · have HE : Hid (depL (its.take (j + 1)) = de) := by rw [Hid, HNX.out]; omega
            clear HNX
            go_wp2
            go_roundw
            case rel => exact ⟨j + 1, by omega, by rw [HE.out], by go_num, HB2⟩
            case measure => simp [intOf]; omega
          · have HE : Hid (depL (its.take (j + 1)) = dd) := by rw [Hid, HNX.out]; omega
            clear HNX
            go_wp2
            go_roundw
            case rel => exact ⟨j + 1, by omega, by rw [HE.out], by go_num, HB2⟩
            case measure => simp [intOf]; omega
        · have HE : Hid (D = dd + 1) := by
            rw [Hid, HD2.out.1, Hdd.out, List.take_of_length_le (by rw [HIH.out.2.2.1]; omega)]
          clear Hdd
          go_wp2
          go_ret
          exact ⟨by rw [HE.out]; go_num, HI.out⟩
  · have HD2 : Hid (D = 0) := by
      have h := HDD.out
      rw [if_neg hk] at h
      exact h
    have hk5 : k ≠ 5 := fun e => hk (.inl e)
    have hk6 : k ≠ 6 := fun e => hk (.inr e)
    have hn : ¬ ((k != 5) = false ∨ (k != 6) = false) := by
      rintro (h | h)
      · exact hk5 (by simpa using h)
      · exact hk6 (by simpa using h)
    clear HDD hk
    go_wp2
    go_ret
    exact ⟨by rw [HD2.out]; rfl, HB1.out⟩
mutual
theorem specD : ∀ v : Js, SpecD v
  | .mk k n t ns its => deep_of k n t ns its (specDs its)
theorem specDs : ∀ its : List Js, ∀ x ∈ its, SpecD x
  | [], x, hx => by cases hx
  | y :: ys, x, hx => by
    rcases List.mem_cons.1 hx with h | h
    · rw [h]; exact specD y
    · exact specDs ys x h
end
end Go.Proofs.YtelhgjepjieocaaDoor

/- Layer 18 (json): strings.Clone, copyNames. -/
namespace Go.Proofs.YtelhgjepjieocaaDoor
open Go.RowKit Go.MapKept Go.Sort
set_option linter.unusedVariables false

theorem cloneS_calls (s : ByteArray) (w : World) (hs : s.size ≤ 281474976710656) : Calls Tryd.prog 35 #[.string s] w fun e w' => e = .returned (.string s) ∧ Below w.heap.size w w' := by
  have HC := Tryd.stringslite_Clone s w hs
  go_enter Tryd.func35, Tryd.ntmps35
  go_wp2_with fail
  refine HC.mono ?_
  rintro e w1 ⟨rfl, hb⟩
  have HB : Hid (Below w.heap.size w w1) := hb
  clear hb HC
  go_wp2
  go_ret
  exact ⟨rfl, HB.out⟩
theorem getD_map (ns : List (List UInt8)) (j : Nat) (hj : j < ns.length) : (ns.map nmB).getD j ByteArray.empty = nmB ns[j] := by
  simp [List.getD, hj]
theorem cloneNames_calls (na : Option Addr) (nl nc : Nat) (ns : List (List UInt8)) (w : World) (hnl : ns.length = nl) (hb : nl ≤ 8796093021952) (hv : VAt w na (ns.map strV)) :
    Calls Tryd.prog 54 #[.slice na nl nc] w fun e w' => ∃ v', e = .returned v' ∧ Ow w' w.heap.size 9 v' (ns.map strV) ∧ Below w.heap.size w w' := by
  cases na with
  | none =>
    have h0 : ns = [] := by
      cases ns with
      | nil => rfl
      | cons t ns =>
        obtain ⟨b, off, e, _⟩ := hv 0 (by simp)
        cases e
    subst h0
    refine (Tryd.slices_Clone_string_nil nl nc w).mono ?_
    rintro e w' ⟨rfl, rfl⟩
    exact ⟨_, rfl, Ow.nil _ _ _, Below.refl _ _⟩
  | some a =>
    by_cases h0 : ns = []
    · subst h0
      have hz : nl = 0 := hnl.symm
      subst hz
      refine (Tryd.slices_Clone_string_zero a nc w).mono ?_
      rintro e w' ⟨v', rfl, ho, _, hbb⟩
      exact ⟨_, rfl, ho, hbb⟩
    · obtain ⟨b, off, e, _⟩ := hv 0 (by rw [List.length_map]; exact List.length_pos_iff.2 h0)
      obtain rfl := Option.some.inj e
      refine (Tryd.slices_Clone_string b off nl nc (ns.map nmB) w (by rw [List.length_map]; omega) (by omega) ?_).mono ?_
      · intro j hj
        rw [List.length_map] at hj
        obtain ⟨b2, off2, e2, hc⟩ := VAt.str hv hj
        simp only [Option.some.injEq, Addr.mk.injEq, and_true] at e2
        obtain ⟨rfl, rfl⟩ := e2
        rw [getD_map ns j hj]
        exact hc
      · rintro e w' ⟨v', rfl, ho, _, hbb⟩
        refine ⟨_, rfl, ?_, hbb⟩
        have hm : ((ns.map nmB).take nl).map Value.string = ns.map strV := by
          rw [List.take_of_length_le (by rw [List.length_map]; omega), List.map_map]; rfl
        rw [hm] at ho
        unfold Ow
        rw [List.length_map, hnl]
        exact ho
set_option maxRecDepth 100000 in
set_option maxHeartbeats 4000000 in
theorem copyNames_calls (na : Option Addr) (nl nc : Nat) (ns : List (List UInt8)) (w : World) (hnl : ns.length = nl) (hb : nl ≤ 8796093021952) (hsz : ∀ t ∈ ns, t.length ≤ 140737488355328) (hv : VAt w na (ns.map strV)) :
    Calls Tryd.prog 37 #[.slice na nl nc] w fun e w' => ∃ v', e = .returned v' ∧ Ow w' w.heap.size 9 v' (ns.map strV) ∧ Below w.heap.size w w' := by
  have HC := cloneNames_calls na nl nc ns w hnl hb hv
  have HNS : Hid (ns.length = nl ∧ ∀ t ∈ ns, t.length ≤ 140737488355328) := ⟨hnl, hsz⟩
  clear hv hsz hnl
  go_enter Tryd.func37, Tryd.ntmps37
  go_wp2_with fail
  refine HC.mono ?_
  clear HC
  rintro e w1 ⟨v1, rfl, ho1, hb1⟩
  obtain ⟨a1, c1, rfl, -, -, -⟩ := ho1.shape
  rw [List.length_map, HNS.out.1] at ho1 ⊢
  have HO : Hid (Ow w1 w.heap.size 9 (.slice a1 nl c1) (ns.map strV) ∧ Below w.heap.size w w1) := ⟨ho1, hb1⟩
  clear ho1 hb1
  go_wp2
  go_loopw [4, 5, 10] (fun x y i wr => ∃ k : Nat, k ≤ nl ∧ i = .int .i64 (k : Int) ∧ Hid (Ow wr w.heap.size 9 (.slice a1 nl c1) (ns.map strV) ∧ Below w.heap.size w wr)) (fun _ _ i _ => nl - (intOf i).toNat)
  case atStart => exact ⟨0, Nat.zero_le _, rfl, HO.out⟩
  case round =>
    clear HO
    obtain ⟨k, hk, rfl, HO⟩ := hrel
    by_cases hlt : k < nl
    · have hkn : k < ns.length := by rw [HNS.out.1]; exact hlt
      obtain ⟨g, rfl, hc, hf⟩ := HO.out.1.at k (by rw [List.length_map]; exact hkn)
      rw [List.getElem_map] at hc
      obtain ⟨s, Hs⟩ : ∃ s : ByteArray, Hid (s = nmB ns[k] ∧ s.size ≤ 281474976710656) := ⟨_, rfl, by
        have := HNS.out.2 _ (List.getElem_mem hkn)
        show ns[k].toArray.size ≤ _
        simp; omega⟩
      unfold strV at hc
      rw [← Hs.out.1] at hc
      have HCL := cloneS_calls s wr Hs.out.2
      go_wp2_with fail
      refine HCL.mono ?_
      clear HCL
      rintro e w2 ⟨rfl, hb2⟩
      have HO2 : Hid (Ow w2 w.heap.size 9 (.slice (some ⟨g, 0, none⟩) nl c1) (ns.map strV) ∧ Below w.heap.size w w2) := ⟨HO.out.1.below hb2, HO.out.2.trans (hb2.mono HO.out.2.size)⟩
      obtain ⟨g2, e2, hc2, hf2⟩ := HO2.out.1.at k (by rw [List.length_map]; exact hkn)
      simp only [Option.some.injEq, Addr.mk.injEq, and_true] at e2
      obtain rfl := e2
      have HN : Hid (Ow (w2.setCell ⟨g, k, none⟩ (.string s)) w.heap.size 9 (.slice (some ⟨g, 0, none⟩) nl c1) (ns.map strV) ∧ Below w.heap.size w (w2.setCell ⟨g, k, none⟩ (.string s))) := by
        have h1 := HO2.out.1.stored k (.string s)
        have h2 : (ns.map strV).set k (.string s) = ns.map strV := by
          have h3 : (ns.map strV)[k]'(by rw [List.length_map]; exact hkn) = .string s := by rw [List.getElem_map, Hs.out.1]; rfl
          rw [← h3, List.set_getElem_self]
        rw [h2] at h1
        exact ⟨h1, HO2.out.2.setCell (HO2.out.1.lt g rfl).1 _⟩
      clear hb2 HO HO2 hc hf
      go_wp2
      go_roundw
      case rel => exact ⟨k + 1, by omega, by go_num, HN⟩
      case measure => simp [intOf]; omega
    · go_wp2
      go_ret
      exact ⟨_, rfl, HO.out.1, HO.out.2⟩
end Go.Proofs.YtelhgjepjieocaaDoor
