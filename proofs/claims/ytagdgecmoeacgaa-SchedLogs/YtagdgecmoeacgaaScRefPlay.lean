/- Layer 17 (sched): the document's Play. -/
import Derived.Test.YtagdgecmoeacgaaScDcM
import Derived.Test.YtagdgecmoeacgaaScDoneM
import Derived.Test.YtagdgecmoeacgaaScRuns
namespace Go.Proofs.Ytagdgecmoeacgaa
open Go.RowKit
set_option linter.unusedVariables false
variable {S S' : Nat → Prop}

def dnV (x : Wk) : Value := .int .i64 (x.done : Int)
def slL : Value → Nat
  | .slice _ n _ => n
  | _ => 0
/-- Between two rounds of the document's Play. -/
structure PdI (w : World) (S : Nat → Prop) (mb g n : Nat) (js : List (Int × Int)) (s : St) (dv : Value) (po : Option Addr) (pc : Nat) (ho : Option Addr) (hc : Nat) (H : List He) (wr : World) : Prop where
  dc : DcI w S mb s.c po pc ho hc H wr
  wk : Ow wr w.heap.size 3 (.slice (some ⟨g, 0, none⟩) n n) (s.ws.map dnV)
  sg : S g
  dn : Ow wr w.heap.size 3 dv (s.D.map nV)
  sd : ∀ k, dv.ownBlock = some k → S k ∧ k ≠ g
  jb : s.ws.map (fun x => (x.start, x.work)) = js
  ok : Okc s.c s.D.length
  al : s.c.ages.length ≤ 1048576
  rf : RefR s.c H
  hl : H.length = s.D.length
  dl : ∀ x ∈ s.ws, x.done ≤ s.D.length

set_option maxRecDepth 100000 in
set_option maxHeartbeats 4000000 in
theorem refPlay_calls (w : World) (jo : Option Addr) (jn jc : Nat) (js : List (Int × Int)) (ao : Option Addr) (pn cap : Nat) (ps : List Int) (bound most : Int) (mx : Nat)
    (hj : JbAt w jo js) (hjn : js.length = jn) (hjl : jn ≤ 1048576) (hp : VAt w ao (ps.map iV)) (hpn : ps.length = pn) (hpl : pn ≤ 17592186044416) (hpcap : pn ≤ cap) (hpr : ∀ p ∈ ps, -9223372036854775808 ≤ p ∧ p ≤ 9223372036854775807) (hb2 : bound ≤ 9223372036854775807)
    (hm : most.toNat = mx) (hmx : mx ≤ 1048576) :
    Calls Try.prog 7 #[.slice jo jn jc, .slice ao pn cap, .int .i64 bound, .int .i64 most] w fun e w' => (∃ v, e = .returned v ∧ Ow w' w.heap.size 3 v ((playP ps (max bound 1) js mx).map nV)) ∧ Below w.heap.size w w' := by
  have HJ : Hid (JbAt w jo js) := hj
  have HP : Hid (VAt w ao (ps.map iV) ∧ pn ≤ cap) := ⟨hp, hpcap⟩
  have HL : Hid (js.length = jn ∧ ps.length = pn) := ⟨hjn, hpn⟩
  have HPR : Hid (∀ p ∈ ps, -9223372036854775808 ≤ p ∧ p ≤ 9223372036854775807) := hpr
  have HM : Hid (most.toNat = mx) := hm
  have HB : Hid (max bound 1 ≤ 9223372036854775807 ∧ 1 ≤ max bound 1) := ⟨by omega, by omega⟩
  have HRN := refNew_calls w ao pn cap bound
  obtain ⟨bd, Hbd⟩ : ∃ bd, Hid (bd = max bound 1) := ⟨_, rfl⟩
  rw [← Hbd.out] at HB HRN ⊢
  clear hj hp hjn hpn hpr hm hb2 hpcap
  go_enter Try.func7, Try.ntmps7
  go_wp2_with fail
  refine HRN.mono ?_
  clear HRN
  rintro e w1 ⟨rfl, hb1⟩
  obtain ⟨W2, HW2⟩ : ∃ W, Hid (W = w1.alloc (.cells #[.slice ao pn cap, .int .i64 bd, .slice none 0 0] 50)) := ⟨_, rfl⟩
  obtain ⟨W3, HW3⟩ : ∃ W, Hid (W = W2.alloc (.cells #[] 3)) := ⟨_, rfl⟩
  obtain ⟨w4, hmk, ho4, hb4⟩ := make_int W3 jn (by omega)
  obtain ⟨g, Hg⟩ : ∃ g, Hid (g = W3.heap.size) := ⟨_, rfl⟩
  rw [← Hg.out] at hmk ho4
  rw [HW3.out, HW2.out] at hmk
  obtain ⟨mb, Hmb⟩ : ∃ mb, Hid (mb = w1.heap.size) := ⟨_, rfl⟩
  have hs2 : W2.heap.size = mb + 1 := by rw [HW2.out, Hmb.out]; simp [World.size_alloc]
  have hs3 : g = mb + 2 := by rw [Hg.out, HW3.out]; simp [World.size_alloc, hs2]
  have hb12 : Below w1.heap.size w1 w4 := by
    have h1 : Below w1.heap.size w1 W2 := by rw [HW2.out]; exact below_alloc _ _
    have h2 : Below W2.heap.size W2 W3 := by rw [HW3.out]; exact below_alloc _ _
    exact h1.trans ((h2.mono h1.size).trans (hb4.mono (Nat.le_trans h1.size h2.size)))
  have h4g := (ho4.lt g rfl).2
  have h1s := hb1.size
  have HI : Hid (PdI w (fun k => k = g ∨ k = mb + 1) mb g jn js (st0 ps bd js) (.slice (some ⟨mb + 1, 0, none⟩) 0 0) ao cap none 0 [] w4) := by
    refine ⟨⟨hb1.trans (hb12.mono h1s), fun k hk => by omega, fun k hk => by rw [← Hmb.out] at h1s; omega, ?_, by rw [Hmb.out]; exact h1s, fun h => by omega, HP.out.1, HP.out.1.old, by show ps.length ≤ cap; rw [HL.out.2]; exact HP.out.2, fun k hk => by simp at hk, fun a e => (by cases e), fun y hy => (by cases hy), (by simp), fun _ => rfl, fun y hy => (by cases hy)⟩, ?_, .inl rfl, ?_, fun k e => ?_, ?_, ?_, by simp [st0], RefR.new _ _, rfl, fun x hx => ?_⟩
    · have h2 : Below W2.heap.size W2 w4 := by
        have h2 : Below W2.heap.size W2 W3 := by rw [HW3.out]; exact below_alloc _ _
        exact h2.trans (hb4.mono h2.size)
      refine (h2.block mb (by omega)).trans ?_
      rw [HW2.out, Hmb.out]
      have := heap_alloc_new w1 (.cells #[.slice ao pn cap, .int .i64 bd, .slice none 0 0] 50)
      rw [this]
      simp [st0, HL.out.2]
    · have e : (st0 ps bd js).ws.map dnV = List.replicate jn (.int .i64 0) := by
        rw [← HL.out.1]
        apply List.ext_getElem (by simp [st0])
        intro i h1 h2
        simp [st0, dnV]
      rw [e]
      exact ho4.mono (by have := Hmb.out; omega)
    · have h0 : Ow W3 W2.heap.size 3 (.slice (some ⟨W2.heap.size, 0, none⟩) 0 0) [] := by rw [HW3.out]; exact emptyI W2
      rw [hs2] at h0
      exact (h0.below hb4).mono (by have := Hmb.out; omega)
    · simp [Value.ownBlock] at e
      exact ⟨.inr e.symm, by omega⟩
    · simp [st0, Function.comp_def]
    · exact ⟨HB.out.2, HB.out.1, by show (-1 : Int) ≤ -1; omega, by show (-1 : Int) ≤ _; omega, HPR.out, by show ps.length ≤ _; rw [HL.out.2]; omega, by simp [st0]⟩
    · obtain ⟨j, _, rfl⟩ := List.mem_map.1 hx
      exact Nat.le_refl _
  clear HW2 HW3 ho4 hb4 hb12 hb1 h4g h1s hs2 hs3
  go_wp2
  rw [← Hmb.out]
  clear hmk
  go_loopw [10] (fun v wr => ∃ (k : Nat) (S : Nat → Prop) (s : St) (po ho : Option Addr) (pc hc : Nat) (H : List He) (da : Option Addr) (dc : Nat), k ≤ mx ∧ v = .slice da k dc ∧ Hid (s = runR k (st0 ps bd js) ∧ s.D.length = k) ∧ Hid (PdI w S mb g jn js s (.slice da k dc) po pc ho hc H wr)) (fun v _ => mx - slL v)
  case atStart => exact ⟨0, _, st0 ps bd js, _, _, _, _, _, _, _, Nat.zero_le _, rfl, ⟨rfl, rfl⟩, HI⟩
  case round =>
    clear HI
    obtain ⟨k, S, s, po, ho, pc, hc, H, da, dc, hk, rfl, HS, HI⟩ := hrel
    by_cases hlt : k < mx
    · have h1 : (k : Int) < most := by have := HM.out; omega
      have HLw : Hid (s.ws.length = jn) := by have := congrArg List.length HI.out.jb; rw [List.length_map] at this; exact this.trans HL.out.1
      obtain ⟨w0, Hw0⟩ : ∃ w0, Hid (w0 = wr) := ⟨_, rfl⟩
      rw [← Hw0.out] at HI ⊢
      obtain ⟨r, Hr⟩ : ∃ r, Hid (r = rdyP s.ws s.D) := ⟨_, rfl⟩
      have HRl : Hid (r.length = jn) := by have := rdyP_length s.ws s.D; rw [← Hr.out] at this; exact this.trans HLw.out
      go_wp2_with fail
      go_loopw [12, 30] (fun v i wr => ∃ (j : Nat) (ra : Option Addr) (rc : Nat), j ≤ jn ∧ i = .int .i64 (j : Int) ∧ v = .slice ra j rc ∧ Hid (Below w0.heap.size w0 wr ∧ Ow wr w0.heap.size 4 (.slice ra j rc) ((r.take j).map bV))) (fun _ i _ => jn - (intOf i).toNat)
      case atStart => exact ⟨0, _, 0, Nat.zero_le _, rfl, rfl, below_alloc _ _, emptyB w0 _⟩
      case round =>
        obtain ⟨j, ra, rc, hj, rfl, rfl, HR⟩ := hrel
        by_cases hjn : j < jn
        · have hjs : j < js.length := by rw [HL.out.1]; exact hjn
          have hjw : j < s.ws.length := by rw [HLw.out]; exact hjn
          have HBw : Hid (Below w.heap.size w wr) := HI.out.dc.below.trans (HR.out.1.mono HI.out.dc.below.size)
          obtain ⟨b, off, rfl, hc0, hc1⟩ := (HJ.out.below HBw.out) j hjs
          obtain ⟨x, Hx⟩ : ∃ x, Hid (x = s.ws[j]'hjw) := ⟨_, rfl⟩
          have hjx : js[j]'hjs = (x.start, x.work) := by
            have h2 : (s.ws.map (fun x => (x.start, x.work)))[j]? = js[j]? := by rw [HI.out.jb]
            rw [List.getElem?_map, List.getElem?_eq_getElem hjw, List.getElem?_eq_getElem hjs, ← Hx.out] at h2
            exact (Option.some.inj h2).symm
          rw [hjx] at hc0 hc1
          dsimp only at hc0 hc1
          obtain ⟨xs, Hxs⟩ : ∃ z, Hid (z = x.start) := ⟨_, rfl⟩
          obtain ⟨xw, Hxw⟩ : ∃ z, Hid (z = x.work) := ⟨_, rfl⟩
          obtain ⟨xd, Hxd⟩ : ∃ z, Hid (z = x.done) := ⟨_, rfl⟩
          rw [← Hxs.out] at hc0
          rw [← Hxw.out] at hc1
          have hwc : wr.cell? ⟨g, j, none⟩ = some (.int .i64 (xd : Int)) := by
            obtain ⟨g', e, hcx, hfx⟩ := (HI.out.wk.below HR.out.1).at j (by rw [List.length_map]; exact hjw)
            simp only [Option.some.injEq, Addr.mk.injEq, and_true] at e
            subst e
            rw [hcx, List.getElem_map, ← Hx.out, dnV, ← Hxd.out]
          have HRt : Hid (∀ bb, bb = (decide (xs ≤ (k : Int)) && decide ((xd : Int) < xw)) → r.take j ++ [bb] = r.take (j + 1)) := fun bb e => by
            have hjr : j < r.length := by rw [HRl.out]; exact hjn
            rw [List.take_succ_eq_append_getElem hjr, e]
            congr 2
            have h3 : r[j]? = some (decide (x.start ≤ (s.D.length : Int)) && decide ((x.done : Int) < x.work)) := by
              rw [Hr.out, rdyP, List.getElem?_map, List.getElem?_eq_getElem hjw, ← Hx.out]; rfl
            rw [List.getElem?_eq_getElem hjr, HS.out.2, ← Hxs.out, ← Hxw.out, ← Hxd.out] at h3
            exact (Option.some.inj h3).symm
          clear hjx Hx Hxs Hxw Hxd hjs hjw
          have HU : Hid (∀ bb : Bool, Ow (((wr.alloc (.cells #[.int .i64 xs, .int .i64 xw] 32)).alloc (.cells #[.bool bb] 4)).drew) w0.heap.size 4 (.slice ra j rc) ((r.take j).map bV) ∧ VAt (((wr.alloc (.cells #[.int .i64 xs, .int .i64 xw] 32)).alloc (.cells #[.bool bb] 4)).drew) (some ⟨wr.heap.size + 1, 0, none⟩) [.bool bb] ∧ Below w0.heap.size w0 (((wr.alloc (.cells #[.int .i64 xs, .int .i64 xw] 32)).alloc (.cells #[.bool bb] 4)).drew)) := fun bb => by
            have hb1 : Below wr.heap.size wr (wr.alloc (.cells #[.int .i64 xs, .int .i64 xw] 32)) := below_alloc _ _
            have hb2 : Below wr.heap.size wr (((wr.alloc (.cells #[.int .i64 xs, .int .i64 xw] 32)).alloc (.cells #[.bool bb] 4)).drew) := (hb1.alloc hb1.size _).drew
            have hv := (VAt.new (wr.alloc (.cells #[.int .i64 xs, .int .i64 xw] 32)) [.bool bb] 4).drew
            rw [World.size_alloc] at hv
            exact ⟨HR.out.2.below hb2, hv, HR.out.1.trans (hb2.mono HR.out.1.size)⟩
          have HZ : Hid (w0.heap.size ≤ wr.heap.size) := HR.out.1.size
          have HN : Hid (∀ bb v5 w5, bb = (decide (xs ≤ (k : Int)) && decide ((xd : Int) < xw)) → Ow w5 w0.heap.size 4 v5 ((r.take j).map bV ++ [.bool bb]) → Grew (((wr.alloc (.cells #[.int .i64 xs, .int .i64 xw] 32)).alloc (.cells #[.bool bb] 4)).drew) w5 (.slice ra j rc) v5 → ∃ a5 c5, v5 = .slice a5 (j + 1) c5 ∧ Hid (Below w0.heap.size w0 w5 ∧ Ow w5 w0.heap.size 4 (.slice a5 (j + 1) c5) ((r.take (j + 1)).map bV))) := fun bb v5 w5 hbb ho hg => by
            have h1 := HRt.out bb hbb
            have h2 : (r.take j).map bV ++ [.bool bb] = (r.take (j + 1)).map bV := by rw [← h1, List.map_append]; rfl
            rw [h2] at ho
            obtain ⟨a5, c5, e5, -⟩ := ho.shape
            have h3 : ((r.take (j + 1)).map bV).length = j + 1 := by rw [List.length_map, List.length_take, HRl.out]; omega
            rw [h3] at e5
            subst e5
            exact ⟨a5, c5, rfl, app_below (HU.out bb).2.2 hg (fun i hi => (HR.out.2.lt i hi).1), ho⟩
          have hjl : ((r.take j).map bV).length = j := by rw [List.length_map, List.length_take, HRl.out]; omega
          have hwc2 : (wr.alloc (.cells #[.int .i64 xs, .int .i64 xw] 32)).cell? ⟨g, j, none⟩ = some (.int .i64 (xd : Int)) := by
            rw [World.cell?_of_block (a := ⟨g, j, none⟩) ((below_alloc1 wr _).block g (World.block_lt_of_cell? wr ⟨g, j, none⟩ hwc))]
            exact hwc
          clear HR HRt hwc
          by_cases h41 : xs ≤ (k : Int)
          · go_wp2_with fail
            go_region_law (refine step_append_u _ (by rfl) (.tmp 35) (.tmp 50) 47 4 _ 1 Try.underlying47 info_bool rfl (by rfl) w0.heap.size (.slice ra j rc) ((r.take j).map bV) (by rfl) (HU.out (decide ((xd : Int) < xw))).1 ⟨wr.heap.size + 1, 0, none⟩ (.bool (decide ((xd : Int) < xw))) (by rfl) rfl (HU.out (decide ((xd : Int) < xw))).2.1 (by rw [hjl]; omega) (by rw [hjl]; omega) (by have := HZ.out; simp [World.size_alloc]; omega) ?_
                           intro v5 w5 ho5 hg5
                           obtain ⟨a5, c5, rfl, HX5⟩ := HN.out (decide ((xd : Int) < xw)) v5 w5 (by simp [h41]) ho5 hg5
                           clear ho5 hg5)
            all_goals
              clear HU HN HI
              go_wp2
              go_roundw
              case rel => exact ⟨j + 1, a5, c5, by omega, by go_num, rfl, HX5⟩
              case measure => simp [intOf]; omega
          · have hd : decide ((k : Int) ≥ xs) = false := decide_eq_false h41
            have hd2 : decide (xs ≤ (k : Int)) = false := decide_eq_false h41
            have hk2 : (k : Int) < xs := by omega
            go_wp2_with fail
            first | (go_region_law ((refine step_append_u _ (by rfl) (.tmp 35) (.tmp 50) 47 4 _ 1 Try.underlying47 info_bool rfl (by rfl) w0.heap.size (.slice ra j rc) ((r.take j).map bV) (by rfl) (HU.out false).1 ⟨wr.heap.size + 1, 0, none⟩ (.bool false) (by rfl) rfl (HU.out false).2.1 (by rw [hjl]; omega) (by rw [hjl]; omega) (by have := HZ.out; simp [World.size_alloc]; omega) ?_; intro v5 w5 ho5 hg5; obtain ⟨a5, c5, rfl, HX5⟩ := HN.out false v5 w5 (by rw [hd2]; rfl) ho5 hg5; clear ho5 hg5))) | fail "law"
            all_goals
              clear HU HN HI
              go_wp2
              go_roundw
              case rel => exact ⟨j + 1, a5, c5, by omega, by go_num, rfl, HX5⟩
              case measure => simp [intOf]; omega
        · have hje : j = jn := by omega
          subst hje
          have hRt : r.take j = r := List.take_of_length_le (by rw [HRl.out]; exact Nat.le_refl _)
          obtain ⟨ra', rc', e, hv, hq, hn⟩ := HR.out.2.shapeB (l := r) (n := j) (by rw [hRt]) HRl.out
          cases e
          have HD1 : Hid (DcI w S mb s.c po pc ho hc H wr) := HI.out.dc.more HR.out.1
          have HHl : Hid (H.length = k) := HI.out.hl.trans HS.out.2
          have hmx1 := HD1.out.mbx
          rw [HHl.out] at hmx1
          have m0 : wr.cell? ⟨mb, 0, none⟩ = some (.slice po s.c.picks.length pc) := by rw [cell_blkT hmx1]; rfl
          have m1 : wr.cell? ⟨mb, 1, none⟩ = some (.int .i64 s.c.bound) := by rw [cell_blkT hmx1]; rfl
          have m2 : wr.cell? ⟨mb, 2, none⟩ = some (.slice ho k hc) := by rw [cell_blkT hmx1]; rfl
          have HRX : Calls Try.prog 18 #[.agg #[.slice po s.c.picks.length pc, .int .i64 s.c.bound, .slice ho k hc], .slice ra j rc] wr (RefQ wr w.heap.size s.c.bound (nextP s.c r) H r) :=
            refNext_calls wr w.heap.size s.c k po s.c.picks.length pc ho k hc H ra j rc r (by have := HI.out.ok; rw [HS.out.2] at this; exact this) HI.out.rf rfl (HD1.out.pk.below HD1.out.below) HD1.out.room HD1.out.hs HHl.out (by have := HD1.out.hcap; rw [HHl.out] at this; exact this) HD1.out.hnil (by omega) HD1.out.rl hv HRl.out (by omega) hn HD1.out.old HD1.out.below.size
          have HWD : Hid (Ow wr w.heap.size 3 (.slice (some ⟨g, 0, none⟩) j j) (s.ws.map dnV) ∧ Ow wr w.heap.size 3 (.slice da k dc) (s.D.map nV)) := ⟨HI.out.wk.below HR.out.1, HI.out.dn.below HR.out.1⟩
          obtain ⟨q, Hq⟩ : ∃ q, Hid (q = nextP s.c r) := ⟨_, rfl⟩
          rw [← Hq.out] at HRX
          clear hv hq hn HR
          go_wp2_with fail
          refine HRX.mono ?_
          clear HRX
          rintro e w6 ⟨po', pc', ho', hc', x, rfl, hv6, hpc6, hH6, hxr, hxc, hhn6, hhc6, hb6, hold6, hho6, hxo6⟩
          rw [HHl.out]
          have hho0 : ∀ a, ho' = some a → a.block < w6.heap.size := fun a e => by
            obtain ⟨b1, o1, e1, c1, -⟩ := hH6 0 (by simp)
            rw [e1] at e
            cases e
            exact World.block_lt_of_cell? w6 ⟨b1, o1 + 0 * 2, none⟩ c1
          obtain ⟨W, HW⟩ : ∃ W, Hid (W = ((w6.setCell ⟨mb, 0, none⟩ (.slice po' q.1.picks.length pc')).setCell ⟨mb, 1, none⟩ (.int .i64 s.c.bound)).setCell ⟨mb, 2, none⟩ (.slice ho' (k + 1) hc')) := ⟨_, rfl⟩
          have HOk : Hid (Okc q.1 (k + 1) ∧ q.1.ages.length ≤ 1048576 ∧ q.1.bound = s.c.bound) := by
            have h0 := HI.out.ok
            rw [HS.out.2] at h0
            rw [Hq.out]
            exact ⟨h0.next r (by rw [HRl.out]; omega), okc_al (by rw [HRl.out]; omega), next_bound s.c r⟩
          have HD : Hid (DcI w S mb q.1 po' pc' ho' hc' (H ++ [x]) W ∧ Ow W w.heap.size 3 (.slice (some ⟨g, 0, none⟩) j j) (s.ws.map dnV) ∧ Ow W w.heap.size 3 (.slice da k dc) (s.D.map nV)) := by
            have hF : Frm (fun k => k = mb) w6 W := by
              rw [HW.out]
              exact (((Frm.refl (fun k => k = mb) w6).setCell ⟨mb, 0, none⟩ _ (.inl rfl)).setCell ⟨mb, 1, none⟩ _ (.inl rfl)).setCell ⟨mb, 2, none⟩ _ (.inl rfl)
            refine ⟨HD1.out.doc hb6 hv6 hpc6 hH6 hhn6 hhc6 hold6 hho6 (fun a e => (hxo6 a e).1) (by rw [hxr, HRl.out]; omega) (fun a e => (hxo6 a e).2) hho0 (by rw [HHl.out, HOk.out.2.2]; exact HW.out), (HWD.out.1.below hb6).frm hF (fun i e hi => ?_), (HWD.out.2.below hb6).frm hF (fun i e hi => ?_)⟩
            · simp [Value.ownBlock] at e
              exact HI.out.dc.ng (by rw [← hi, ← e]; exact HI.out.sg)
            · exact HI.out.dc.ng (by rw [← hi]; exact (HI.out.sd i e).1)
          have HR2 : Hid (RefR q.1 (H ++ [x])) := by
            have := HI.out.rf
            rw [Hq.out] at hxc ⊢
            subst hxr
            exact this.next x hxc
          have hmx6 := (hb6.block mb (lt_of_heapT HD1.out.mbx)).trans HD1.out.mbx
          have n0 : w6.cell? ⟨mb, 0, none⟩ = some (.slice po s.c.picks.length pc) := by rw [cell_blkT hmx6]; rfl
          have n1 : w6.cell? ⟨mb, 1, none⟩ = some (.int .i64 s.c.bound) := by rw [cell_blkT hmx6]; rfl
          have n2 : w6.cell? ⟨mb, 2, none⟩ = some (.slice ho H.length hc) := by rw [cell_blkT hmx6]; rfl
          have nf : ∀ i, w6.frozen? ⟨mb, i, none⟩ = false := fun i => frozen_blkT hmx6
          obtain ⟨ci, Hci⟩ : ∃ ci, Hid (ci = chI q) := ⟨_, rfl⟩
          rw [← Hci.out]
          clear hv6 hpc6 hH6 hxr hxc hhn6 hhc6 hb6 hold6 hho6 hxo6 hho0 hmx6 hmx1 m0 m1 m2 HD1 HWD
          go_upto_region 13 with fail
          rw [← HW.out]
          clear HW n0 n1 n2 nf
          obtain ⟨d', gt, okk⟩ := q
          have HC0 : okk = decide (0 < r.count true) := by have := next_ok s.c r; rw [← Hq.out] at this; exact this
          dsimp only at HD HOk HR2
          cases okk with
          | false =>
            have hci : ci = -1 := Hci.out
            subst hci
            have HE : Hid (playP ps bd js mx = s.D) := by
              have e := HS.out.1
              have h1 : (rdyP (runR k (st0 ps bd js)).ws (runR k (st0 ps bd js)).D).count true = 0 := by
                rw [← e, ← Hr.out]
                have := of_decide_eq_false HC0.symm
                omega
              have h2 := runR_stop hk h1
              show (runR mx _).D = s.D
              rw [h2, ← e]
            clear HC0
            have HO : Hid (Ow W w.heap.size 3 (.slice da k dc) ((playP ps bd js mx).map nV)) := by
              rw [HE.out]
              exact HD.out.2.2
            clear HE
            go_wp2
            go_ret
            exact ⟨⟨_, rfl, HO.out⟩, HD.out.1.below⟩
          | true =>
            have hci : ci = (gt : Int) := Hci.out
            subst hci
            have h0 : ¬ (gt : Int) < 0 := by omega
            have hcnt : 0 < r.count true := of_decide_eq_true HC0.symm
            have hgr : gt < j ∧ r.getD gt false = true := by
              have := next_ready (c := s.c) hcnt
              rw [← Hq.out, HRl.out] at this
              exact this
            have hgw : gt < s.ws.length := by rw [HLw.out]; exact hgr.1
            have hgt := hgr.1
            obtain ⟨y, Hy⟩ : ∃ y, Hid (y = s.ws[gt]'hgw) := ⟨_, rfl⟩
            have hqq : W.cell? ⟨g, gt, none⟩ = some (.int .i64 (y.done : Int)) ∧ W.frozen? ⟨g, gt, none⟩ = false := by
              obtain ⟨g', e, hcx, hfx⟩ := HD.out.2.1.at gt (by rw [List.length_map]; exact hgw)
              simp only [Option.some.injEq, Addr.mk.injEq, and_true] at e
              subst e
              exact ⟨by rw [hcx, List.getElem_map, ← Hy.out, dnV], hfx⟩
            obtain ⟨hcx, hfx⟩ := hqq
            have hyd : y.done ≤ k := by have := HI.out.dl y (by rw [Hy.out]; exact List.getElem_mem hgw); rw [HS.out.2] at this; exact this
            obtain ⟨yd, Hyd⟩ : ∃ z, Hid (z = y.done) := ⟨_, rfl⟩
            rw [← Hyd.out] at hcx hyd
            have HGr : Hid (r.getD gt false = true ∧ 0 < r.count true) := ⟨hgr.2, hcnt⟩
            have HYa : Hid (s.ws[gt]? = some y) := by rw [Hy.out]; exact List.getElem?_eq_getElem hgw
            obtain ⟨W1, HW1⟩ : ∃ W1, Hid (W1 = W.setCell ⟨g, gt, none⟩ (.int .i64 ((yd : Int) + 1))) := ⟨_, rfl⟩
            have HV1 : Hid (Ow W1 w.heap.size 3 (.slice (some ⟨g, 0, none⟩) j j) ((bump s.ws gt).map dnV) ∧ Ow W1 w.heap.size 3 (.slice da k dc) (s.D.map nV) ∧ w.heap.size ≤ W1.heap.size ∧ W1.heap.size = W.heap.size) := by
              have hF1 : Frm (fun i => i = g) W W1 := by rw [HW1.out]; exact (Frm.refl (fun i => i = g) W).setCell ⟨g, gt, none⟩ _ (.inl rfl)
              have hsz : W1.heap.size = W.heap.size := by rw [HW1.out]; simp
              refine ⟨?_, HD.out.2.2.frm hF1 (fun i e hi => (HI.out.sd i e).2 hi), by rw [hsz]; exact HD.out.1.below.size, hsz⟩
              have h3 := HD.out.2.1.stored gt (.int .i64 ((yd : Int) + 1))
              rw [← HW1.out] at h3
              have h4 : dnV (up y) = .int .i64 ((yd : Int) + 1) := by rw [Hyd.out]; rfl
              rw [← h4, ← List.map_set, ← bump_at HYa.out] at h3
              exact h3
            have HF1 : Hid (Frm S W W1) := by rw [Hid, HW1.out]; exact (Frm.refl S W).setCell ⟨g, gt, none⟩ _ (.inl HI.out.sg)
            have HDl : Hid ((s.D.map nV).length = k) := by rw [Hid, List.length_map]; exact HS.out.2
            clear HC0 hcnt hgr Hy hgw
            go_wp2_with (at_builtin; go_must (refine append_u (W.setCell ⟨g, gt, none⟩ (.int .i64 ((yd : Int) + 1))) rfl (.tmp 68) (.tmp 70) 23 3 (.int .i64 0) 8 Try.underlying23 info_int rfl rfl w.heap.size (.slice da k dc) (s.D.map nV) rfl (nV gt) rfl W.heap.size rfl (by rw [← HW1.out]; exact HV1.out.2.2.2.symm) (by rw [← HW1.out]; exact HV1.out.2.1) (by rw [HDl.out]; omega) (by rw [HDl.out]; omega) (by rw [← HW1.out]; exact HV1.out.2.2.1) ?_))
            intro v5 w5 ho5 hg5
            rw [← HW1.out] at hg5
            have HFx : Hid (Frm S W w5) := HF1.out.trans ((Frm.ofGrewT hg5).weaken (fun i _ e => (HI.out.sd i e).1))
            have ho6 : Ow w5 w.heap.size 3 v5 ((s.D ++ [gt]).map nV) := by rw [List.map_append]; exact ho5
            obtain ⟨a5, c5, e5, -⟩ := ho6.shape
            have hl5 : ((s.D ++ [gt]).map nV).length = k + 1 := by rw [List.length_map, List.length_append, HS.out.2]; rfl
            rw [hl5] at e5
            subst e5
            have HSn : Hid ((⟨d', bump s.ws gt, s.D ++ [gt]⟩ : St) = runR (k + 1) (st0 ps bd js) ∧ (s.D ++ [gt]).length = k + 1) := by
              refine ⟨?_, by rw [List.length_append, HS.out.2]; rfl⟩
              rw [runR_last, ← HS.out.1]
              unfold stepR
              rw [if_pos (by rw [← Hr.out]; exact HGr.out.2), ← Hr.out, ← Hq.out]
            have HIn : Hid (∃ S', PdI w S' mb g j js ⟨d', bump s.ws gt, s.D ++ [gt]⟩ (.slice a5 (k + 1) c5) po' pc' ho' hc' (H ++ [x]) w5) := by
              have hgW := (HD.out.2.1.lt g rfl).2
              refine ⟨_, HD.out.1.step HFx.out, ?_, .inl HI.out.sg, ho6, fun i e => ?_, ?_, ?_, HOk.out.2.1, HR2.out, ?_, fun z hz => ?_⟩
              · exact HV1.out.1.frm (Frm.ofGrewT hg5) (fun i e hi => (HI.out.sd i hi).2 (by simp [Value.ownBlock] at e; exact e.symm))
              · have h6 := (ho6.lt i e).2
                rcases hg5.place i e with h7 | h7
                · exact ⟨.inl (HI.out.sd i h7).1, (HI.out.sd i h7).2⟩
                · rw [HV1.out.2.2.2] at h7
                  exact ⟨.inr ⟨h7, h6⟩, by omega⟩
              · rw [bump_at HYa.out, List.map_set]
                have h8 : (s.ws.map (fun x : Wk => (x.start, x.work)))[gt]? = some ((up y).start, (up y).work) := by rw [List.getElem?_map, HYa.out]; rfl
                obtain ⟨h9, h10⟩ := List.getElem?_eq_some_iff.1 h8
                rw [← h10, List.set_getElem_self]
                exact HI.out.jb
              · show Okc d' (s.D ++ [gt]).length
                rw [HSn.out.2]; exact HOk.out.1
              · show (H ++ [x]).length = (s.D ++ [gt]).length
                rw [HSn.out.2, List.length_append, HHl.out]; rfl
              · show z.done ≤ (s.D ++ [gt]).length
                rw [HSn.out.2]
                rcases bump_mem hz with h9 | ⟨u, h9, rfl⟩
                · have := HI.out.dl z h9; rw [HS.out.2] at this; omega
                · have := HI.out.dl u h9; rw [HS.out.2] at this; show u.done + 1 ≤ k + 1; omega
            obtain ⟨S', hIn⟩ := HIn.out
            have HIz : Hid (PdI w S' mb g j js ⟨d', bump s.ws gt, s.D ++ [gt]⟩ (.slice a5 (k + 1) c5) po' pc' ho' hc' (H ++ [x]) w5) := hIn
            clear hIn HIn ho5 ho6 hg5 hl5 hcx hfx
            go_wp2
            go_roundw
            case rel => exact ⟨k + 1, S', _, _, _, _, _, _, _, _, by omega, rfl, HSn, HIz⟩
            case measure => simp [slL]; omega
    · have h1 : ¬ (k : Int) < most := by have := HM.out; omega
      have HE : Hid ((runR mx (st0 ps bd js)).D = s.D) := by
        have : k = mx := by omega
        rw [← this, ← HS.out.1]
        rfl
      have HO : Hid (Ow wr w.heap.size 3 (.slice da k dc) ((playP ps bd js mx).map nV)) := by
        have : playP ps bd js mx = s.D := HE.out
        rw [this]
        exact HI.out.dn
      go_wp2
      go_ret
      exact ⟨⟨_, rfl, HO.out⟩, HI.out.dc.below⟩
end Go.Proofs.Ytagdgecmoeacgaa
