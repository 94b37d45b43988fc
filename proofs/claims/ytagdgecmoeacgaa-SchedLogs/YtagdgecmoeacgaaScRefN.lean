/- Layer 17 (sched): the document's Next. -/
import Derived.Test.YtagdgecmoeacgaaScRefH
import Derived.Test.YtagdgecmoeacgaaScTurns
import Derived.Deep.CutRange
namespace Go.Proofs.Ytagdgecmoeacgaa
open Go.RowKit Go.Sort
set_option linter.unusedVariables false

/-- The document's boxes: the chooser and the answer. -/
structure RnX (w : World) (p hv : Value) (bd : Int) (wr : World) : Prop where
  b2 : wr.heap[w.heap.size]? = some (.cells #[p, .int .i64 bd, hv] 50)
  b4 : wr.heap[w.heap.size + 1]? = some (.cells #[.slice none 0 0, .int .i64 0, .slice none 0 0] 50)
  below : Below w.heap.size w wr
theorem RnX.frm {w wr w' : World} {p hv : Value} {bd : Int} {T : Nat → Prop} (h : RnX w p hv bd wr) (hf : Frm T wr w') (ht : ∀ k, T k → w.heap.size + 2 ≤ k) : RnX w p hv bd w' :=
  ⟨(hf.block _ (lt_of_heapT h.b2) (fun x => by have := ht _ x; omega)).trans h.b2, (hf.block _ (lt_of_heapT h.b4) (fun x => by have := ht _ x; omega)).trans h.b4, h.below.trans (hf.toBelow h.below.size (fun k hk => by have := ht k hk; omega))⟩
theorem RnX.more {w wr w' : World} {p hv : Value} {bd : Int} (h : RnX w p hv bd wr) (hb : Below wr.heap.size wr w') : RnX w p hv bd w' := h.frm (Frm.ofBelow hb (fun _ => False)) (fun _ h => h.elim)
theorem RnX.c {w wr : World} {p hv : Value} {bd : Int} (h : RnX w p hv bd wr) : wr.cell? ⟨w.heap.size, 0, none⟩ = some p ∧ wr.cell? ⟨w.heap.size, 1, none⟩ = some (.int .i64 bd) ∧ wr.cell? ⟨w.heap.size, 2, none⟩ = some hv :=
  ⟨by rw [cell_blkT h.b2]; rfl, by rw [cell_blkT h.b2]; rfl, by rw [cell_blkT h.b2]; rfl⟩
theorem RnX.setPicks {w wr : World} {p hv : Value} {bd : Int} (h : RnX w p hv bd wr) (v : Value) : RnX w v hv bd (wr.setCell ⟨w.heap.size, 0, none⟩ v) ∧ Frm (fun k => k = w.heap.size) wr (wr.setCell ⟨w.heap.size, 0, none⟩ v) := by
  have hF : Frm (fun k => k = w.heap.size) wr (wr.setCell ⟨w.heap.size, 0, none⟩ v) := (Frm.refl (fun k => k = w.heap.size) wr).setCell ⟨w.heap.size, 0, none⟩ _ (.inl rfl)
  exact ⟨⟨by rw [heap_setCell_same wr w.heap.size 0 _ _ _ h.b2]; simp, (hF.block _ (lt_of_heapT h.b4) (by omega)).trans h.b4, h.below.setCell (Nat.le_refl _) _⟩, hF⟩
/-- The picks lie in old memory. -/
def OldP (B : Nat) (po : Option Addr) (ps : List Int) : Prop := ∀ a, po = some a → ps ≠ [] → a.block < B
theorem VAt.old {w : World} {po : Option Addr} {ps : List Int} (h : VAt w po (ps.map iV)) : OldP w.heap.size po ps := fun a ea hne => by
  have h0 : 0 < ps.length := List.length_pos_iff.2 hne
  obtain ⟨b, off, e, hc⟩ := h.int 0 h0
  rw [e] at ea
  cases ea
  exact World.block_lt_of_cell? w ⟨b, off + 0, none⟩ hc
/-- Behind k rounds of the document's first loop. -/
structure WhI (w : World) (p hv : Value) (bd : Int) (r : List Bool) (A : List Nat) (k : Nat) (wv : Value) (W : List Nat) (ov : Int) (wr : World) : Prop where
  bx : RnX w p hv bd wr
  who : Ow wr (w.heap.size + 2) 3 wv (W.map nV)
  rest : whoF r 0 = W ++ whoF (r.drop k) k
  old : ov = if (lookK r A k).1 = 0 then -1 else ((lookK r A k).2 : Int)
theorem WhI.more {w wr w' : World} {p hv wv : Value} {bd ov : Int} {r : List Bool} {A W : List Nat} {k : Nat} (h : WhI w p hv bd r A k wv W ov wr) (hb : Below wr.heap.size wr w') : WhI w p hv bd r A k wv W ov w' := ⟨h.bx.more hb, h.who.below hb, h.rest, h.old⟩
theorem WhI.skip {w wr : World} {p hv wv : Value} {bd ov : Int} {r : List Bool} {A W : List Nat} {k : Nat} (h : WhI w p hv bd r A k wv W ov wr) (hk : k < r.length) (hb : r.getD k false = false) : WhI w p hv bd r A (k + 1) wv W ov wr :=
  ⟨h.bx, h.who, by rw [h.rest, drop_false hk hb]; rfl, by rw [lookK_succ_false hb]; exact h.old⟩
theorem WhI.app {w wr w5 : World} {p hv wv wv' : Value} {bd ov : Int} {r : List Bool} {A W : List Nat} {k : Nat} (h : WhI w p hv bd r A k wv W ov wr) (hk : k < r.length) (hb : r.getD k false = true) (ho : Ow w5 (w.heap.size + 2) 3 wv' (W.map nV ++ [nV k])) (hg : Grew wr w5 wv wv') :
    RnX w p hv bd w5 ∧ Ow w5 (w.heap.size + 2) 3 wv' ((W ++ [k]).map nV) ∧ whoF r 0 = (W ++ [k]) ++ whoF (r.drop (k + 1)) (k + 1) := by
  refine ⟨h.bx.frm (Frm.ofGrewT hg) (fun j hj => (h.who.lt j hj).1), by rw [List.map_append]; exact ho, ?_⟩
  rw [h.rest, drop_true hk hb, List.append_assoc]; rfl
theorem look_one {r : List Bool} {A : List Nat} {k : Nat} (hb : r.getD k false = true) (h : (lookK r A k).1 = 0 ∨ A.getD (lookK r A k).2 0 < A.getD k 0) : ((k : Nat) : Int) = if (lookK r A (k + 1)).1 = 0 then -1 else ((lookK r A (k + 1)).2 : Int) := by
  rw [lookK_succ_true hb]
  dsimp only
  rw [if_neg (by omega), if_pos h]
theorem look_two {r : List Bool} {A : List Nat} {k : Nat} (hb : r.getD k false = true) (h : ¬ ((lookK r A k).1 = 0 ∨ A.getD (lookK r A k).2 0 < A.getD k 0)) : (if (lookK r A k).1 = 0 then (-1 : Int) else ((lookK r A k).2 : Int)) = if (lookK r A (k + 1)).1 = 0 then -1 else ((lookK r A (k + 1)).2 : Int) := by
  rw [lookK_succ_true hb]
  dsimp only
  rw [if_neg (by omega), if_neg (by omega), if_neg h]

theorem own_addr {w : World} {B : Nat} {ao : Option Addr} {n cap : Nat} {l : List He} {a : Addr} (h : OwH w B (.slice ao n cap) l) (e : ao = some a) : (Value.slice (some a) n cap).ownBlock = some a.block ∧ True := by
  rcases h.2 with ⟨e0, h0⟩ | ⟨g, cap', cur, e0, hb, hg, _⟩
  · simp only [Value.slice.injEq] at e0
    rw [e0.1] at e; cases e
  · simp only [Value.slice.injEq] at e0
    rw [e0.1] at e
    cases e
    exact ⟨rfl, trivial⟩
/-- What the document's Next leaves. -/
def RefNW (w : World) (B : Nat) (c : Ch) (H : List He) (r : List Bool) (e : Ending) (w' : World) : Prop :=
  ∃ (po' : Option Addr) (pc' : Nat) (ho' : Option Addr) (hc' : Nat) (x : He), e = .returned (.tuple #[.agg #[.slice po' (nextP c r).1.picks.length pc', .int .i64 c.bound, .slice ho' (H.length + 1) hc'], .int .i64 (chI (nextP c r))]) ∧ VAt w' po' ((nextP c r).1.picks.map iV) ∧ (nextP c r).1.picks.length ≤ pc' ∧ HsAt w' ho' (H ++ [x]) ∧ x.r = r ∧ x.ch = chI (nextP c r) ∧ (ho' = none → hc' = 0) ∧ H.length + 1 ≤ hc' ∧ Below w.heap.size w w' ∧ OldP B po' (nextP c r).1.picks ∧ (∀ a, ho' = some a → w.heap.size ≤ a.block) ∧ (∀ a, x.ao = some a → w.heap.size ≤ a.block ∧ a.block < w'.heap.size)

set_option maxRecDepth 100000 in
set_option maxHeartbeats 4000000 in
theorem refNext_calls (w : World) (B : Nat) (c : Ch) (m : Nat) (po : Option Addr) (pn pc : Nat) (ho : Option Addr) (hn hc : Nat) (H : List He) (ro : Option Addr) (n rc : Nat) (r : List Bool) (hO : Okc c m) (hR : RefR c H) (hpn : c.picks.length = pn) (hp : VAt w po (c.picks.map iV)) (hpc : pn ≤ pc)
    (hH : HsAt w ho H) (hl : H.length = hn) (hhc : hn ≤ hc) (hhn : ho = none → hc = 0) (hm : hn ≤ 1048576) (hrl : ∀ x ∈ H, x.r.length ≤ 1048576) (hr : VAt w ro (r.map bV)) (hrn : r.length = n) (hn2 : n ≤ 1048576) (hrnil : ro = none → rc = 0 ∧ n = 0) (hold : OldP B po c.picks) (hBw : B ≤ w.heap.size) :
    Calls Try.prog 18 #[.agg #[.slice po pn pc, .int .i64 c.bound, .slice ho hn hc], .slice ro n rc] w (RefNW w B c H r) := by
  have HAge : Hid (∀ (W : World) (p : Value) (a : Nat), (∃ x n c, p = .slice x n c) → Below w.heap.size w W → a ≤ 1048576 → Calls Try.prog 24 #[.agg #[p, .int .i64 c.bound, .slice ho hn hc], .int .i64 (a : Int)] W fun e w' => e = .returned (.int .i64 (ageF c a : Int)) ∧ Below W.heap.size W w') := fun W p a hp hW ha => by
    have := age_calls W p hp c.bound ho hn hc H a (hH.below hW) hl (by omega) (by omega) (fun x hx => by have := hrl x hx; omega)
    rw [hR.age a, hl]
    exact this
  have HOld : Hid (OldP B po c.picks ∧ B ≤ w.heap.size) := ⟨hold, hBw⟩
  have HO : Hid (Okc c m) := hO
  have HRf : Hid (RefR c H) := hR
  have HPk : Hid (VAt w po (c.picks.map iV) ∧ c.picks.length = pn ∧ pn ≤ pc) := ⟨hp, hpn, hpc⟩
  have HHs : Hid (HsAt w ho H ∧ H.length = hn ∧ hn ≤ hc ∧ (ho = none → hc = 0)) := ⟨hH, hl, hhc, hhn⟩
  have HRo : Hid (VAt w ro (r.map bV) ∧ r.length = n ∧ (ro = none → rc = 0 ∧ n = 0)) := ⟨hr, hrn, hrnil⟩
  obtain ⟨A, HA⟩ : ∃ A, Hid (A = fitP c.ages n) := ⟨_, rfl⟩
  have HAg : Hid (∀ i, i < n → A.getD i 0 = ageF c i) := fun i hi => by rw [HA.out, fitP_getD _ _ _ hi]; rfl
  have HI0 : Hid (∀ W, W = ((w.alloc (.cells #[.slice po pn pc, .int .i64 c.bound, .slice ho hn hc] 50)).alloc (.cells #[.slice none 0 0, .int .i64 0, .slice none 0 0] 50)).alloc (.cells #[] 3) → WhI w (.slice po pn pc) (.slice ho hn hc) c.bound r A 0 (.slice (some ⟨w.heap.size + 2, 0, none⟩) 0 0) [] (-1) W) := by
    intro W hW
    obtain ⟨w1, hw1⟩ : ∃ w1, w1 = w.alloc (.cells #[.slice po pn pc, .int .i64 c.bound, .slice ho hn hc] 50) := ⟨_, rfl⟩
    obtain ⟨w2, hw2⟩ : ∃ w2, w2 = w1.alloc (.cells #[.slice none 0 0, .int .i64 0, .slice none 0 0] 50) := ⟨_, rfl⟩
    have hs1 : w1.heap.size = w.heap.size + 1 := by rw [hw1]; simp [World.size_alloc]
    have hs2 : w2.heap.size = w.heap.size + 2 := by rw [hw2]; simp [World.size_alloc, hs1]
    have k1 : w1.heap[w.heap.size]? = some (.cells #[.slice po pn pc, .int .i64 c.bound, .slice ho hn hc] 50) := by rw [hw1]; exact heap_alloc_new w _
    have k2 : w2.heap[w.heap.size + 1]? = some (.cells #[.slice none 0 0, .int .i64 0, .slice none 0 0] 50) := by rw [hw2, ← hs1]; exact heap_alloc_new w1 _
    have b1 : Below w.heap.size w w1 := by rw [hw1]; exact below_alloc w _
    have b2 : Below w1.heap.size w1 w2 := by rw [hw2]; exact below_alloc w1 _
    have b3 : Below w2.heap.size w2 W := by rw [hW, ← hw1, ← hw2]; exact below_alloc w2 _
    refine ⟨⟨?_, ?_, ?_⟩, ?_, rfl, rfl⟩
    · rw [b3.block _ (by omega), b2.block _ (by omega)]; exact k1
    · rw [b3.block _ (by omega)]; exact k2
    · exact b1.trans ((b2.trans (b3.mono (by omega))).mono (by omega))
    · rw [hW, ← hw1, ← hw2, ← hs2]
      exact World.ownsRow_lit (size := 1) w2 #[] 0 (Nat.le_refl _) (by unfold maxLen; omega) rfl
  clear hO hR hpn hp hpc hH hl hhc hhn hrl hr hrn hrnil hold hBw
  go_enter Try.func18, Try.ntmps18
  go_wp2
  go_loopw [6, 7, 21] (fun x y i wr => ∃ (k : Nat) (wo : Option Addr) (wl wc : Nat) (W : List Nat) (ov : Int), k ≤ n ∧ i = .int .i64 (k : Int) ∧ x = .slice wo wl wc ∧ y = .int .i64 ov ∧ Hid (WhI w (.slice po pn pc) (.slice ho hn hc) c.bound r A k (.slice wo wl wc) W ov wr)) (fun _ _ i _ => n - (intOf i).toNat)
  case atStart => exact ⟨0, _, _, _, [], -1, Nat.zero_le _, rfl, rfl, rfl, HI0.out _ rfl⟩
  case round =>
    clear HI0
    obtain ⟨k, wo, wl, wc, W, ov, hk, rfl, rfl, rfl, HI⟩ := hrel
    by_cases hlt : k < n
    · have hkr : k < r.length := by rw [HRo.out.2.1]; exact hlt
      obtain ⟨rb, roff, rfl, hrc⟩ := (HRo.out.1.below HI.out.bx.below).bool k hkr
      cases hb : r.getD k false with
      | false =>
        have HI2 : Hid (WhI w (.slice po pn pc) (.slice ho hn hc) c.bound r A (k + 1) (.slice wo wl wc) W ov wr) := HI.out.skip hkr hb
        rw [hb] at hrc
        clear HI hb hkr
        go_wp2
        go_roundw
        case rel => exact ⟨k + 1, wo, wl, wc, W, ov, by omega, by go_num, rfl, rfl, HI2⟩
        case measure => simp [intOf]; omega
      | true =>
        rw [hb] at hrc
        have HWl : Hid (W.length ≤ n) := by
          have h1 := congrArg List.length HI.out.rest
          rw [whoF_length, List.length_append] at h1
          have h2 := List.count_le_length (a := true) (l := r)
          rw [HRo.out.2.1] at h2
          rw [Hid]; omega
        have HBl : Hid (w.heap.size + 2 ≤ wr.heap.size) := by have := lt_of_heapT HI.out.bx.b4; rw [Hid]; omega
        go_wp2_with (at_builtin; go_must (refine append_u _ rfl (.tmp 28) (.tmp 30) 23 3 (.int .i64 0) 8 Try.underlying23 info_int rfl rfl (w.heap.size + 2) _ (W.map nV) rfl (nV k) rfl _ rfl rfl HI.out.who (by rw [List.length_map]; have := HWl.out; omega) (by rw [List.length_map]; have := HWl.out; omega) HBl.out ?_))
        intro v5 w5 ho5 hg5
        obtain ⟨k1, k2, k3⟩ := HI.out.app hkr hb ho5 hg5
        obtain ⟨ao5, c5, e5, -⟩ := ho5.shape
        obtain ⟨l5, Hl5⟩ : ∃ l5, Hid (l5 = (W.map nV ++ [nV k]).length) := ⟨_, rfl⟩
        rw [← Hl5.out] at e5
        subst e5
        have HK : Hid (RnX w (.slice po pn pc) (.slice ho hn hc) c.bound w5 ∧ Ow w5 (w.heap.size + 2) 3 (.slice ao5 l5 c5) ((W ++ [k]).map nV) ∧ whoF r 0 = (W ++ [k]) ++ whoF (r.drop (k + 1)) (k + 1)) := ⟨k1, k2, k3⟩
        have HKm : Hid (∀ ov' w6, Below w5.heap.size w5 w6 → (ov' = if (lookK r A (k + 1)).1 = 0 then -1 else ((lookK r A (k + 1)).2 : Int)) → WhI w (.slice po pn pc) (.slice ho hn hc) c.bound r A (k + 1) (.slice ao5 l5 c5) (W ++ [k]) ov' w6) := fun ov' w6 hb6 he => ⟨k1.more hb6, k2.below hb6, k3, he⟩
        have hov := HI.out.old
        have HLk := look_ok r A k (by omega)
        obtain ⟨⟨cn, od⟩, Hq⟩ : ∃ q, Hid (q = lookK r A k) := ⟨_, rfl⟩
        have H1 : Hid (cn = 0 ∨ A.getD od 0 < A.getD k 0 → ((k : Nat) : Int) = if (lookK r A (k + 1)).1 = 0 then -1 else ((lookK r A (k + 1)).2 : Int)) := fun hh => look_one hb (by rw [← Hq.out]; exact hh)
        have H2 : Hid (¬ (cn = 0 ∨ A.getD od 0 < A.getD k 0) → ov = if (lookK r A (k + 1)).1 = 0 then -1 else ((lookK r A (k + 1)).2 : Int)) := fun hh => by rw [hov]; exact look_two hb (by rw [← Hq.out]; exact hh)
        rw [← Hq.out] at hov HLk
        dsimp only at hov
        clear HI hb ho5 hg5 k1 k2 k3 Hl5 hkr Hq
        by_cases hc0 : cn = 0
        · rw [if_pos hc0] at hov
          have HN := H1.out (.inl hc0)
          have HNH : Hid (((k : Nat) : Int) = _) := HN
          subst hov
          clear H1 H2 HN HLk hc0
          go_wp2_with fail
          go_quiet (fail)
          go_wp2
          go_roundw
          case rel => exact ⟨k + 1, ao5, l5, c5, W ++ [k], (k : Int), by omega, by go_num, rfl, rfl, HKm.out _ _ (below_drawsT _ _) HNH.out⟩
          case measure => simp [intOf]; omega
        · rw [if_neg hc0] at hov
          have hodk : od < k := HLk.lt (by dsimp only; omega)
          have HW5 : Hid (Below w.heap.size w w5) := HK.out.1.below
          obtain ⟨q0, q1, q2⟩ := HK.out.1.c
          have j0 := cell_regrown q0
          have j1 := cell_regrown q1
          have j2 := cell_regrown q2
          have cT := fun d os => Calls.regrown_of (HAge.out (grow (redrawn w5 d) os) (.slice po pn pc) k ⟨_, _, _, rfl⟩ (HW5.out.trans ((below_regrown w5 d os).mono HW5.out.size)) (by omega))
          have cS := fun d os => Calls.regrown_of (HAge.out (grow (redrawn w5 d) os) (.slice po pn pc) od ⟨_, _, _, rfl⟩ (HW5.out.trans ((below_regrown w5 d os).mono HW5.out.size)) (by omega))
          have e1 := HAg.out k hlt
          have e2 := HAg.out od (by omega)
          rw [e1, e2] at H1 H2
          obtain ⟨x, Hx⟩ : ∃ x, Hid (x = ageF c k) := ⟨_, rfl⟩
          obtain ⟨y, Hy⟩ : ∃ y, Hid (y = ageF c od) := ⟨_, rfl⟩
          rw [← Hx.out] at cT H1 H2
          rw [← Hy.out] at cS H1 H2
          clear e1 e2 Hx Hy HLk q0 q1 q2
          subst hov
          by_cases hxy : y < x
          · have HNH : Hid (((k : Nat) : Int) = _) := H1.out (.inr hxy)
            have hd : decide ((x : Int) > (y : Int)) = true := by simp; omega
            have hd0 : decide ((od : Int) < 0) = false := decide_eq_false (by omega)
            clear H1 H2
            go_wp2_with fail
            refine wp_region_quiet_below (by kernel_rfl) (by kernel_rfl) ?_
            iterate 6 (quiet_step (exact cT _ _))
            repeat (quiet_step (exact cS _ _))
            refine wpQuiet_nil ?_
            intro w6 hw'
            obtain ⟨⟨dq, osq⟩, hw6⟩ := hw'
            have hb6 : Below w5.heap.size w5 w6 := by rw [hw6]; exact below_regrown w5 dq osq
            have HI6 : Hid (WhI w (.slice po pn pc) (.slice ho hn hc) c.bound r A (k + 1) (.slice ao5 l5 c5) (W ++ [k]) (k : Int) w6) := HKm.out _ _ hb6 HNH.out
            clear hw6 hb6 cT cS j0 j1 j2 HK HKm HNH HW5
            go_wp2
            go_roundw
            case rel => exact ⟨k + 1, ao5, l5, c5, W ++ [k], (k : Int), by omega, by go_num, rfl, rfl, HI6⟩
            case measure => simp [intOf]; omega
          · have HNH : Hid (((od : Nat) : Int) = _) := H2.out (by omega)
            have hd : decide ((x : Int) > (y : Int)) = false := decide_eq_false (by omega)
            have hd0 : decide ((od : Int) < 0) = false := decide_eq_false (by omega)
            clear H1 H2
            go_wp2_with fail
            refine wp_region_quiet_below (by kernel_rfl) (by kernel_rfl) ?_
            iterate 6 (quiet_step (exact cT _ _))
            repeat (quiet_step (exact cS _ _))
            refine wpQuiet_nil ?_
            intro w6 hw'
            obtain ⟨⟨dq, osq⟩, hw6⟩ := hw'
            have hb6 : Below w5.heap.size w5 w6 := by rw [hw6]; exact below_regrown w5 dq osq
            have HI6 : Hid (WhI w (.slice po pn pc) (.slice ho hn hc) c.bound r A (k + 1) (.slice ao5 l5 c5) (W ++ [k]) (od : Int) w6) := HKm.out _ _ hb6 HNH.out
            clear hw6 hb6 cT cS j0 j1 j2 HK HKm HNH HW5
            go_wp2
            go_roundw
            case rel => exact ⟨k + 1, ao5, l5, c5, W ++ [k], (od : Int), by omega, by go_num, rfl, rfl, HI6⟩
            case measure => simp [intOf]; omega
    · have hkn : k = n := by omega
      have HE : Hid (RnX w (.slice po pn pc) (.slice ho hn hc) c.bound wr ∧ Ow wr (w.heap.size + 2) 3 (.slice wo wl wc) ((whoF r 0).map nV) ∧ ov = if (lookP r A).1 = 0 then -1 else ((lookP r A).2 : Int)) := by
        have h1 := HI.out
        have h2 := h1.rest
        rw [List.drop_of_length_le (by rw [HRo.out.2.1]; omega)] at h2
        have h3 : whoF r 0 = W := by rw [h2]; simp [whoF]
        have h4 := h1.old
        rw [hkn, ← HRo.out.2.1] at h4
        exact ⟨h1.bx, by rw [h3]; exact h1.who, h4⟩
      have hwl : wl = r.count true := by
        obtain ⟨a', c', e, -⟩ := HE.out.2.1.shape
        simp only [Value.slice.injEq] at e
        rw [e.2.1, List.length_map, whoF_length]
      have HWL : Hid (wl = r.count true) := hwl
      have hwm : wl ≤ 1048576 := by
        have := List.count_le_length (a := true) (l := r)
        rw [HRo.out.2.1] at this; omega
      have HCn : Hid ((lookP r A).1 = wl) := by rw [Hid, lookP_count, hwl]
      have HLk : Hid (LkI r A n (lookP r A)) := by rw [Hid, ← HRo.out.2.1]; exact lookP_ok r A
      have HQ : Hid (nextP c r = if (lookP r A).1 = 0 then (⟨c.picks, c.bound, c.last, ageP A r 0⟩, 0, false) else (⟨(pickP c.picks c.bound c.last A r).1, c.bound, ((pickP c.picks c.bound c.last A r).2 : Nat), ageP A r (pickP c.picks c.bound c.last A r).2⟩, (pickP c.picks c.bound c.last A r).2, true)) := by
        rw [Hid, HA.out, ← HRo.out.2.1]; rfl
      have HPK : Hid (pickP c.picks c.bound c.last A r = if c.bound ≤ ((A.getD (lookP r A).2 0 : Nat) : Int) then (c.picks, (lookP r A).2)
        else match c.picks with
          | p :: ps => (ps, atP r (p % ((lookP r A).1 : Int)).toNat)
          | [] => ([], behP r (c.last + 1).toNat)) := rfl
      obtain ⟨q, Hq⟩ : ∃ q, Hid (q = nextP c r) := ⟨_, rfl⟩
      rw [← Hq.out] at HQ
      obtain ⟨PK, HPKq⟩ : ∃ PK, Hid (PK = pickP c.picks c.bound c.last A r) := ⟨_, rfl⟩
      rw [← HPKq.out] at HQ HPK
      obtain ⟨⟨cn, od⟩, Hlp⟩ : ∃ p, Hid (p = lookP r A) := ⟨_, rfl⟩
      rw [← Hlp.out] at HE HCn HLk HQ HPK
      dsimp only at HE HCn HQ HPK
      clear HI hwl HPKq Hlp hkn
      go_upto_region 11 with fail
      iterate 8 go_step
      go_cut [10] from 45 to 121 (fun s10 wx => ∃ (po' : Option Addr) (pc' : Nat), s10 = .int .i64 (chI q) ∧ Hid (RnX w (.slice po' q.1.picks.length pc') (.slice ho hn hc) c.bound wx ∧ VAt wx po' (q.1.picks.map iV) ∧ q.1.picks.length ≤ pc' ∧ OldP B po' q.1.picks))
      case first =>
        have hwnn : (wl : Int) ≥ 0 := by omega
        by_cases h0 : cn = 0
        · have hov : ov = -1 := by rw [HE.out.2.2, if_pos h0]
          have hw0 : wl = 0 := by rw [← HCn.out]; exact h0
          have HZ : Hid (chI q = -1 ∧ q.1.picks = c.picks) := by rw [Hid, HQ.out, if_pos h0]; exact ⟨rfl, rfl⟩
          have HXX : Hid (∀ d, ∃ (po' : Option Addr) (pc' : Nat), Value.int .i64 (-1) = .int .i64 (chI q) ∧ Hid (RnX w (.slice po' q.1.picks.length pc') (.slice ho hn hc) c.bound (wr.drewN d) ∧ VAt (wr.drewN d) po' (q.1.picks.map iV) ∧ q.1.picks.length ≤ pc' ∧ OldP B po' q.1.picks)) := by
            intro d
            rw [HZ.out.1, HZ.out.2, HPk.out.2.1]
            exact ⟨po, pc, rfl, HE.out.1.more (below_drawsT _ _), HPk.out.1.below (HE.out.1.below.trans ((below_drawsT wr d).mono HE.out.1.below.size)), HPk.out.2.2, HOld.out.1⟩
          subst hov
          subst hw0
          clear HQ HPK HE HCn HLk HZ h0 HWL
          go_wp2_with fail
          go_quiet (fail)
          go_wp2
          go_meet
          exact HXX.out _
        · have hov : ov = (od : Int) := by rw [HE.out.2.2, if_neg h0]
          have hod : od < n := HLk.out.lt (by dsimp only; omega)
          have hag : A.getD od 0 = ageF c od := HAg.out od hod
          have HZ : Hid (chI q = (PK.2 : Int) ∧ q.1.picks = PK.1) := by rw [Hid, HQ.out, if_neg h0]; exact ⟨rfl, rfl⟩
          have HW5 : Hid (Below w.heap.size w wr) := HE.out.1.below
          obtain ⟨q0, q1, q2⟩ := HE.out.1.c
          have j0 := cell_regrown q0
          have j1 := cell_regrown q1
          have j2 := cell_regrown q2
          have cS := fun d os => Calls.regrown_of (HAge.out (grow (redrawn wr d) os) (.slice po pn pc) od ⟨_, _, _, rfl⟩ (HW5.out.trans ((below_regrown wr d os).mono HW5.out.size)) (by omega))
          rw [hag] at HPK
          obtain ⟨x, Hx⟩ : ∃ x, Hid (x = ageF c od) := ⟨_, rfl⟩
          rw [← Hx.out] at cS HPK
          have hd0 : decide ((od : Int) ≥ 0) = true := decide_eq_true (by omega)
          subst hov
          by_cases hb : c.bound ≤ (x : Int)
          · have hd : decide ((x : Int) ≥ c.bound) = true := decide_eq_true hb
            have HPk2 : Hid (PK = (c.picks, od)) := by rw [Hid, HPK.out, if_pos hb]
            have HXX : Hid (∀ W, Below wr.heap.size wr W → ∃ (po' : Option Addr) (pc' : Nat), Value.int .i64 (od : Int) = .int .i64 (chI q) ∧ Hid (RnX w (.slice po' q.1.picks.length pc') (.slice ho hn hc) c.bound W ∧ VAt W po' (q.1.picks.map iV) ∧ q.1.picks.length ≤ pc' ∧ OldP B po' q.1.picks)) := by
              intro W hW
              rw [HZ.out.1, HZ.out.2, HPk2.out, HPk.out.2.1]
              exact ⟨po, pc, rfl, HE.out.1.more hW, HPk.out.1.below (HE.out.1.below.trans (hW.mono HE.out.1.below.size)), HPk.out.2.2, HOld.out.1⟩
            clear HQ HPK HCn HLk HZ h0 HWL hag Hx HPk2 q0 q1 q2
            go_wp2_with fail
            refine wp_region_quiet_below (by kernel_rfl) (by kernel_rfl) ?_
            repeat (quiet_step (exact cS _ _))
            refine wpQuiet_nil ?_
            intro w6 hw'
            obtain ⟨⟨dq, osq⟩, hw6⟩ := hw'
            have HB6 : Hid (Below wr.heap.size wr w6) := by rw [hw6]; exact below_regrown wr dq osq
            clear hw6 cS j0 j1 j2 HE HW5
            go_wp2
            go_meet
            exact HXX.out _ HB6.out
          · have hd : decide ((x : Int) ≥ c.bound) = false := decide_eq_false hb
            have HPk2 : Hid (PK = match c.picks with
              | p :: ps => (ps, atP r (p % (cn : Int)).toNat)
              | [] => ([], behP r (c.last + 1).toNat)) := by rw [Hid, HPK.out, if_neg hb]
            have hw1 : 0 < wl := by rw [← HCn.out]; omega
            have hpb := fun p hp => HO.out.pk p hp
            have hlb : -1 ≤ c.last ∧ c.last ≤ 140737488355328 := ⟨HO.out.l1, HO.out.l2⟩
            have HW9 : Hid (Ow wr (w.heap.size + 2) 3 (.slice wo wl wc) ((whoF r 0).map nV) ∧ RnX w (.slice po pn pc) (.slice ho hn hc) c.bound wr) := ⟨HE.out.2.1, HE.out.1⟩
            rw [HCn.out] at HPk2
            go_wp2_with fail
            refine wp_region_quiet_below (by kernel_rfl) (by kernel_rfl) ?_
            repeat (quiet_step (exact cS _ _))
            refine wpQuiet_nil ?_
            intro w6 hw'
            obtain ⟨⟨dq, osq⟩, hw6⟩ := hw'
            have HB6 : Hid (Below wr.heap.size wr w6) := by rw [hw6]; exact below_regrown wr dq osq
            have HX6 : Hid (RnX w (.slice po pn pc) (.slice ho hn hc) c.bound w6) := HE.out.1.more HB6.out
            have HO6 : Hid (Ow w6 (w.heap.size + 2) 3 (.slice wo wl wc) ((whoF r 0).map nV)) := HE.out.2.1.below HB6.out
            have HP6 : Hid (VAt w6 po (c.picks.map iV)) := HPk.out.1.below HX6.out.below
            have hcn0 : 0 < r.count true := by rw [← HWL.out]; exact hw1
            clear hw6 cS j0 j1 j2 HE HW5 HQ HPK HLk HB6 hag Hx hd hb q0 q1 q2 HW9
            obtain ⟨s0, s1, s2⟩ := HX6.out.c
            cases hps : c.picks with
            | nil =>
              rw [hps] at HPk2
              have HPk2 : Hid (PK = ([], behP r (c.last + 1).toNat)) := HPk2
              have hpn0 : pn = 0 := by have := HPk.out.2.1; rw [hps] at this; simpa using this.symm
              obtain ⟨l, hl⟩ : ∃ l : Nat, c.last = (l : Int) - 1 := ⟨(c.last + 1).toNat, by omega⟩
              have hll : ((l : Int) - 1 + 1).toNat = l := by omega
              have hlm : l ≤ 140737488355329 := by omega
              have HLt : Hid ((l : Int) - 1 = lastT H hn) := by rw [Hid, ← hl, HRf.out.last, HHs.out.2.1]
              have hsel := selF_beh l hcn0
              rw [hl, hll, ← hsel] at HPk2
              have hwf := who_first hcn0
              have HWW : Hid (∃ gw, wo = some ⟨gw, 0, none⟩) := by
                obtain ⟨g', eg, -⟩ := HO6.out.at 0 (by rw [List.length_map, whoF_length]; exact hcn0)
                exact ⟨g', eg⟩
              obtain ⟨W, HW⟩ : ∃ W, Hid (W = whoF r 0) := ⟨_, rfl⟩
              have HWL2 : Hid (W.length = wl) := by rw [Hid, HW.out, whoF_length, HWL.out]
              rw [← HW.out] at hwf HPk2 HO6
              obtain ⟨fb, Hfb⟩ : ∃ fb, Hid (fb = ftB r) := ⟨_, rfl⟩
              rw [← Hfb.out] at hwf HPk2
              have HWm : Hid (∀ a ∈ W, a ≤ 1048576) := by
                intro a ha
                obtain ⟨i, hi, rfl⟩ := List.getElem_of_mem ha
                have h1 : i < r.count true := by rw [← HWL.out, ← HWL2.out]; exact hi
                have h2 := whoF_at r 0 i h1
                rw [← HW.out, List.getElem?_eq_getElem hi] at h2
                have h3 := (atP_lt r i h1).1
                rw [Option.some.inj h2, Nat.zero_add]
                rw [HRo.out.2.1] at h3; omega
              have HPK : Hid (c.picks = []) := hps
              have HXX : Hid (∀ W', RnX w (.slice po pn pc) (.slice ho hn hc) c.bound W' → ∃ (po' : Option Addr) (pc' : Nat), Value.int .i64 ((selF ((l : Int) - 1) fb W : Nat) : Int) = .int .i64 (chI q) ∧ Hid (RnX w (.slice po' q.1.picks.length pc') (.slice ho hn hc) c.bound W' ∧ VAt W' po' (q.1.picks.map iV) ∧ q.1.picks.length ≤ pc' ∧ OldP B po' q.1.picks)) := by
                intro W' hW'
                rw [HZ.out.1, HZ.out.2, HPk2.out]
                exact ⟨po, pc, rfl, by show RnX w (.slice po 0 pc) _ _ _; rw [← hpn0]; exact hW', VAt.nil _ _, Nat.zero_le _, fun _ _ h => absurd rfl h⟩
              subst hpn0
              clear hps hl hll hsel hcn0 HZ HPk2 Hfb HW HWL HCn h0 hpb hlb s0 s1 s2
              obtain ⟨s0, s1, s2⟩ := HX6.out.c
              obtain ⟨gw, rfl⟩ := HWW.out
              go_wp2
              go_loopw [12, 92] (fun x i wr => ∃ k : Nat, k ≤ hn ∧ i = .int .i64 (k : Int) ∧ x = .int .i64 (lastT H k) ∧ Hid (RnX w (.slice po 0 pc) (.slice ho hn hc) c.bound wr ∧ Ow wr (w.heap.size + 2) 3 (.slice (some ⟨gw, 0, none⟩) wl wc) (W.map nV))) (fun _ i _ => hn - (intOf i).toNat)
              case atStart => exact ⟨0, Nat.zero_le _, rfl, rfl, HX6.out, HO6.out⟩
              case round =>
                clear HX6 HO6
                obtain ⟨k2, hk2, rfl, rfl, HI2⟩ := hrel
                by_cases hlt2 : k2 < hn
                · have hkH : k2 < H.length := by rw [HHs.out.2.1]; exact hlt2
                  obtain ⟨b, off, rfl, h1, h2, -⟩ := (HHs.out.1.below HI2.out.1.below) k2 hkH
                  have HLs : Hid (lastT H (k2 + 1) = if 0 ≤ (H[k2]'hkH).ch then (H[k2]'hkH).ch else lastT H k2) := by rw [Hid, lastT, List.getElem?_eq_getElem hkH]
                  obtain ⟨⟨xa, xc, r2, ch⟩, Hx2⟩ : ∃ x, Hid (x = H[k2]'hkH) := ⟨H[k2]'hkH, rfl⟩
                  rw [← Hx2.out] at h1 h2 HLs
                  dsimp only at h1 h2 HLs
                  have HIa : Hid (∀ o, RnX w (.slice po 0 pc) (.slice (some ⟨b, off, none⟩) hn hc) c.bound (wr.alloc o) ∧ Ow (wr.alloc o) (w.heap.size + 2) 3 (.slice (some ⟨gw, 0, none⟩) wl wc) (W.map nV)) := fun o => ⟨HI2.out.1.more (below_alloc wr o), HI2.out.2.below (below_alloc wr o)⟩
                  obtain ⟨lt, Hlt⟩ : ∃ lt, Hid (lt = lastT H k2) := ⟨_, rfl⟩
                  rw [← Hlt.out] at HLs ⊢
                  clear HI2 Hx2 hkH Hlt
                  by_cases hch : 0 ≤ ch
                  · have HL2 : Hid (lastT H (k2 + 1) = ch) := by rw [Hid, HLs.out, if_pos hch]
                    clear HLs
                    go_wp2
                    go_roundw
                    case rel => exact ⟨k2 + 1, by omega, by go_num, by rw [HL2.out], HIa.out _⟩
                    case measure => simp [intOf]; omega
                  · have HL2 : Hid (lastT H (k2 + 1) = lt) := by rw [Hid, HLs.out, if_neg hch]
                    clear HLs
                    go_wp2
                    go_roundw
                    case rel => exact ⟨k2 + 1, by omega, by go_num, by rw [HL2.out], HIa.out _⟩
                    case measure => simp [intOf]; omega
                · have hk3 : k2 = hn := by omega
                  have HE2 : Hid (lastT H k2 = (l : Int) - 1) := by rw [Hid, hk3, HLt.out]
                  rw [HE2.out]
                  have hwc0 : wr.cell? ⟨gw, 0, none⟩ = some (.int .i64 (fb : Int)) := by
                    obtain ⟨h8, h9⟩ := List.getElem?_eq_some_iff.1 hwf
                    obtain ⟨g', eg, hcx, hfx⟩ := HI2.out.2.at 0 (by rw [List.length_map]; exact h8)
                    cases eg
                    rw [hcx, List.getElem_map, h9]; rfl
                  have HI3 : Hid (RnX w (.slice po 0 pc) (.slice ho hn hc) c.bound wr ∧ VAt wr (some ⟨gw, 0, none⟩) (W.map nV)) := ⟨HI2.out.1, HI2.out.2.v⟩
                  have HS0 : Hid (selF ((l : Int) - 1) fb (W.drop wl) = fb) := by rw [Hid, List.drop_of_length_le (by rw [HWL2.out]; exact Nat.le_refl _)]; rfl
                  clear HI2 hk3 HE2 HLt
                  go_wp2
                  go_loopw [10, 15] (fun x i w' => ∃ j : Nat, j ≤ wl ∧ i = .int .i64 ((j : Int) - 1) ∧ x = .int .i64 ((selF ((l : Int) - 1) fb (W.drop j) : Nat) : Int) ∧ w' = wr) (fun _ i _ => (intOf i + 1).toNat)
                  case atStart => exact ⟨wl, Nat.le_refl _, rfl, by rw [HS0.out], rfl⟩
                  case round =>
                    obtain ⟨j, hj, rfl, rfl, rfl⟩ := hrel
                    by_cases hj0 : 0 < j
                    · obtain ⟨i, rfl⟩ : ∃ i, j = i + 1 := ⟨j - 1, by omega⟩
                      have ej : (((i + 1 : Nat) : Int) - 1) = (i : Int) := by omega
                      rw [ej]
                      have hiW : i < W.length := by rw [HWL2.out]; omega
                      obtain ⟨b, off, e, hcx⟩ := HI3.out.2 i (by rw [List.length_map]; exact hiW)
                      simp only [Option.some.injEq, Addr.mk.injEq, and_true] at e
                      obtain ⟨rfl, rfl⟩ := e
                      have HSi : Hid (selF ((l : Int) - 1) fb (W.drop i) = if (l : Int) - 1 < ((W[i]'hiW : Nat) : Int) then W[i]'hiW else selF ((l : Int) - 1) fb (W.drop (i + 1))) := by
                        rw [Hid, List.drop_eq_getElem_cons hiW]; rfl
                      have hwm2 := HWm.out _ (List.getElem_mem hiW)
                      obtain ⟨y, Hy⟩ : ∃ y, Hid (y = W[i]'hiW) := ⟨W[i]'hiW, rfl⟩
                      rw [← Hy.out] at HSi hwm2
                      have hcy := hcx
                      rw [List.getElem_map, ← Hy.out, Nat.zero_add] at hcy
                      unfold nV at hcy
                      obtain ⟨sv, Hsv⟩ : ∃ sv, Hid (sv = selF ((l : Int) - 1) fb (W.drop (i + 1))) := ⟨_, rfl⟩
                      rw [← Hsv.out] at HSi ⊢
                      clear hcx Hy Hsv
                      by_cases hyl : (l : Int) - 1 < (y : Int)
                      · have HS2 : Hid (selF ((l : Int) - 1) fb (W.drop i) = y) := by rw [Hid, HSi.out, if_pos hyl]
                        clear HSi
                        go_wp2
                        go_roundw
                        case rel => exact ⟨i, by omega, by go_num, by rw [HS2.out], trivial⟩
                        case measure => simp [intOf] <;> omega
                      · have HS2 : Hid (selF ((l : Int) - 1) fb (W.drop i) = sv) := by rw [Hid, HSi.out, if_neg hyl]
                        clear HSi
                        go_wp2
                        go_roundw
                        case rel => exact ⟨i, by omega, by go_num, by rw [HS2.out], trivial⟩
                        case measure => simp [intOf] <;> omega
                    · have hj1 : j = 0 := by omega
                      subst hj1
                      have HX3 : Hid _ := HXX.out _ HI3.out.1
                      rw [List.drop_zero]
                      clear HXX
                      go_wp2
                      go_meet
                      exact HX3.out
            | cons p ps =>
              rw [hps] at HPk2 HP6
              have HPk2 : Hid (PK = (ps, atP r (p % (wl : Int)).toNat)) := HPk2
              have hpl : pn = ps.length + 1 := by have := HPk.out.2.1; rw [hps] at this; simpa using this.symm
              obtain ⟨b, off, hpo⟩ : ∃ b off, po = some ⟨b, off, none⟩ := by
                obtain ⟨b, off, e, -⟩ := HP6.out 0 (by simp)
                exact ⟨b, off, e⟩
              subst hpo
              obtain ⟨b', off', e, hpc⟩ := HP6.out.int 0 (by simp)
              simp only [Option.some.injEq, Addr.mk.injEq, and_true] at e
              obtain ⟨rfl, rfl⟩ := e
              simp only [List.getElem_cons_zero, Nat.add_zero] at hpc
              have hp1 := hpb p (by rw [hps]; simp)
              have hcap := HPk.out.2.2
              have hsl := restI_run b off ps.length pc (by omega)
              obtain ⟨o5, c5, e5, hv5, hc5⟩ := restI_form (w := w6) (b := b) (off := off) (cap := pc) (p := p) (ps := ps) (by omega) HP6.out
              rw [e5] at hsl
              have HV5 : Hid (VAt w6 (some ⟨b, o5, none⟩) (ps.map iV) ∧ ps.length ≤ c5) := ⟨hv5, hc5⟩
              have hplace := place_lt (p := p) hw1
              have hwa := whoF_at r 0 (p % (wl : Int)).toNat (by rw [← HWL.out]; exact hplace)
              have HTm : Hid (_ = ((p % (wl : Int)).toNat : Int)) := tmod_place (p := p) hw1
              obtain ⟨pl, Hpl⟩ : ∃ pl, Hid (pl = (p % (wl : Int)).toNat) := ⟨_, rfl⟩
              rw [← Hpl.out] at hwa HTm HPk2 hplace
              obtain ⟨at_, Hat⟩ : ∃ a, Hid (a = atP r pl) := ⟨_, rfl⟩
              rw [Nat.zero_add, ← Hat.out] at hwa
              rw [← Hat.out] at HPk2
              have hqq : w6.cell? ⟨w.heap.size, 0, none⟩ = some (.slice (some ⟨b, off, none⟩) pn pc) := s0
              rw [hpl] at s0
              obtain ⟨pl1, Hpl1⟩ : ∃ pl1, Hid (pl1 = ps.length) := ⟨_, rfl⟩
              rw [← Hpl1.out] at hsl s0
              have hwho : ∃ gw, wo = some ⟨gw, 0, none⟩ ∧ w6.cell? ⟨gw, pl, none⟩ = some (.int .i64 (at_ : Int)) := by
                obtain ⟨g', eg, hcx, hfx⟩ := HO6.out.at pl (by rw [List.length_map, whoF_length, ← HWL.out]; exact hplace)
                obtain ⟨h8, h9⟩ := List.getElem?_eq_some_iff.1 hwa
                exact ⟨g', eg, by rw [hcx, List.getElem_map, h9]; rfl⟩
              obtain ⟨gw, rfl, hwc⟩ := hwho
              have hcap2 : pl1 + 1 ≤ pc := by rw [Hpl1.out, ← hpl]; exact hcap
              obtain ⟨qv, Hqv⟩ : ∃ qv, Hid (qv = p.tmod (wl : Int)) := ⟨_, rfl⟩
              have hq1 : p.tmod (wl : Int) = qv := Hqv.out.symm
              rw [← Hqv.out] at HTm
              have hqb : -(wl : Int) ≤ qv ∧ qv < wl := by
                have h3 := HTm.out
                split at h3 <;> omega
              have hn0 : ((wl : Int) == 0) = false := by simp; omega
              obtain ⟨hX7, hF7⟩ := HX6.out.setPicks (.slice (some ⟨b, o5, none⟩) ps.length c5)
              have HXX : Hid (∃ (po' : Option Addr) (pc' : Nat), Value.int .i64 (at_ : Int) = .int .i64 (chI q) ∧ Hid (RnX w (.slice po' q.1.picks.length pc') (.slice ho hn hc) c.bound (w6.setCell ⟨w.heap.size, 0, none⟩ (.slice (some ⟨b, o5, none⟩) pl1 c5)) ∧ VAt (w6.setCell ⟨w.heap.size, 0, none⟩ (.slice (some ⟨b, o5, none⟩) pl1 c5)) po' (q.1.picks.map iV) ∧ q.1.picks.length ≤ pc' ∧ OldP B po' q.1.picks)) := by
                rw [HZ.out.1, HZ.out.2, HPk2.out, Hpl1.out]
                have hbo : b < B := HOld.out.1 _ rfl (by rw [hps]; simp)
                exact ⟨some ⟨b, o5, none⟩, c5, rfl, hX7, HV5.out.1.frm hF7 (fun a e hh => by
                  cases e
                  have h7 : b = w.heap.size := hh
                  have h8 := HOld.out.2
                  omega), HV5.out.2, fun a e _ => by cases e; exact hbo⟩
              have f0 : w6.frozen? ⟨w.heap.size, 0, none⟩ = false := frozen_blkT HX6.out.b2
              clear hpl hcap hwa hqq hplace hX7 hF7 HZ HPk2 HX6 HO6 HP6 hv5 hc5 e5 Hpl Hat Hqv HV5 hps hpb hp1 h0 hcn0 HWL HCn
              by_cases hneg : qv < 0
              · rw [Hid, if_pos hneg] at HTm
                have HT2 : Hid (qv + (wl : Int) = pl) := HTm
                have hq2 : qv + (wl : Int) = (pl : Int) := HTm
                clear HTm
                go_wp2
                go_meet
                exact HXX.out
              · rw [Hid, if_neg hneg] at HTm
                subst HTm
                go_wp2
                go_meet
                exact HXX.out
      case rest =>
        obtain ⟨po', pc', rfl, HX⟩ := hcut
        clear HE HCn HLk HQ HPK HAge HA HAg HWL hwm
        have HB1 : Hid (Below wc.heap.size wc (wc.alloc (.cells #[] 4))) := below_alloc _ _
        go_wp2_with (at_builtin; go_must (refine append_vs _ rfl (.tmp 123) (.tmp 124) 47 4 (.bool false) 1 Try.underlying47 info_bool rfl rfl wc.heap.size _ [] rfl (emptyB wc _) ro n rc (r.map bV) rfl (by rw [List.length_map]; exact HRo.out.2.1) HRo.out.2.2 (HRo.out.1.below (HX.out.1.below.trans (HB1.out.mono HX.out.1.below.size))) (bV_one _) (by simp; omega) (by simp; omega) (by simp [World.size_alloc]) ?_))
        intro v5 w5 ho5 hg5 _
        have hb5 : Below wc.heap.size wc w5 := app_below HB1.out hg5 (fun j hj => by simp [Value.ownBlock] at hj; omega)
        obtain ⟨ao5, c5, rfl, hv5, hq5, -⟩ := ho5.shapeB (l := r) (n := n) (by simp) HRo.out.2.1
        have HX5 : Hid (RnX w (.slice po' q.1.picks.length pc') (.slice ho hn hc) c.bound w5) := HX.out.1.more hb5
        have HV5 : Hid (VAt w5 ao5 (r.map bV) ∧ ∀ a, ao5 = some a → w.heap.size + 2 ≤ a.block ∧ a.block < w5.heap.size) := ⟨hv5, fun a ea => ⟨by have h1 := (hq5 a ea).1; have h2 := lt_of_heapT HX.out.1.b4; omega, (hq5 a ea).2⟩⟩
        have HX5a : Hid (∀ o, RnX w (.slice po' q.1.picks.length pc') (.slice ho hn hc) c.bound (w5.alloc o)) := fun o => HX5.out.more (below_alloc w5 o)
        obtain ⟨t0, t1, t2⟩ := (HX5a.out (.cells #[] 66)).c
        have HP5 : Hid (VAt w5 po' (q.1.picks.map iV)) := HX.out.2.1.below hb5
        clear ho5 hg5 hb5 hv5 hq5 HB1
        go_wp2_with (at_builtin; go_must (refine append_hs _ rfl (.tmp 127) (.tmp 129) rfl w5.heap.size _ rfl (emptyH w5) ho hn hc H rfl HHs.out.2.1 (fun e => ⟨HHs.out.2.2.2 e, by have h1 := HHs.out.2.2.2 e; have h2 := HHs.out.2.2.1; omega⟩) (HHs.out.1.below (HX5a.out _).below) (by omega) (by simp [World.size_alloc]) ?_))
        intro v6 w6 ho6 hg6
        have hb6 : Below w5.heap.size w5 w6 := app_below (below_alloc w5 _) hg6 (fun j hj => by simp [Value.ownBlock] at hj; omega)
        obtain ⟨ao6, c6, rfl, -, -⟩ := ho6.shape
        rw [HHs.out.2.1] at ho6 ⊢
        have HO6 : Hid (OwH w6 w5.heap.size (.slice ao6 hn c6) H ∧ w5.heap.size ≤ w6.heap.size) := ⟨ho6, hb6.size⟩
        have HB6 : Hid (Below w5.heap.size w5 w6) := hb6
        obtain ⟨x, Hx⟩ : ∃ x : He, Hid (x = ⟨ao5, c5, r, chI q⟩) := ⟨⟨ao5, c5, r, chI q⟩, rfl⟩
        clear ho6 hg6 hb6 t0 t1 t2 HX5a
        go_wp2_with (at_builtin; go_must (refine append_h1 _ rfl (.tmp 131) (.tmp 135) rfl w5.heap.size _ H rfl ⟨ao5, c5, r, chI q⟩ n HRo.out.2.1 _ rfl rfl HO6.out.1 (by rw [HHs.out.2.1]; omega) HO6.out.2 ?_))
        intro v7 w7 ho7 hg7
        have hb7 : Below w5.heap.size w5 w7 := HB6.out.trans (hg7.toBelow HO6.out.2 (fun j hj => (HO6.out.1.lt j hj).1))
        obtain ⟨ao7, c7, rfl, hc7, hn7⟩ := ho7.shape
        rw [List.length_append, HHs.out.2.1, List.length_singleton] at ho7 hc7 ⊢
        have HX7 : Hid (RnX w (.slice po' q.1.picks.length pc') (.slice ho hn hc) c.bound w7) := HX5.out.more hb7
        have HV7 : Hid (VAt w7 ao5 (r.map bV)) := HV5.out.1.below hb7
        have HP7 : Hid (VAt w7 po' (q.1.picks.map iV)) := HP5.out.below hb7
        have HF : Hid (∀ W, Frm (fun k => k = w.heap.size ∨ k = w.heap.size + 1) w7 W → RefNW w B c H r (.returned (.tuple #[.agg #[.slice po' q.1.picks.length pc', .int .i64 c.bound, .slice ao7 (hn + 1) c7], .int .i64 (chI q)])) W) := by
          intro W hF
          have hs2 := lt_of_heapT HX7.out.b4
          have hs5 := lt_of_heapT HX5.out.b4
          have hBW : Below w.heap.size w W := HX7.out.below.trans (hF.toBelow HX7.out.below.size (fun k hk => by rcases hk with rfl | rfl <;> omega))
          have hOW : OwH W w5.heap.size (.slice ao7 (hn + 1) c7) (H ++ [⟨ao5, c5, r, chI q⟩]) := ho7.kept fun k hk hl => hF.block k hl (by
            have := (ho7.lt k hk).1
            rintro (h | h) <;> omega)
          have hPW : VAt W po' (q.1.picks.map iV) := by
            intro k hk
            have hk' : k < q.1.picks.length := by simpa using hk
            have hne : q.1.picks ≠ [] := fun e => by rw [e] at hk'; simp at hk'
            obtain ⟨b, off, e, hcc⟩ := HP7.out k hk
            refine ⟨b, off, e, ?_⟩
            have hbw : b < B := HX.out.2.2.2 _ e hne
            have hBw := HOld.out.2
            rw [World.cell?_of_block (a := ⟨b, off + k, none⟩) (w := w7) (hF.block b (by have := HX7.out.below.size; omega) (by rintro (h | h) <;> omega))]
            exact hcc
          have hHV : ∀ y ∈ H ++ [⟨ao5, c5, r, chI q⟩], VAt W y.ao (y.r.map bV) := by
            intro y hy
            rcases List.mem_append.1 hy with h1 | h1
            · obtain ⟨i, hi, rfl⟩ := List.getElem_of_mem h1
              obtain ⟨_, _, _, _, _, h3⟩ := HHs.out.1 i hi
              exact h3.below hBW
            · rw [List.mem_singleton.1 h1]
              exact HV7.out.frm hF (fun a ea hh => by
                have := HV5.out.2 a ea
                rcases hh with hh | hh <;> omega)
          unfold RefNW
          rw [← Hq.out]
          refine ⟨po', pc', ao7, c7, ⟨ao5, c5, r, chI q⟩, ?_, hPW, HX.out.2.2.1, hOW.hs hHV, rfl, rfl, hn7, by rw [HHs.out.2.1]; exact hc7, hBW, HX.out.2.2.2, fun a ea => ?_, fun a ea => ?_⟩
          · rw [HHs.out.2.1]
          · have h1 := (ho7.lt a.block (by rw [ea]; obtain ⟨q1, q2⟩ := own_addr ho7 ea; exact q1)).1; omega
          · have := HV5.out.2 a ea
            have h8 := hF.size
            have h9 := hb7.size
            exact ⟨by omega, by omega⟩
        have f2 : ∀ j, w7.frozen? ⟨w.heap.size, j, none⟩ = false := fun j => frozen_blkT HX7.out.b2
        have f4 : ∀ j, w7.frozen? ⟨w.heap.size + 1, j, none⟩ = false := fun j => frozen_blkT HX7.out.b4
        obtain ⟨t0, t1, t2⟩ := HX7.out.c
        have y0 : w7.cell? ⟨w.heap.size + 1, 0, none⟩ = some (.slice none 0 0) := by rw [cell_blkT HX7.out.b4]; rfl
        have y1 : w7.cell? ⟨w.heap.size + 1, 1, none⟩ = some (.int .i64 0) := by rw [cell_blkT HX7.out.b4]; rfl
        have y2 : w7.cell? ⟨w.heap.size + 1, 2, none⟩ = some (.slice none 0 0) := by rw [cell_blkT HX7.out.b4]; rfl
        have HB4 : Hid (w7.heap[w.heap.size + 1]? = some (.cells #[.slice none 0 0, .int .i64 0, .slice none 0 0] 50)) := HX7.out.b4
        obtain ⟨pl', Hpl'⟩ : ∃ l, Hid (l = q.1.picks.length) := ⟨_, rfl⟩
        rw [← Hpl'.out] at HF t0
        clear HO6 HB6 Hx ho7 hg7 hb7 hc7 hn7 HX HX5 HX7 HV5 HV7 HP5 HP7 Hpl'
        obtain ⟨ci, Hci⟩ : ∃ ci, Hid (ci = chI q) := ⟨_, rfl⟩
        rw [← Hci.out] at HF ⊢
        have HE9 : Hid (∀ W, W = (((w7.setCell ⟨w.heap.size, 2, none⟩ (.slice ao7 (hn + 1) c7)).setCell ⟨w.heap.size + 1, 0, none⟩ (.slice po' pl' pc')).setCell ⟨w.heap.size + 1, 1, none⟩ (.int .i64 c.bound)).setCell ⟨w.heap.size + 1, 2, none⟩ (.slice ao7 (hn + 1) c7) →
            W.cell? ⟨w.heap.size + 1, 0, none⟩ = some (.slice po' pl' pc') ∧ W.cell? ⟨w.heap.size + 1, 1, none⟩ = some (.int .i64 c.bound) ∧ W.cell? ⟨w.heap.size + 1, 2, none⟩ = some (.slice ao7 (hn + 1) c7) ∧ RefNW w B c H r (.returned (.tuple #[.agg #[.slice po' pl' pc', .int .i64 c.bound, .slice ao7 (hn + 1) c7], .int .i64 ci])) W) := by
          intro W hW
          have e1 : (w7.setCell ⟨w.heap.size, 2, none⟩ (.slice ao7 (hn + 1) c7)).heap[w.heap.size + 1]? = some (.cells #[.slice none 0 0, .int .i64 0, .slice none 0 0] 50) := (heap_setCell_other _ _ _ _ (fun e => by have e' : w.heap.size + 1 = w.heap.size := e; omega)).trans HB4.out
          have e2 := heap_setCell_same _ (w.heap.size + 1) 0 _ _ (.slice po' pl' pc') e1
          have e3 := heap_setCell_same _ (w.heap.size + 1) 1 _ _ (.int .i64 c.bound) e2
          have e4 := heap_setCell_same _ (w.heap.size + 1) 2 _ _ (.slice ao7 (hn + 1) c7) e3
          rw [← hW] at e4
          refine ⟨by rw [cell_blkT e4]; rfl, by rw [cell_blkT e4]; rfl, by rw [cell_blkT e4]; rfl, HF.out W ?_⟩
          rw [hW]
          exact ((((Frm.refl (fun k => k = w.heap.size ∨ k = w.heap.size + 1) w7).setCell ⟨w.heap.size, 2, none⟩ _ (.inl (.inl rfl))).setCell ⟨w.heap.size + 1, 0, none⟩ _ (.inl (.inr rfl))).setCell ⟨w.heap.size + 1, 1, none⟩ _ (.inl (.inr rfl))).setCell ⟨w.heap.size + 1, 2, none⟩ _ (.inl (.inr rfl))
        clear HF
        go_wp2
        obtain ⟨g0, g1, g2, HR⟩ := HE9.out _ rfl
        have HRH : Hid (RefNW w B c H r _ _) := HR
        refine bodyPost_ret (v := .tuple #[.agg #[.slice po' pl' pc', .int .i64 c.bound, .slice ao7 (hn + 1) c7], .int .i64 ci]) (by simp [results, Try.results18, go_sem, g0, g1, g2]) rfl HRH.out
end Go.Proofs.Ytagdgecmoeacgaa
