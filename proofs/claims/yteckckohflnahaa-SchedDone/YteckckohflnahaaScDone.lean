/- Layer 17 (sched): the law on all work being done. -/
import Derived.Test.YteckckohflnahaaScPlayW
import Derived.Test.YteckckohflnahaaScDoneM
import Derived.Test.YteckckohflnahaaScJobs
import Derived.Test.YteckckohflnahaaScPicks
namespace Go.Proofs.Yteckckohflnahaa
open Go.RowKit
set_option linter.unusedVariables false
variable {S S' : Nat → Prop}

/-- The law's jobs. -/
def JD (work : List Int) : List (Int × Int) := (work.take 20).map fun w => (0, min w 20)
theorem JD_length (work : List Int) : (JD work).length = min 20 work.length := by simp [JD]
theorem JD_succ {work : List Int} {k : Nat} (hk : k < work.length) (h20 : k < 20) : (JD work).take (k + 1) = (JD work).take k ++ [((0 : Int), min work[k] 20)] := by
  have hl : k < (JD work).length := by rw [JD_length]; omega
  rw [List.take_succ_eq_append_getElem hl]
  congr 2
  simp [JD]
theorem JD_more {work : List Int} {k : Nat} (h20 : 20 ≤ k) : (JD work).take (k + 1) = (JD work).take k := by
  rw [List.take_of_length_le (by rw [JD_length]; omega), List.take_of_length_le (by rw [JD_length]; omega)]
theorem sumW_append (js ks : List (Int × Int)) : sumW (js ++ ks) = sumW js + sumW ks := by simp [sumW]
theorem sumW_one (a b : Int) : sumW [(a, b)] = b.toNat := by simp [sumW]
theorem sumW_le : ∀ (js : List (Int × Int)), (∀ j ∈ js, j.2 ≤ 20) → sumW js ≤ js.length * 20
  | [], _ => by simp [sumW]
  | j :: js, h => by
    have h1 := sumW_le js (fun y hy => h y (List.mem_cons_of_mem _ hy))
    have h2 := h j (List.mem_cons_self ..)
    simp only [sumW, List.map_cons, List.sum_cons, List.length_cons] at h1 ⊢
    omega
theorem JD_mem {work : List Int} : ∀ j ∈ JD work, j.1 ≤ 0 ∧ j.2 ≤ 20 := by
  intro j hj
  obtain ⟨w, _, rfl⟩ := List.mem_map.1 hj
  exact ⟨Int.le_refl _, by show min w 20 ≤ 20; omega⟩
theorem JD_sum (work : List Int) (k : Nat) : sumW ((JD work).take k) ≤ 400 := by
  have h := sumW_le ((JD work).take k) (fun j hj => (JD_mem j (List.mem_of_mem_take hj)).2)
  have : ((JD work).take k).length ≤ 20 := by rw [List.length_take, JD_length]; omega
  omega
/-- Behind k rounds of the law's first loop. -/
structure DoI (w : World) (work : List Int) (k : Nat) (v : Value) (sum : Nat) (wr : World) : Prop where
  jobs : OwJ wr w.heap.size v ((JD work).take k)
  sum : sum = sumW ((JD work).take k)
  below : Below w.heap.size w wr
theorem DoI.len {w wr : World} {work : List Int} {k s l c : Nat} {ao : Option Addr} (h : DoI w work k (.slice ao l c) s wr) : l = min k (min 20 work.length) := by
  obtain ⟨ao', c', e⟩ := h.jobs.shape
  simp only [Value.slice.injEq] at e
  rw [e.2.1, List.length_take, JD_length]
theorem DoI.more {w wr w' : World} {work : List Int} {k s : Nat} {v : Value} (h : DoI w work k v s wr) (hb : Below wr.heap.size wr w') : DoI w work k v s w' := ⟨h.jobs.below hb, h.sum, h.below.trans (hb.mono h.below.size)⟩
theorem DoI.app {w wr w' : World} {work : List Int} {k s : Nat} {v v' : Value} {x : Int} (h : DoI w work k v s wr) (hk : k < work.length) (h20 : k < 20) (hx : min work[k] 20 = x) (hj : OwJ w' w.heap.size v' ((JD work).take k ++ [(0, x)])) (hg : Grew wr w' v v') (s' : Nat) (hs : s' = s + x.toNat) : DoI w work (k + 1) v' s' w' := by
  subst hx
  refine ⟨by rw [JD_succ hk h20]; exact hj, ?_, h.below.trans (hg.toBelow h.below.size fun j hj => (h.jobs.lt j hj).1)⟩
  rw [JD_succ hk h20, sumW_append, sumW_one, ← h.sum]
  exact hs

theorem left_step {js : List (Int × Int)} {l k : Nat} (hk : k < js.length) (hl : js.length = l) : ((js.take k).map (fun j : Int × Int => j.2) ++ List.replicate (l - k) 0).set k js[k].2 = (js.take (k + 1)).map (fun j : Int × Int => j.2) ++ List.replicate (l - (k + 1)) 0 := by
  have hlen : ((js.take k).map (fun j : Int × Int => j.2)).length = k := by rw [List.length_map, List.length_take]; omega
  rw [List.set_append_right _ _ (by omega), hlen, Nat.sub_self, show l - k = (l - (k + 1)) + 1 by omega, List.replicate_succ, List.set_cons_zero, List.take_succ_eq_append_getElem hk, List.map_append, List.append_assoc]
  rfl

set_option maxRecDepth 100000 in
set_option maxHeartbeats 4000000 in
theorem schedDone_calls (wo : Option Addr) (wn wc : Nat) (work : List Int) (ao : Option Addr) (pn cap : Nat) (ps : List Int) (bound : Int) (w : World) (hw : VAt w wo (work.map iV)) (hwn : work.length = wn) (hwl : wn ≤ 17592186044415)
    (hp : VAt w ao (ps.map iV)) (hpn : ps.length = pn) (hpl : pn ≤ 17592186044415) (hnil : ao = none → cap = 0 ∧ pn = 0) (hpr : ∀ p ∈ ps, -9223372036854775808 ≤ p ∧ p ≤ 9223372036854775807) (hb2 : bound ≤ 9223372036854775807) :
    Calls Try.prog 8 #[.slice wo wn wc, .slice ao pn cap, .int .i64 bound] w fun e w' => e = .returned (.bool true) ∧ Below w.heap.size w w' := by
  have HA := alive_calls w
  have HW : Hid (VAt w wo (work.map iV)) := hw
  have HP : Hid (VAt w ao (ps.map iV)) := hp
  have HL : Hid (work.length = wn ∧ ps.length = pn) := ⟨hwn, hpn⟩
  have HNil : Hid (ao = none → cap = 0 ∧ pn = 0) := hnil
  have HPR : Hid (∀ p ∈ ps, -9223372036854775808 ≤ p ∧ p ≤ 9223372036854775807) := hpr
  have HB2 : Hid (bound ≤ 9223372036854775807) := hb2
  clear hw hp hwn hpn hnil hpr hb2
  go_enter Try.func8, Try.ntmps8
  go_wp2_with fail
  refine HA.mono ?_
  clear HA
  rintro e w1 ⟨rfl, hb1⟩
  have HI : Hid (DoI w work 0 (.slice (some ⟨w1.heap.size, 0, none⟩) 0 0) 0 (w1.alloc (.cells #[] 49))) := ⟨(emptyJ w1).mono hb1.size, by simp [sumW], hb1.trans ((below_alloc1 w1 _).mono hb1.size)⟩
  obtain ⟨w2, hw2⟩ : ∃ w2, Hid (w2 = w1.alloc (.cells #[] 49)) := ⟨_, rfl⟩
  rw [← hw2.out] at HI
  clear hb1
  go_wp2
  rw [← hw2.out]
  clear hw2
  go_loopw [7, 8, 22] (fun x y i wr => ∃ (k : Nat) (jo : Option Addr) (l c s : Nat), k ≤ wn ∧ i = .int .i64 (k : Int) ∧ x = .slice jo l c ∧ y = .int .i64 (s : Int) ∧ Hid (DoI w work k (.slice jo l c) s wr)) (fun _ _ i _ => wn - (intOf i).toNat)
  case atStart => exact ⟨0, _, _, _, 0, Nat.zero_le _, rfl, rfl, rfl, HI⟩
  case round =>
    clear HI
    obtain ⟨k, jo, l, c, s, hk, rfl, rfl, rfl, HI⟩ := hrel
    by_cases hlt : k < wn
    · have hkw : k < work.length := by rw [HL.out.1]; exact hlt
      obtain ⟨b, off, rfl, hc0⟩ := (HW.out.below HI.out.below).int k hkw
      have hs4 : s ≤ 400 := by rw [HI.out.sum]; exact JD_sum work k
      by_cases h20 : k < 20
      · have HT : Hid (∀ x v' w' s', min (work[k]'hkw) 20 = x → OwJ w' w.heap.size v' ((JD work).take k ++ [(0, x)]) → Grew wr w' (.slice jo l c) v' → s' = s + x.toNat → DoI w work (k + 1) v' s' w') := fun x v' w' s' hx hj hg hs => HI.out.app hkw h20 hx hj hg s' hs
        obtain ⟨x, Hx⟩ : ∃ x, Hid (x = work[k]'hkw) := ⟨work[k]'hkw, rfl⟩
        rw [← Hx.out] at hc0 HT
        have HLn : Hid (((JD work).take k).length ≤ 20) := by rw [Hid, List.length_take, JD_length]; omega
        have HJ0 : Hid (OwJ wr w.heap.size (.slice jo l c) ((JD work).take k) ∧ w.heap.size ≤ wr.heap.size) := ⟨HI.out.jobs, HI.out.below.size⟩
        clear Hx HI hkw
        by_cases hx1 : 20 < x
        · go_wp2_with (at_builtin; go_must (refine append_j _ rfl (.tmp 31) (.tmp 34) rfl w.heap.size _ ((JD work).take k) rfl (0, 20) _ rfl rfl HJ0.out.1 (by have := HLn.out; omega) HJ0.out.2 ?_))
          intro v5 w5 ho5 hg5
          have HI5 : Hid (DoI w work (k + 1) v5 (s + 20) w5) := HT.out 20 v5 w5 _ (by omega) ho5 hg5 rfl
          obtain ⟨ao5, c5, rfl⟩ := ho5.shape
          obtain ⟨l5, Hl5⟩ : ∃ l5, Hid (l5 = ((JD work).take k ++ [((0 : Int), (20 : Int))]).length) := ⟨_, rfl⟩
          rw [← Hl5.out] at HI5 ⊢
          clear ho5 hg5 HJ0 HT Hl5
          go_wp2
          go_roundw
          case rel => exact ⟨k + 1, ao5, l5, c5, s + 20, by omega, by go_num, rfl, by go_num, HI5⟩
          case measure => simp [intOf]; omega
        · have hx2 : x ≤ 20 := by omega
          by_cases hx3 : 0 < x
          · obtain ⟨xn, rfl⟩ : ∃ n : Nat, x = (n : Int) := ⟨x.toNat, by omega⟩
            go_wp2_with (at_builtin; go_must (refine append_j _ rfl (.tmp 31) (.tmp 34) rfl w.heap.size _ ((JD work).take k) rfl (0, (xn : Int)) _ rfl rfl HJ0.out.1 (by have := HLn.out; omega) HJ0.out.2 ?_))
            intro v5 w5 ho5 hg5
            have HI5 : Hid (DoI w work (k + 1) v5 (s + xn) w5) := HT.out _ v5 w5 _ (by omega) ho5 hg5 rfl
            obtain ⟨ao5, c5, rfl⟩ := ho5.shape
            obtain ⟨l5, Hl5⟩ : ∃ l5, Hid (l5 = ((JD work).take k ++ [((0 : Int), (xn : Int))]).length) := ⟨_, rfl⟩
            rw [← Hl5.out] at HI5 ⊢
            clear ho5 hg5 HJ0 HT Hl5
            go_wp2
            go_roundw
            case rel => exact ⟨k + 1, ao5, l5, c5, s + xn, by omega, by go_num, rfl, by go_num, HI5⟩
            case measure => simp [intOf]; omega
          · go_wp2_with (at_builtin; go_must (refine append_j _ rfl (.tmp 31) (.tmp 34) rfl w.heap.size _ ((JD work).take k) rfl (0, x) _ rfl rfl HJ0.out.1 (by have := HLn.out; omega) HJ0.out.2 ?_))
            intro v5 w5 ho5 hg5
            have HI5 : Hid (DoI w work (k + 1) v5 s w5) := HT.out _ v5 w5 _ (by omega) ho5 hg5 (by omega)
            obtain ⟨ao5, c5, rfl⟩ := ho5.shape
            obtain ⟨l5, Hl5⟩ : ∃ l5, Hid (l5 = ((JD work).take k ++ [((0 : Int), x)]).length) := ⟨_, rfl⟩
            rw [← Hl5.out] at HI5 ⊢
            clear ho5 hg5 HJ0 HT Hl5
            go_wp2
            go_roundw
            case rel => exact ⟨k + 1, ao5, l5, c5, s, by omega, by go_num, rfl, rfl, HI5⟩
            case measure => simp [intOf]; omega
      · have HI5 : Hid (DoI w work (k + 1) (.slice jo l c) s wr) := ⟨by rw [JD_more (by omega)]; exact HI.out.jobs, by rw [JD_more (by omega)]; exact HI.out.sum, HI.out.below⟩
        clear HI
        go_wp2
        go_roundw
        case rel => exact ⟨k + 1, jo, l, c, s, by omega, by go_num, rfl, rfl, HI5⟩
        case measure => simp [intOf]; omega
    · have hkn : k = wn := by omega
      obtain ⟨js, Hjs⟩ : ∃ js, Hid (js = JD work) := ⟨_, rfl⟩
      have HT : Hid ((JD work).take k = js) := by rw [Hid, Hjs.out, List.take_of_length_le (by rw [JD_length, HL.out.1]; omega)]
      have hll := HI.out.len
      have hjl : js.length = l := by rw [Hjs.out, JD_length, HL.out.1, hll, HL.out.1]; omega
      have hl20 : l ≤ 20 := by omega
      have HJ : Hid (OwJ wr w.heap.size (.slice jo l c) js ∧ s = sumW js) := by
        have := HI.out
        exact ⟨by rw [← HT.out]; exact this.jobs, by rw [← HT.out]; exact this.sum⟩
      have HBr : Hid (Below w.heap.size w wr) := HI.out.below
      have hs4 : s ≤ 400 := by rw [HI.out.sum]; exact JD_sum work k
      have HJL : Hid (js.length = l) := hjl
      have HJ0 : Hid (∀ j ∈ js, j.1 ≤ 0) := fun j hj => (JD_mem j (by rw [← Hjs.out]; exact hj)).1
      have HJ20 : Hid (∀ (a : Nat), a < js.length → (js.map (fun j : Int × Int => j.2)).getD a 0 ≤ 20) := fun a ha => by
        rw [List.getD_eq_getElem?_getD, List.getElem?_map, List.getElem?_eq_getElem ha]
        exact (JD_mem _ (by rw [← Hjs.out]; exact List.getElem_mem ha)).2
      have HB10 : Hid (Below wr.heap.size wr (wr.alloc (.cells #[] 3))) := below_alloc1 _ _
      clear HI HT Hjs hkn hll hjl
      go_wp2_with (at_builtin; go_must (refine append_vs _ rfl (.tmp 43) (.tmp 44) 22 3 (.int .i64 0) 8 Try.underlying22 info_int rfl rfl wr.heap.size _ [] rfl (emptyI wr) ao pn cap (ps.map iV) rfl (by rw [List.length_map]; exact HL.out.2) HNil.out (HP.out.below (HBr.out.trans (HB10.out.mono HBr.out.size))) (iV_one _) (by simp; omega) (by simp; omega) (by simp [World.size_alloc]) ?_))
      intro v3 w3 ho3 hg3 _
      have hb13 : Below wr.heap.size wr w3 := app_below HB10.out hg3 (fun j hj => by simp [Value.ownBlock] at hj; omega)
      obtain ⟨ao3, c3, rfl, hv3, hq3, hn3⟩ := ho3.shapeI (l := ps) (n := pn) (by simp) HL.out.2
      have HPC := play_calls w3 jo l c js ao3 pn c3 ps bound 1000 1000 (HJ.out.1.below hb13).jb HJL.out (by omega) hv3 HL.out.2 (by omega) hn3 HPR.out HB2.out rfl (by omega)
      have HB3 : Hid (Below w.heap.size w w3 ∧ Below wr.heap.size wr w3) := ⟨HBr.out.trans (hb13.mono HBr.out.size), hb13⟩
      obtain ⟨hgl, hge, -⟩ := play_all (ps := ps) (b := max bound 1) (mx := 1000) HJ0.out (by rw [← HJ.out.2]; omega)
      obtain ⟨G, HG⟩ : ∃ G, Hid (G = playP ps (max bound 1) js 1000) := ⟨_, rfl⟩
      rw [← HG.out] at HPC hgl
      have HGE : Hid (∀ (k : Nat) (h : k < G.length), G[k] < js.length ∧ ((G.take k).count G[k] : Int) < (js.map (fun j : Int × Int => j.2)).getD G[k] 0) := by
        rw [Hid, HG.out]; exact hge
      have HGL : Hid (G.length = s) := by rw [Hid, hgl, ← HJ.out.2]
      clear hge hgl hb13 hv3 hq3 hn3 ho3 hg3 HB10 HG
      go_wp2_with fail
      refine HPC.mono ?_
      clear HPC
      rintro e w4 ⟨⟨v, rfl, ho4⟩, hb4⟩
      obtain ⟨go, gc, rfl, -⟩ := ho4.shape
      rw [List.length_map, HGL.out] at ho4 ⊢
      have HB4 : Hid (Below w.heap.size w w4) := HB3.out.1.trans (hb4.mono HB3.out.1.size)
      have HV4 : Hid (VAt w4 go (G.map nV)) := ho4.v
      have HGo : Hid (∀ a, go = some a → w.heap.size ≤ a.block ∧ a.block < w4.heap.size) := fun a ea => by
        obtain ⟨-, q2, q3⟩ := ho4.block a ea
        exact ⟨Nat.le_trans HB3.out.1.size q2, q3⟩
      have HJ4 : Hid (JbAt w4 jo js) := ((HJ.out.1.below HB3.out.2).below hb4).jb
      obtain ⟨w5, hmk, ho5, hb5⟩ := make_int w4 l (by omega)
      obtain ⟨g, Hg⟩ : ∃ g, Hid (g = w4.heap.size) := ⟨_, rfl⟩
      rw [← Hg.out] at hmk ho5
      have HI5 : Hid (Ow w5 g 3 (.slice (some ⟨g, 0, none⟩) l l) (((js.take 0).map (fun j : Int × Int => j.2) ++ List.replicate (l - 0) 0).map iV) ∧ Below w4.heap.size w4 w5) := ⟨by simpa [iV] using ho5, hb5⟩
      have hss : ((s : Int) != (s : Int)) = false := by simp
      clear ho4 hb4 ho5 hb5 HJ HBr HB3
      go_wp2
      clear hmk hss
      go_loopw [57] (fun i wr => ∃ k : Nat, k ≤ l ∧ i = .int .i64 (k : Int) ∧ Hid (Ow wr g 3 (.slice (some ⟨g, 0, none⟩) l l) (((js.take k).map (fun j : Int × Int => j.2) ++ List.replicate (l - k) 0).map iV) ∧ Below w4.heap.size w4 wr)) (fun i _ => l - (intOf i).toNat)
      case atStart => exact ⟨0, Nat.zero_le _, rfl, HI5⟩
      case round =>
        clear HI5
        obtain ⟨k, hk, rfl, HI⟩ := hrel
        by_cases hlt : k < l
        · have hkj : k < js.length := by rw [HJL.out]; exact hlt
          obtain ⟨b, off, rfl, hc0, hc1⟩ := (HJ4.out.below HI.out.2) k hkj
          obtain ⟨ja, Hja⟩ : ∃ ja, Hid (ja = (js[k]'hkj).1) := ⟨(js[k]'hkj).1, rfl⟩
          obtain ⟨jb, Hjb⟩ : ∃ jb, Hid (jb = (js[k]'hkj).2) := ⟨(js[k]'hkj).2, rfl⟩
          rw [← Hja.out] at hc0
          rw [← Hjb.out] at hc1
          have HN : Hid (∀ W, Ow W g 3 (.slice (some ⟨g, 0, none⟩) l l) (((js.take k).map (fun j : Int × Int => j.2) ++ List.replicate (l - k) 0).map iV) → Ow (W.setCell ⟨g, k, none⟩ (.int .i64 jb)) g 3 (.slice (some ⟨g, 0, none⟩) l l) (((js.take (k + 1)).map (fun j : Int × Int => j.2) ++ List.replicate (l - (k + 1)) 0).map iV)) := fun W hW => by
            have h1 := hW.stored k (iV jb)
            rw [← List.map_set, Hjb.out, left_step hkj HJL.out] at h1
            rw [Hjb.out]
            exact h1
          have HIa : Hid (∀ o, Ow (wr.alloc o) g 3 (.slice (some ⟨g, 0, none⟩) l l) (((js.take k).map (fun j : Int × Int => j.2) ++ List.replicate (l - k) 0).map iV) ∧ Below w4.heap.size w4 (wr.alloc o)) := fun o => ⟨HI.out.1.below (below_alloc1 wr o), HI.out.2.alloc HI.out.2.size o⟩
          have hqq : (∃ old, (wr.alloc (.cells #[.int .i64 ja, .int .i64 jb] 49)).cell? ⟨g, k, none⟩ = some old) ∧ (wr.alloc (.cells #[.int .i64 ja, .int .i64 jb] 49)).frozen? ⟨g, k, none⟩ = false := by
            obtain ⟨g', eg, hcx, hfx⟩ := (HIa.out (.cells #[.int .i64 ja, .int .i64 jb] 49)).1.at k (by simp; omega)
            simp only [Option.some.injEq, Addr.mk.injEq, and_true] at eg
            subst eg
            exact ⟨⟨_, hcx⟩, hfx⟩
          obtain ⟨⟨old, hcx⟩, hfx⟩ := hqq
          have HIn : Hid (Ow ((wr.alloc (.cells #[.int .i64 ja, .int .i64 jb] 49)).setCell ⟨g, k, none⟩ (.int .i64 jb)) g 3 (.slice (some ⟨g, 0, none⟩) l l) (((js.take (k + 1)).map (fun j : Int × Int => j.2) ++ List.replicate (l - (k + 1)) 0).map iV) ∧ Below w4.heap.size w4 ((wr.alloc (.cells #[.int .i64 ja, .int .i64 jb] 49)).setCell ⟨g, k, none⟩ (.int .i64 jb))) := ⟨HN.out _ (HIa.out _).1, (HIa.out _).2.setCell (by show w4.heap.size ≤ g; rw [Hg.out]; exact Nat.le_refl _) _⟩
          clear HI HIa HN
          go_wp2
          go_roundw
          case rel => exact ⟨k + 1, by omega, by go_num, HIn⟩
          case measure => simp [intOf]; omega
        · have HIL : Hid (Ow wr g 3 (.slice (some ⟨g, 0, none⟩) l l) ((leftL js G 0).map iV) ∧ Below w4.heap.size w4 wr) := by
            have h1 := HI.out
            rw [show k = l by omega, List.take_of_length_le (by rw [HJL.out]; exact Nat.le_refl _), Nat.sub_self, List.replicate_zero, List.append_nil, ← leftL_zero js G] at h1
            exact h1
          clear HI
          go_wp2
          go_loopw [70] (fun i wr => ∃ k : Nat, k ≤ s ∧ i = .int .i64 (k : Int) ∧ Hid (Ow wr g 3 (.slice (some ⟨g, 0, none⟩) l l) ((leftL js G k).map iV) ∧ Below w4.heap.size w4 wr)) (fun i _ => s - (intOf i).toNat)
          case atStart => exact ⟨0, Nat.zero_le _, rfl, HIL⟩
          case round =>
            clear HIL
            obtain ⟨k, hk, rfl, HI⟩ := hrel
            by_cases hlt : k < s
            · have hkg : k < G.length := by rw [HGL.out]; exact hlt
              obtain ⟨b, off, rfl, hc⟩ := (HV4.out.below HI.out.2) k (by rw [List.length_map]; exact hkg)
              obtain ⟨ha, hcnt⟩ := HGE.out k hkg
              have HSt : Hid (∀ y : Int, y = (js.map (fun j : Int × Int => j.2)).getD G[k] 0 - ((G.take k).count G[k] : Int) - 1 → (leftL js G k).set G[k] y = leftL js G (k + 1)) := fun y hy => by rw [hy]; exact leftL_succ hkg ha
              have hat := leftL_at (js := js) (D := G) (k := k) ha
              obtain ⟨y, Hy⟩ : ∃ y : Int, Hid (y = (js.map (fun j : Int × Int => j.2)).getD (G[k]'hkg) 0 - ((G.take k).count (G[k]'hkg) : Int)) := ⟨(js.map (fun j : Int × Int => j.2)).getD (G[k]'hkg) 0 - ((G.take k).count (G[k]'hkg) : Int), rfl⟩
              have hy1 : 1 ≤ y := by rw [Hy.out]; omega
              have hym : y ≤ 20 := by
                have h9 := HJ20.out (G[k]'hkg) ha
                rw [Hy.out]; omega
              rw [← Hy.out] at hat HSt
              obtain ⟨a, Ha⟩ : ∃ a, Hid (a = G[k]'hkg) := ⟨G[k]'hkg, rfl⟩
              rw [← Ha.out] at ha hat HSt
              have hca : wr.cell? ⟨b, off + k, none⟩ = some (.int .i64 (a : Int)) := by rw [hc, List.getElem_map, ← Ha.out]; rfl
              have hal : a < l := by rw [← HJL.out]; exact ha
              have hcy : wr.cell? ⟨g, a, none⟩ = some (.int .i64 y) ∧ wr.frozen? ⟨g, a, none⟩ = false := by
                obtain ⟨g', eg, hcx, hfx⟩ := HI.out.1.at a (by rw [List.length_map, leftL_length]; exact ha)
                simp only [Option.some.injEq, Addr.mk.injEq, and_true] at eg
                subst eg
                refine ⟨?_, hfx⟩
                rw [hcx]
                obtain ⟨h1, h2⟩ := List.getElem?_eq_some_iff.1 hat
                rw [List.getElem_map, h2]; rfl
              obtain ⟨hcy, hfy⟩ := hcy
              have HIn : Hid (Ow (wr.setCell ⟨g, a, none⟩ (.int .i64 (y - 1))) g 3 (.slice (some ⟨g, 0, none⟩) l l) ((leftL js G (k + 1)).map iV) ∧ Below w4.heap.size w4 (wr.setCell ⟨g, a, none⟩ (.int .i64 (y - 1)))) := by
                refine ⟨?_, HI.out.2.setCell (by show w4.heap.size ≤ g; rw [Hg.out]; exact Nat.le_refl _) _⟩
                have h1 := HI.out.1.stored a (iV (y - 1))
                rw [← List.map_set, HSt.out (y - 1) rfl] at h1
                exact h1
              have ha0 : ¬ ((a : Int) < 0) := by omega
              have hy2 : ¬ (y < 1) := by omega
              clear HI HSt hat hc hcnt ha Hy
              go_wp2
              go_roundw
              case rel => exact ⟨k + 1, by omega, by go_num, HIn⟩
              case measure => simp [intOf]; omega
            · go_wp2
              go_ret
              exact ⟨rfl, HB4.out.trans (HI.out.2.mono HB4.out.size)⟩
end Go.Proofs.Yteckckohflnahaa
