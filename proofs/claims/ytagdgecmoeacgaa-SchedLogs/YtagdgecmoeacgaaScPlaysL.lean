/- Layer 17 (sched): the law on every Play. -/
import Derived.Test.YtagdgecmoeacgaaScSame
import Derived.Test.YtagdgecmoeacgaaScAlive
import Derived.Test.YtagdgecmoeacgaaScPicks
import Derived.Test.YtagdgecmoeacgaaScJobs
import Derived.Test.YtagdgecmoeacgaaScPlayW
import Derived.Test.YtagdgecmoeacgaaScRefPlay
namespace Go.Proofs.Ytagdgecmoeacgaa
open Go.RowKit
set_option linter.unusedVariables false
variable {S S' : Nat → Prop}

theorem stepR_len (s : St) : (stepR s).D.length ≤ s.D.length + 1 := by
  unfold stepR
  split <;> simp
theorem runR_len : ∀ (k : Nat) (s : St), (runR k s).D.length ≤ s.D.length + k
  | 0, s => Nat.le_refl _
  | k + 1, s => by
    have h1 := runR_len k (stepR s)
    have h2 := stepR_len s
    show (runR k (stepR s)).D.length ≤ _
    omega
theorem playP_length (ps : List Int) (b : Int) (js : List (Int × Int)) (mx : Nat) : (playP ps b js mx).length ≤ mx := by
  have := runR_len mx (st0 ps b js)
  have h0 : (st0 ps b js).D.length = 0 := rfl
  unfold playP
  omega
/-- What was written over in part. -/
theorem over_step {l : List Value} {k : Nat} (hk : k < l.length) (u : Value) : (List.replicate k u ++ l.drop k).set k u = List.replicate (k + 1) u ++ l.drop (k + 1) := by
  rw [List.set_append_right _ _ (by simp), List.length_replicate, Nat.sub_self, List.drop_eq_getElem_cons hk, List.set_cons_zero, List.replicate_succ', List.append_assoc]
  rfl
def gmC (jo : Option Addr) (jn jc : Nat) (ao : Option Addr) (pn pc : Nat) (bound steps : Int) : Array Value := #[.slice jo jn jc, .slice ao pn pc, .int .i64 bound, .int .i64 steps]
/-- What each operation of the region that reads the game leaves. -/
def GmR (B g : Nat) (jo : Option Addr) (jn jc : Nat) (ao : Option Addr) (pn pc : Nat) (bound steps : Int) (l : Nat) (ks : List (Int × Int)) (j : Nat) (v : Value) (W : World) : Prop :=
  match j with
  | 0 => v = .pointer (some ⟨g, 0, none⟩)
  | 1 => v = .slice jo jn jc
  | 2 => ∃ jo2 c2, v = .slice jo2 l c2 ∧ OwJ W B (.slice jo2 l c2) ks
  | 3 => v = .pointer (some ⟨g, 1, none⟩)
  | 4 => v = .slice ao pn pc
  | 5 => v = .pointer (some ⟨g, 2, none⟩)
  | 6 => v = .int .i64 bound
  | 7 => v = .pointer (some ⟨g, 3, none⟩)
  | 8 => v = .int .i64 steps
  | 9 => ∃ jo2 c2, v = .slice jo2 l c2 ∧ OwJ W B (.slice jo2 l c2) ks
  | 10 => v = .slice ao pn pc
  | 11 => v = .int .i64 bound
  | 12 => v = .int .i64 steps
  | _ => False
theorem GmR.mono {B g : Nat} {jo : Option Addr} {jn jc : Nat} {ao : Option Addr} {pn pc : Nat} {bound steps : Int} {l : Nat} {ks : List (Int × Int)} {j : Nat} {v : Value} {W W' : World} (h : GmR B g jo jn jc ao pn pc bound steps l ks j v W) (hb : Below W.heap.size W W') : GmR B g jo jn jc ao pn pc bound steps l ks j v W' := by
  match j, h with
  | 0, h => exact h
  | 1, h => exact h
  | 2, ⟨jo2, c2, h1, h2⟩ => exact ⟨jo2, c2, h1, h2.below hb⟩
  | 3, h => exact h
  | 4, h => exact h
  | 5, h => exact h
  | 6, h => exact h
  | 7, h => exact h
  | 8, h => exact h
  | 9, ⟨jo2, c2, h1, h2⟩ => exact ⟨jo2, c2, h1, h2.below hb⟩
  | 10, h => exact h
  | 11, h => exact h
  | 12, h => exact h
  | n + 13, h => exact h

set_option maxRecDepth 100000 in
set_option maxHeartbeats 4000000 in
theorem schedPlays_calls (jo : Option Addr) (jn jc : Nat) (js : List (Int × Int)) (ao : Option Addr) (pn pc : Nat) (ps : List Int) (bound steps : Int) (w : World)
    (hj : JbAt w jo js) (hjn : js.length = jn) (hjl : jn ≤ 140737488355328) (hp : VAt w ao (ps.map iV)) (hpn : ps.length = pn) (hpl : pn ≤ 17592186044415) (hpcap : pn ≤ pc) (hnil : ao = none → pc = 0 ∧ pn = 0)
    (hpr : ∀ p ∈ ps, -9223372036854775808 ≤ p ∧ p ≤ 9223372036854775807) (hb2 : bound ≤ 9223372036854775807) :
    Calls Try.prog 3 #[.agg (gmC jo jn jc ao pn pc bound steps)] w fun e w' => e = .returned (.bool true) ∧ Below w.heap.size w w' := by
  have HJ : Hid (JbAt w jo js ∧ js.length = jn ∧ jn ≤ 140737488355328) := ⟨hj, hjn, hjl⟩
  have HP : Hid (VAt w ao (ps.map iV) ∧ ps.length = pn ∧ pn ≤ 17592186044415 ∧ pn ≤ pc) := ⟨hp, hpn, hpl, hpcap⟩
  have HNil : Hid (ao = none → pc = 0 ∧ pn = 0) := hnil
  have HPR : Hid (∀ p ∈ ps, -9223372036854775808 ≤ p ∧ p ≤ 9223372036854775807) := hpr
  have HB2 : Hid (bound ≤ 9223372036854775807) := hb2
  clear hj hjn hjl hp hpn hpl hpcap hnil hpr hb2
  obtain ⟨w1, hw1⟩ : ∃ w1, Hid (w1 = w.alloc (.cells (gmC jo jn jc ao pn pc bound steps) 25)) := ⟨_, rfl⟩
  have HB1 : Hid (Below w.heap.size w w1) := by rw [Hid, hw1.out]; exact below_alloc1 _ _
  have HG1 : Hid (w1.heap[w.heap.size]? = some (.cells (gmC jo jn jc ao pn pc bound steps) 25)) := by rw [Hid, hw1.out]; exact heap_alloc_new w _
  have HA := alive_calls w1
  unfold gmC at hw1 ⊢
  go_enter Try.func3, Try.ntmps3
  go_wp2_with fail
  rw [← hw1.out]
  clear hw1
  refine HA.mono ?_
  clear HA
  rintro e w2 ⟨rfl, hb2⟩
  have HB2 : Hid (Below w.heap.size w w2) := HB1.out.trans (hb2.mono HB1.out.size)
  have HG2 : Hid (w2.heap[w.heap.size]? = some (.cells (gmC jo jn jc ao pn pc bound steps) 25)) := (hb2.block _ (lt_of_heapT HG1.out)).trans HG1.out
  obtain ⟨g, Hg⟩ : ∃ g, Hid (g = w.heap.size) := ⟨_, rfl⟩
  rw [← Hg.out] at HG2 ⊢
  clear hb2 HB1 HG1
  obtain ⟨l, Hl⟩ : ∃ l, Hid (l = (js.take 20).length) := ⟨_, rfl⟩
  go_upto_region 3 with fail
  refine wp_region_V 13 (fun _ _ W => Below w2.heap.size w2 W) (GmR w2.heap.size g jo jn jc ao pn pc bound steps l (js.take 20)) (by kernel_rfl) rfl (by kernel_rfl) (by kernel_rfl) [some 12, some 13, some 14, some 15, some 16, some 17, some 18, some 19, some 20, some 3, some 4, some 5, some 6] (by kernel_rfl) ?J0 ?hop ?tail
  case J0 => exact fun W vs hW => hW
  case hop =>
    intro i o hi ho a W ls vs hB hlf hs hd hall
    have hgW : W.heap[g]? = some (.cells (gmC jo jn jc ao pn pc bound steps) 25) := (hB.block _ (lt_of_heapT HG2.out)).trans HG2.out
    match i, hi, ho, hd with
    | 0, _, ho, hd =>
      obtain rfl := Option.some.inj ho
      refine ⟨.inl rfl, ?_⟩
      exact f_fldGame (x := .tmp 1) 0 (by decide) rfl ((hs 1 (notDst (by kernel_rfl))).trans rfl) ⟨_, rfl, rfl, hB, fun _ _ _ _ h => h⟩
    | 1, _, ho, hd =>
      obtain rfl := Option.some.inj ho
      refine ⟨.inl rfl, ?_⟩
      exact f_loadJs (x := .tmp 12) rfl (hd 0 12 (by kernel_rfl) (by kernel_rfl)).1 (by rw [cell_blkT hgW]; rfl) ⟨_, rfl, rfl, hB, fun _ _ _ _ h => h⟩
    | 2, _, ho, hd =>
      obtain rfl := Option.some.inj ho
      refine ⟨.inl rfl, ?_⟩
      refine wp_callF (f := 6) (vals := #[.slice jo jn jc]) rfl (map1 (hd 1 13 (by kernel_rfl) (by kernel_rfl)).1) (by go_simp) ?_
      refine (cut_calls W jo jn jc js (HJ.out.1.below (HB2.out.trans (hB.mono HB2.out.size))) HJ.out.2.1 HJ.out.2.2).mono ?_
      rintro e w' ⟨⟨v, rfl, hov⟩, hbb⟩
      obtain ⟨jo2, c2, rfl⟩ := hov.shape
      rw [← Hl.out] at hov ⊢
      exact ⟨_, rfl, _, rfl, ⟨jo2, c2, rfl, hov.mono hB.size⟩, hB.trans (hbb.mono hB.size), fun j u _ _ h => h.mono hbb⟩
    | 3, _, ho, hd =>
      obtain rfl := Option.some.inj ho
      refine ⟨.inl rfl, ?_⟩
      exact f_fldGame (x := .tmp 1) 1 (by decide) rfl ((hs 1 (notDst (by kernel_rfl))).trans rfl) ⟨_, rfl, rfl, hB, fun _ _ _ _ h => h⟩
    | 4, _, ho, hd =>
      obtain rfl := Option.some.inj ho
      refine ⟨.inl rfl, ?_⟩
      exact f_loadIs (x := .tmp 15) rfl (hd 3 15 (by kernel_rfl) (by kernel_rfl)).1 (by rw [cell_blkT hgW]; rfl) ⟨_, rfl, rfl, hB, fun _ _ _ _ h => h⟩
    | 5, _, ho, hd =>
      obtain rfl := Option.some.inj ho
      refine ⟨.inl rfl, ?_⟩
      exact f_fldGame (x := .tmp 1) 2 (by decide) rfl ((hs 1 (notDst (by kernel_rfl))).trans rfl) ⟨_, rfl, rfl, hB, fun _ _ _ _ h => h⟩
    | 6, _, ho, hd =>
      obtain rfl := Option.some.inj ho
      refine ⟨.inl rfl, ?_⟩
      exact f_loadIn (x := .tmp 17) rfl (hd 5 17 (by kernel_rfl) (by kernel_rfl)).1 (by rw [cell_blkT hgW]; rfl) ⟨_, rfl, rfl, hB, fun _ _ _ _ h => h⟩
    | 7, _, ho, hd =>
      obtain rfl := Option.some.inj ho
      refine ⟨.inl rfl, ?_⟩
      exact f_fldGame (x := .tmp 1) 3 (by decide) rfl ((hs 1 (notDst (by kernel_rfl))).trans rfl) ⟨_, rfl, rfl, hB, fun _ _ _ _ h => h⟩
    | 8, _, ho, hd =>
      obtain rfl := Option.some.inj ho
      refine ⟨.inl rfl, ?_⟩
      exact f_loadIn (x := .tmp 19) rfl (hd 7 19 (by kernel_rfl) (by kernel_rfl)).1 (by rw [cell_blkT hgW]; rfl) ⟨_, rfl, rfl, hB, fun _ _ _ _ h => h⟩
    | 9, _, ho, hd =>
      obtain rfl := Option.some.inj ho
      refine ⟨.inl rfl, ?_⟩
      obtain ⟨jo2, c2, h1, h2⟩ := (hd 2 14 (by kernel_rfl) (by kernel_rfl)).1
      exact f_asg (x := .tmp 14) rfl h1 ⟨_, rfl, ⟨jo2, c2, rfl, h2⟩, hB, fun _ _ _ _ h => h⟩
    | 10, _, ho, hd =>
      obtain rfl := Option.some.inj ho
      refine ⟨.inl rfl, ?_⟩
      exact f_asg (x := .tmp 16) rfl (hd 4 16 (by kernel_rfl) (by kernel_rfl)).1 ⟨_, rfl, rfl, hB, fun _ _ _ _ h => h⟩
    | 11, _, ho, hd =>
      obtain rfl := Option.some.inj ho
      refine ⟨.inl rfl, ?_⟩
      exact f_asg (x := .tmp 18) rfl (hd 6 18 (by kernel_rfl) (by kernel_rfl)).1 ⟨_, rfl, rfl, hB, fun _ _ _ _ h => h⟩
    | 12, _, ho, hd =>
      obtain rfl := Option.some.inj ho
      refine ⟨.inl rfl, ?_⟩
      exact f_asg (x := .tmp 20) rfl (hd 8 20 (by kernel_rfl) (by kernel_rfl)).1 ⟨_, rfl, rfl, hB, fun _ _ _ _ h => h⟩
    | n + 13, hi, _, _ => exact absurd hi (by omega)
  case tail =>
    intro vs W ls _ hB hR
    have r0 : vs 0 = .pointer (some ⟨g, 0, none⟩) := hR 0 (by decide)
    have r1 : vs 1 = .slice jo jn jc := hR 1 (by decide)
    obtain ⟨ko', kc', r2, -⟩ := hR 2 (by decide)
    have r3 : vs 3 = .pointer (some ⟨g, 1, none⟩) := hR 3 (by decide)
    have r4 : vs 4 = .slice ao pn pc := hR 4 (by decide)
    have r5 : vs 5 = .pointer (some ⟨g, 2, none⟩) := hR 5 (by decide)
    have r6 : vs 6 = .int .i64 bound := hR 6 (by decide)
    have r7 : vs 7 = .pointer (some ⟨g, 3, none⟩) := hR 7 (by decide)
    have r8 : vs 8 = .int .i64 steps := hR 8 (by decide)
    obtain ⟨ko, kc, r9, hok⟩ := hR 9 (by decide)
    have r10 : vs 10 = .slice ao pn pc := hR 10 (by decide)
    have r11 : vs 11 = .int .i64 bound := hR 11 (by decide)
    have r12 : vs 12 = .int .i64 steps := hR 12 (by decide)
    have HBW : Hid (Below w.heap.size w W) := HB2.out.trans (hB.mono HB2.out.size)
    have HK : Hid (JbAt W ko (js.take 20) ∧ (js.take 20).length = l) := ⟨hok.jb, Hl.out.symm⟩
    have hl20 : l ≤ 20 := by rw [Hl.out, List.length_take]; omega
    obtain ⟨ks, Hks⟩ : ∃ ks, Hid (ks = js.take 20) := ⟨_, rfl⟩
    rw [← Hks.out] at HK
    clear hR hB hok HG2 HB2 Hl Hks
    simp only [putL, put_lit, List.setIfInBounds_toArray, List.set_cons_succ, List.set_cons_zero]
    rw [r0, r1, r2, r3, r4, r5, r6, r7, r8, r9, r10, r11, r12]
    clear r0 r1 r2 r3 r4 r5 r6 r7 r8 r9 r10 r11 r12
    go_upto_if 22 with fail
    go_cut [6] from 21 to 22 (fun s6 wx => wx = W ∧ ∃ m : Int, s6 = .int .i64 m ∧ Hid (m = min steps 400))
    case first =>
      by_cases h4 : 400 < steps
      · go_wp2
        go_meet
        exact ⟨rfl, _, rfl, by rw [Hid]; omega⟩
      · go_wp2
        go_meet
        exact ⟨rfl, _, rfl, by rw [Hid]; omega⟩
    case rest =>
      obtain ⟨rfl, m, rfl, Hm⟩ := hcut
      obtain ⟨mx, Hmx⟩ : ∃ mx, Hid (m.toNat = mx) := ⟨_, rfl⟩
      have hmx : mx ≤ 400 := by rw [← Hmx.out, Hm.out]; omega
      have HRP := refPlay_calls wc ko l kc ks ao pn pc ps bound m mx HK.out.1 HK.out.2 (by omega) (HP.out.1.below HBW.out) HP.out.2.1 (by have := HP.out.2.2.1; omega) HP.out.2.2.2 HPR.out HB2.out Hmx.out (by omega)
      obtain ⟨G, HG⟩ : ∃ G, Hid (G = playP ps (max bound 1) ks mx) := ⟨_, rfl⟩
      obtain ⟨n, Hn⟩ : ∃ n, Hid ((G.map nV).length = n ∧ G.length = n) := ⟨_, rfl, by simp⟩
      have hn4 : n ≤ 400 := by
        have := playP_length ps (max bound 1) ks mx
        rw [← Hn.out.2, HG.out]; omega
      rw [← HG.out] at HRP
      go_wp2_with fail
      refine HRP.mono ?_
      clear HRP
      rintro e w3 ⟨⟨v, rfl, ho3⟩, hb3⟩
      obtain ⟨go, gc, rfl, -⟩ := ho3.shape
      rw [Hn.out.1] at ho3 ⊢
      have HB3 : Hid (Below w.heap.size w w3) := HBW.out.trans (hb3.mono HBW.out.size)
      have HW3 : Hid (VAt w3 go (G.map nV)) := ho3.v
      have HK3 : Hid (JbAt w3 ko ks ∧ ks.length = l) := ⟨HK.out.1.below hb3, HK.out.2⟩
      have HCT := cut_calls w3 ko l kc ks HK3.out.1 HK3.out.2 (by omega)
      have HT : Hid (ks.take 20 = ks) := by rw [Hid, List.take_of_length_le (by rw [HK3.out.2]; omega)]
      rw [HT.out] at HCT
      clear ho3 hb3 HBW HK
      go_wp2_with fail
      refine HCT.mono ?_
      clear HCT
      rintro e w4 ⟨⟨v, rfl, ho4⟩, hb4⟩
      obtain ⟨ko4, kc4, rfl⟩ := ho4.shape
      rw [HK3.out.2] at ho4 ⊢
      have HB4 : Hid (Below w.heap.size w w4) := HB3.out.trans (hb4.mono HB3.out.size)
      have HW4 : Hid (VAt w4 go (G.map nV)) := HW3.out.below hb4
      have HK4 : Hid (JbAt w4 ko ks) := HK3.out.1.below hb4
      have HJ4 : Hid (JbAt w4 ko4 ks) := ho4.jb
      have HB10 : Hid (Below w4.heap.size w4 (w4.alloc (.cells #[] 3))) := below_alloc1 _ _
      clear ho4 hb4 HB3 HW3
      go_wp2_with (at_builtin; go_must (refine append_vs _ rfl (.tmp 30) (.tmp 31) 23 3 (.int .i64 0) 8 Try.underlying23 info_int rfl rfl w4.heap.size _ [] rfl (emptyI w4) ao pn pc (ps.map iV) rfl (by rw [List.length_map]; exact HP.out.2.1) HNil.out (HP.out.1.below (HB4.out.trans (HB10.out.mono HB4.out.size))) (iV_one _) (by have := HP.out.2.2.1; simp; omega) (by have := HP.out.2.2.1; simp; omega) (by simp [World.size_alloc]) ?_))
      intro v5 w5 ho5 hg5 _
      have hb5 : Below w4.heap.size w4 w5 := app_below HB10.out hg5 (fun j hj => by simp [Value.ownBlock] at hj; omega)
      obtain ⟨ao5, c5, rfl, hv5, hq5, hn5⟩ := ho5.shapeI (l := ps) (n := pn) (by simp) HP.out.2.1
      have HPC := play_calls w5 ko4 l kc4 ks ao5 pn c5 ps bound m mx (HJ4.out.below hb5) HK3.out.2 (by omega) hv5 HP.out.2.1 (by have := HP.out.2.2.1; omega) hn5 HPR.out HB2.out Hmx.out (by omega)
      rw [← HG.out] at HPC
      have HB5 : Hid (Below w.heap.size w w5) := HB4.out.trans (hb5.mono HB4.out.size)
      have HW5 : Hid (VAt w5 go (G.map nV)) := HW4.out.below hb5
      have HK5 : Hid (JbAt w5 ko ks) := HK4.out.below hb5
      clear hb5 ho5 hg5 hv5 hq5 hn5 HB10 HJ4 HK4 HW4 HB4
      go_wp2_with fail
      refine HPC.mono ?_
      clear HPC
      rintro e w6 ⟨⟨v, rfl, ho6⟩, hb6⟩
      obtain ⟨po, pc6, rfl, -⟩ := ho6.shape
      rw [Hn.out.1] at ho6 ⊢
      have HB6 : Hid (Below w.heap.size w w6) := HB5.out.trans (hb6.mono HB5.out.size)
      have HSM := sameN_calls po go n pc6 gc G w6 Hn.out.2 (by omega) ho6.v (HW5.out.below hb6)
      have HI0 : Hid (∃ vs, Ow w6 w5.heap.size 3 (.slice po n pc6) vs ∧ vs.length = n) := ⟨_, ho6, Hn.out.1⟩
      have HB56 : Hid (Below w5.heap.size w5 w6) := hb6
      clear ho6 hb6 HB6
      go_wp2_with fail
      refine HSM.mono ?_
      clear HSM
      rintro e w7 ⟨rfl, hb7⟩
      have HI7 : Hid ((∃ vs, Ow w7 w5.heap.size 3 (.slice po n pc6) vs ∧ vs.length = n) ∧ Below w5.heap.size w5 w7) := by
        obtain ⟨vs, h1, h2⟩ := HI0.out
        exact ⟨⟨vs, h1.below hb7, h2⟩, HB56.out.trans (hb7.mono HB56.out.size)⟩
      clear hb7 HI0 HB56
      go_wp2
      go_loopw [9, 42] (fun x i wr => ∃ k : Nat, k ≤ n ∧ i = .int .i64 (k : Int) ∧ Hid ((∃ vs, Ow wr w5.heap.size 3 (.slice po n pc6) vs ∧ vs.length = n) ∧ Below w5.heap.size w5 wr)) (fun _ i _ => n - (intOf i).toNat)
      case atStart => exact ⟨0, Nat.zero_le _, rfl, HI7⟩
      case round =>
        clear HI7
        obtain ⟨k, hk, rfl, HI⟩ := hrel
        by_cases hlt : k < n
        · obtain ⟨⟨vs, hov, hvl⟩, hbv⟩ := HI.out
          obtain ⟨q, rfl, hc, hf⟩ := hov.at k (by omega)
          have HIn : Hid ((∃ vs, Ow (wr.setCell ⟨q, k, none⟩ (.int .i64 (-1))) w5.heap.size 3 (.slice (some ⟨q, 0, none⟩) n pc6) vs ∧ vs.length = n) ∧ Below w5.heap.size w5 (wr.setCell ⟨q, k, none⟩ (.int .i64 (-1)))) := ⟨⟨_, hov.stored k _, by rw [List.length_set]; exact hvl⟩, hbv.setCell (by have := (hov.block _ rfl).2.1; exact this) _⟩
          obtain ⟨old, Hold⟩ : ∃ old, Hid (old = vs[k]'(by omega)) := ⟨vs[k]'(by omega), rfl⟩
          rw [← Hold.out] at hc
          clear HI hov hbv Hold hvl
          go_wp2
          go_roundw
          case rel => exact ⟨k + 1, by omega, by go_num, HIn⟩
          case measure => simp [intOf]; omega
        · have HB8 : Hid (Below w5.heap.size w5 wr) := HI.out.2
          have HB9 : Hid (Below w.heap.size w wr) := HB5.out.trans (HB8.out.mono HB5.out.size)
          have HCT := cut_calls wr ko l kc ks (HK5.out.below HB8.out) HK3.out.2 (by omega)
          rw [HT.out] at HCT
          have HW8 : Hid (VAt wr go (G.map nV)) := HW5.out.below HB8.out
          clear HI HB8 HW5 HK5
          go_wp2_with fail
          refine HCT.mono ?_
          clear HCT
          rintro e w8 ⟨⟨v, rfl, ho8⟩, hb8⟩
          obtain ⟨ko8, kc8, rfl⟩ := ho8.shape
          rw [HK3.out.2] at ho8 ⊢
          have HB10 : Hid (Below w.heap.size w w8) := HB9.out.trans (hb8.mono HB9.out.size)
          have HW10 : Hid (VAt w8 go (G.map nV)) := HW8.out.below hb8
          have HJ8 : Hid (JbAt w8 ko8 ks) := ho8.jb
          have HB11 : Hid (Below w8.heap.size w8 (w8.alloc (.cells #[] 3))) := below_alloc1 _ _
          clear ho8 hb8 HB9 HW8
          go_wp2_with (at_builtin; go_must (refine append_vs _ rfl (.tmp 51) (.tmp 52) 23 3 (.int .i64 0) 8 Try.underlying23 info_int rfl rfl w8.heap.size _ [] rfl (emptyI w8) ao pn pc (ps.map iV) rfl (by rw [List.length_map]; exact HP.out.2.1) HNil.out (HP.out.1.below (HB10.out.trans (HB11.out.mono HB10.out.size))) (iV_one _) (by have := HP.out.2.2.1; simp; omega) (by have := HP.out.2.2.1; simp; omega) (by simp [World.size_alloc]) ?_))
          intro v9 w9 ho9 hg9 _
          have hb9 : Below w8.heap.size w8 w9 := app_below HB11.out hg9 (fun j hj => by simp [Value.ownBlock] at hj; omega)
          obtain ⟨ao9, c9, rfl, hv9, hq9, hn9⟩ := ho9.shapeI (l := ps) (n := pn) (by simp) HP.out.2.1
          have HPC := play_calls w9 ko8 l kc8 ks ao9 pn c9 ps bound m mx (HJ8.out.below hb9) HK3.out.2 (by omega) hv9 HP.out.2.1 (by have := HP.out.2.2.1; omega) hn9 HPR.out HB2.out Hmx.out (by omega)
          rw [← HG.out] at HPC
          have HB12 : Hid (Below w.heap.size w w9) := HB10.out.trans (hb9.mono HB10.out.size)
          have HW12 : Hid (VAt w9 go (G.map nV)) := HW10.out.below hb9
          clear hb9 ho9 hg9 hv9 hq9 hn9 HB11 HJ8 HW10 HB10
          go_wp2_with fail
          refine HPC.mono ?_
          clear HPC
          rintro e w13 ⟨⟨v, rfl, ho13⟩, hb13⟩
          obtain ⟨so, sc, rfl, -⟩ := ho13.shape
          rw [Hn.out.1] at ho13 ⊢
          have HB13 : Hid (Below w.heap.size w w13) := HB12.out.trans (hb13.mono HB12.out.size)
          have HSM := sameN_calls so go n sc gc G w13 Hn.out.2 (by omega) ho13.v (HW12.out.below hb13)
          clear ho13 hb13 HB12 HW12
          go_wp2_with fail
          refine HSM.mono ?_
          clear HSM
          rintro e w14 ⟨rfl, hb14⟩
          have HB14 : Hid (Below w.heap.size w w14) := HB13.out.trans (hb14.mono HB13.out.size)
          clear hb14 HB13
          go_wp2
          go_ret
          exact ⟨rfl, HB14.out⟩
end Go.Proofs.Ytagdgecmoeacgaa
