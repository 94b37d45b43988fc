/- Layer 17 (sched): the law on waiting. -/
import Derived.Test.YteckckohflnahaaScPicks
import Derived.Test.YteckckohflnahaaScFairM
import Derived.Deep.CutRange
namespace Go.Proofs.Yteckckohflnahaa
open Go.RowKit
set_option linter.unusedVariables false
variable {S S' : Nat → Prop}

/-- Lists of bools: where each lies, its capacity, what it holds. -/
structure Bl where
  ao : Option Addr
  cap : Nat
  r : List Bool
def RAt (w : World) (ao : Option Addr) (rs : List Bl) : Prop := ∀ k (h : k < rs.length), ∃ b off, ao = some ⟨b, off, none⟩ ∧ w.cell? ⟨b, off + k, none⟩ = some (.slice rs[k].ao rs[k].r.length rs[k].cap) ∧ VAt w rs[k].ao (rs[k].r.map bV) ∧ (rs[k].ao = none → rs[k].cap = 0 ∧ rs[k].r.length = 0)
theorem RAt.below {w w' : World} {ao : Option Addr} {rs : List Bl} (h : RAt w ao rs) (hb : Below w.heap.size w w') : RAt w' ao rs := fun k hk => by
  obtain ⟨b, off, e, hc, hv, hn⟩ := h k hk
  exact ⟨b, off, e, by rw [hb.cell (p := ⟨b, off + k, none⟩) (World.block_lt_of_cell? w ⟨b, off + k, none⟩ hc)]; exact hc, hv.below hb, hn⟩
/-- The greatest length of the first k. -/
def mxL (rs : List Bl) : Nat → Nat
  | 0 => 0
  | k + 1 => if mxL rs k < ((rs.map fun x => x.r.length).getD k 0) then (rs.map fun x => x.r.length).getD k 0 else mxL rs k
theorem len_at {rs : List Bl} {k : Nat} (hk : k < rs.length) : (rs.map fun x => x.r.length).getD k 0 = rs[k].r.length := by
  rw [List.getD_eq_getElem?_getD, List.getElem?_map, List.getElem?_eq_getElem hk]; rfl
theorem mxL_le {rs : List Bl} {N : Nat} (h : ∀ x ∈ rs, x.r.length ≤ N) : ∀ k, k ≤ rs.length → mxL rs k ≤ N
  | 0, _ => Nat.zero_le _
  | k + 1, hk => by
    have ih := mxL_le h k (by omega)
    unfold mxL
    split
    · rw [len_at (by omega)]; exact h _ (List.getElem_mem _)
    · exact ih
theorem mxL_ge {rs : List Bl} : ∀ k j, k ≤ rs.length → j < k → (rs.map fun x => x.r.length).getD j 0 ≤ mxL rs k
  | 0, j, _, h => by omega
  | k + 1, j, hk, hj => by
    unfold mxL
    rcases Nat.lt_or_ge j k with h1 | h1
    · have ih := mxL_ge (rs := rs) k j (by omega) h1
      split <;> omega
    · have : j = k := by omega
      subst this
      split <;> omega

/-- Between two rounds of the law's inner loop. -/
structure FaI (w : World) (S : Nat → Prop) (cb : Nat) (c : Ch) (g n : Nat) (A A' : Nat → Nat) (k : Nat) (wr : World) : Prop where
  own : Own1 w S cb c wr
  wt : Ow wr w.heap.size 3 (.slice (some ⟨g, 0, none⟩) n n) ((waitK n A A' k).map nV)
  ng : ¬ S g
theorem FaI.more {w wr w1 : World} {cb g n k : Nat} {c : Ch} {A A' : Nat → Nat} (h : FaI w S cb c g n A A' k wr) (hb : Below wr.heap.size wr w1) : FaI w S cb c g n A A' k w1 := ⟨h.own.more hb, h.wt.below hb, h.ng⟩
theorem FaI.next {w wr w1 : World} {cb g n k : Nat} {c c' : Ch} {A A' : Nat → Nat} (h : FaI w S cb c g n A A' k wr) (hc : ChAt w1 (fun k => S k ∨ (wr.heap.size ≤ k ∧ k < w1.heap.size)) cb c') (hf : Frm S wr w1) : FaI w (fun k => S k ∨ (wr.heap.size ≤ k ∧ k < w1.heap.size)) cb c' g n A A' k w1 :=
  ⟨h.own.next hc hf, h.wt.frm hf (fun k e => by simp [Value.ownBlock] at e; rw [← e]; exact h.ng), fun x => by
    rcases x with x | x
    · exact h.ng x
    · have := (h.wt.lt g rfl).2; omega⟩
theorem FaI.set {w wr : World} {cb g n k : Nat} {c : Ch} {A A' : Nat → Nat} (h : FaI w S cb c g n A A' k wr) (hk : k < n) (W : World) (hW : W = wr.setCell ⟨g, k, none⟩ (.int .i64 (A' k : Int))) : FaI w S cb c g n A A' (k + 1) W := by
  subst hW
  have hF : Frm (fun k => k = g) wr (wr.setCell ⟨g, k, none⟩ (.int .i64 (A' k : Int))) := (Frm.refl _ _).setCell _ _ (.inl rfl)
  refine ⟨⟨h.own.ch.frm hF fun k hk e => h.ng (by rw [← e]; exact hk), h.own.own, h.own.below.setCell (h.wt.lt g rfl).1 _⟩, ?_, h.ng⟩
  have := h.wt.stored k (nV (A' k))
  rw [← List.map_set, waitK_succ _ _ hk] at this
  exact this

theorem FaI.set2 {w wr : World} {cb g n k : Nat} {c : Ch} {A A' : Nat → Nat} (h : FaI w S cb c g n A A' k wr) (hk : k < n) (x : Nat) (W : World) (hW : W = (wr.setCell ⟨g, k, none⟩ (.int .i64 (x : Int))).setCell ⟨g, k, none⟩ (.int .i64 (A' k : Int))) : FaI w S cb c g n A A' (k + 1) W := by
  subst hW
  have hF : Frm (fun k => k = g) wr ((wr.setCell ⟨g, k, none⟩ (.int .i64 (x : Int))).setCell ⟨g, k, none⟩ (.int .i64 (A' k : Int))) := ((Frm.refl (fun k => k = g) wr).setCell ⟨g, k, none⟩ _ (.inl rfl)).setCell ⟨g, k, none⟩ _ (.inl rfl)
  refine ⟨⟨h.own.ch.frm hF fun k hk e => h.ng (by rw [← e]; exact hk), h.own.own, (h.own.below.setCell (h.wt.lt g rfl).1 _).setCell (h.wt.lt g rfl).1 _⟩, ?_, h.ng⟩
  have := (h.wt.stored k (nV x)).stored k (nV (A' k))
  rw [List.set_set, ← List.map_set, waitK_succ _ _ hk] at this
  exact this

set_option maxRecDepth 100000 in
set_option maxHeartbeats 4000000 in
theorem schedFair_calls (ao : Option Addr) (pn cap : Nat) (ps : List Int) (bound : Int) (co : Option Addr) (cn cc : Nat) (rs : List Bl) (w : World) (hpn : ps.length = pn) (hpl : pn ≤ 1048576) (hnil : ao = none → cap = 0 ∧ pn = 0) (hp : VAt w ao (ps.map iV)) (hpr : ∀ p ∈ ps, -9223372036854775808 ≤ p ∧ p ≤ 9223372036854775807)
    (hcn : rs.length = cn) (hcl : cn ≤ 1048576) (hr : RAt w co rs) (hrl : ∀ x ∈ rs, x.r.length ≤ 1048576) (hb2 : bound ≤ 9223372036854775807) :
    Calls Try.prog 4 #[.slice ao pn cap, .int .i64 bound, .slice co cn cc] w fun e w' => e = .returned (.bool true) ∧ Below w.heap.size w w' := by
  have HA := alive_calls w
  have HP : Hid (VAt w ao (ps.map iV)) := hp
  have HPR : Hid (∀ p ∈ ps, -9223372036854775808 ≤ p ∧ p ≤ 9223372036854775807) := hpr
  have HL : Hid (ps.length = pn ∧ rs.length = cn) := ⟨hpn, hcn⟩
  have HNil : Hid (ao = none → cap = 0 ∧ pn = 0) := hnil
  have HRs : Hid (RAt w co rs) := hr
  have HRl : Hid (∀ x ∈ rs, x.r.length ≤ 1048576) := hrl
  clear hp hpr hpn hcn hnil hr hrl
  go_enter Try.func4, Try.ntmps4
  go_wp2_with fail
  refine HA.mono ?_
  clear HA
  rintro e w1 ⟨rfl, hb1⟩
  have HB1 : Hid (Below w.heap.size w w1) := hb1
  clear hb1
  have HB10 : Hid (Below w1.heap.size w1 (w1.alloc (.cells #[] 3))) := below_alloc _ _
  go_wp2_with (at_builtin; go_must (refine append_vs _ rfl (.tmp 20) (.tmp 21) 22 3 (.int .i64 0) 8 Try.underlying22 info_int rfl rfl w1.heap.size _ [] rfl (emptyI w1) ao pn cap (ps.map iV) rfl (by rw [List.length_map]; exact HL.out.1) HNil.out (HP.out.below (HB1.out.trans (HB10.out.mono HB1.out.size))) (iV_one _) (by simp; omega) (by simp; omega) (by simp [World.size_alloc]) ?_))
  intro v2 w2 ho2 hg2 _
  have hb12 : Below w1.heap.size w1 w2 := app_below HB10.out hg2 (fun j hj => by simp [Value.ownBlock] at hj; omega)
  obtain ⟨ao2, c2, rfl, hv2, hq2, hn2⟩ := ho2.shapeI (l := ps) (n := pn) (by simp) HL.out.1
  have HN := newC_calls ao2 pn c2 ps bound w2 HL.out.1 (by omega) hn2 hv2
  have HB2 : Hid (Below w.heap.size w w2) := HB1.out.trans (hb12.mono HB1.out.size)
  clear hb12 hv2 hq2 hn2 ho2 hg2 HB10 HB1
  go_wp2_with fail
  refine HN.mono ?_
  clear HN
  rintro e w3 ⟨cb, rfl, hc3, hb3⟩
  obtain ⟨b, hb⟩ : ∃ b : Nat, max bound 1 = (b : Int) := ⟨(max bound 1).toNat, by omega⟩
  have hbp : 1 ≤ b := by omega
  have hbm : (b : Int) ≤ 9223372036854775807 := by omega
  rw [hb] at hc3
  have HO3 : Hid (Own1 w _ cb ⟨ps, (b : Int), -1, []⟩ w3 ∧ ∀ k, (w2.heap.size ≤ k ∧ k < w3.heap.size) → k < w3.heap.size) := ⟨Own1.newer HB2.out hc3 hb3, fun k hk => hk.2⟩
  obtain ⟨S2, HO2⟩ : ∃ S, Hid (Own1 w S cb ⟨ps, (b : Int), -1, []⟩ w3 ∧ ∀ k, S k → k < w3.heap.size) := ⟨_, HO3.out⟩
  have hbb : (bound < 1 → (b : Int) = 1) ∧ (1 ≤ bound → (b : Int) = bound) := by omega
  clear hc3 hb3 HO3 HB2
  go_upto_if 28 with fail
  go_cut [1] from 27 to 28 (fun s1 wr => s1 = .int .i64 (b : Int) ∧ wr = w3)
  case first =>
    by_cases h1 : bound < 1
    · have h2 : (b : Int) = 1 := hbb.1 h1
      go_wp2
      go_meet
      exact ⟨by rw [h2], rfl⟩
    · have h2 : (b : Int) = bound := hbb.2 (by omega)
      have h1' : 1 ≤ bound := by omega
      go_wp2
      go_meet
      exact ⟨by rw [h2], rfl⟩
  case rest =>
    obtain ⟨rfl, rfl⟩ := hcut
    clear hb hbb hb2
    go_wp2
    go_loopw [8, 31] (fun x i wr => ∃ k : Nat, k ≤ cn ∧ i = .int .i64 k ∧ x = .int .i64 (mxL rs k : Int) ∧ wr = wc) (fun _ i _ => cn - (intOf i).toNat)
    case atStart => exact ⟨0, Nat.zero_le _, rfl, rfl, rfl⟩
    case round =>
      obtain ⟨k, hk, rfl, rfl, rfl⟩ := hrel
      by_cases hlt : k < cn
      · have hkr : k < rs.length := by rw [HL.out.2]; exact hlt
        obtain ⟨rb, roff, rfl, hc, -, -⟩ := (HRs.out.below HO2.out.1.below) k hkr
        obtain ⟨l, Hl⟩ : ∃ l, Hid (l = rs[k].r.length) := ⟨rs[k].r.length, rfl⟩
        have hll : l ≤ 1048576 := by rw [Hl.out]; exact HRl.out _ (List.getElem_mem hkr)
        rw [← Hl.out] at hc
        have hml : mxL rs k ≤ 1048576 := mxL_le HRl.out k (by omega)
        have HM : Hid (mxL rs (k + 1) = if mxL rs k < l then l else mxL rs k) := by
          show _ = _
          rw [Hl.out, mxL, len_at hkr]
        obtain ⟨mx, Hmx⟩ : ∃ mx, Hid (mx = mxL rs k) := ⟨_, rfl⟩
        rw [← Hmx.out] at HM hml ⊢
        obtain ⟨xa, xc, he⟩ : ∃ xa xc, Value.slice rs[k].ao l rs[k].cap = Value.slice xa l xc := ⟨_, _, rfl⟩
        rw [he] at hc
        clear he hkr Hl
        by_cases hm : mx < l
        · have HM2 : Hid (mxL rs (k + 1) = l) := by show _ = _; rw [HM.out, if_pos hm]
          clear HM
          go_wp2
          go_roundw
          case rel => exact ⟨k + 1, by omega, by go_num, by rw [HM2.out], trivial⟩
          case measure => simp [intOf]; omega
        · have HM2 : Hid (mxL rs (k + 1) = mx) := by show _ = _; rw [HM.out, if_neg hm]
          clear HM
          go_wp2
          go_roundw
          case rel => exact ⟨k + 1, by omega, by go_num, by rw [HM2.out], trivial⟩
          case measure => simp [intOf]; omega
      · have hml : mxL rs k ≤ 1048576 := mxL_le HRl.out k (by rw [HL.out.2]; exact hk)
        have HMG : Hid (∀ x ∈ rs, x.r.length ≤ mxL rs k) := by
          intro x hx
          obtain ⟨j, hj, rfl⟩ := List.getElem_of_mem hx
          have := mxL_ge (rs := rs) k j (by rw [HL.out.2]; exact hk) (by have := HL.out.2; omega)
          rwa [len_at hj] at this
        obtain ⟨n, Hn⟩ : ∃ n, Hid (n = mxL rs k) := ⟨_, rfl⟩
        rw [← Hn.out] at hml HMG ⊢
        obtain ⟨w4, hmk, ho4, hb4⟩ := make_int wr n (by omega)
        obtain ⟨g, Hg⟩ : ∃ g, Hid (g = wr.heap.size) := ⟨_, rfl⟩
        rw [← Hg.out] at hmk ho4
        have HF4 : Hid (FaI w S2 cb ⟨ps, (b : Int), -1, []⟩ g n (ageF ⟨ps, (b : Int), -1, []⟩) (ageF ⟨ps, (b : Int), -1, []⟩) 0 w4) := by
          refine ⟨HO2.out.1.more hb4, ?_, fun h => ?_⟩
          · rw [waitK_new, List.map_replicate]
            exact Ow.mono ho4 (by rw [Hg.out]; exact HO2.out.1.below.size)
          · have := HO2.out.2 _ h; rw [Hg.out] at this; omega
        clear ho4 hb4 HO2 Hn Hg
        go_wp2
        clear hmk
        go_loopw [46] (fun i wr => ∃ (k : Nat) (S : Nat → Prop) (c : Ch), k ≤ cn ∧ i = .int .i64 k ∧ Hid (FaI w S cb c g n (ageF c) (ageF c) 0 wr) ∧ Hid (FairI n b c ∧ Okc c k ∧ c.ages.length ≤ 1048576)) (fun i _ => cn - (intOf i).toNat)
        case atStart => exact ⟨0, S2, _, Nat.zero_le _, rfl, HF4, FairI.zero hbp, ⟨by show 1 ≤ (b : Int); omega, by show (b : Int) ≤ _; omega, by show (-1 : Int) ≤ -1; omega, by show (-1 : Int) ≤ _; omega, HPR.out, by show ps.length ≤ _; rw [HL.out.1]; omega, by simp⟩, by simp⟩
        case round =>
          clear HF4
          obtain ⟨k, S, c, hk, rfl, HF, HT⟩ := hrel
          by_cases hlt : k < cn
          · have hkr : k < rs.length := by rw [HL.out.2]; exact hlt
            obtain ⟨rb, roff, rfl, hc, hrv, hrn⟩ := (HRs.out.below HF.out.own.below) k hkr
            obtain ⟨-, -, -, -, hrw, -⟩ := HRs.out k hkr
            have hrm := HMG.out _ (List.getElem_mem hkr)
            obtain ⟨⟨xa, xc, r⟩, Hx⟩ : ∃ x, Hid (x = rs[k]'hkr) := ⟨rs[k]'hkr, rfl⟩
            rw [← Hx.out] at hc hrv hrn hrm hrw
            dsimp only at hc hrv hrn hrm hrw
            have HVB : Hid (∀ W, Below w.heap.size w W → VAt W xa (r.map bV)) := fun W hW => hrw.below hW
            clear hrw
            obtain ⟨l, Hl⟩ : ∃ l, Hid (l = r.length) := ⟨_, rfl⟩
            rw [← Hl.out] at hc hrn hrm
            have HV : Hid (VAt wr xa (r.map bV)) := hrv
            have HVN : Hid (xa = none → xc = 0 ∧ l = 0) := hrn
            have HB0 : Hid (Below wr.heap.size wr (wr.alloc (.cells #[] 4))) := below_alloc _ _
            clear hrv hrn hkr Hx
            go_wp2_with (at_builtin; go_must (refine append_vs _ rfl (.tmp 52) (.tmp 53) 31 4 (.bool false) 1 Try.underlying31 info_bool rfl rfl wr.heap.size _ [] rfl (emptyB wr _) xa l xc (r.map bV) rfl (by rw [List.length_map]; exact Hl.out.symm) HVN.out (HV.out.below HB0.out) (bV_one _) (by simp; omega) (by simp; omega) (by simp [World.size_alloc]) ?_))
            intro v5 w5 ho5 hg5 _
            have hb5 : Below wr.heap.size wr w5 := app_below HB0.out hg5 (fun j hj => by simp [Value.ownBlock] at hj; omega)
            obtain ⟨ao5, c5, rfl, hv5, hq5, -⟩ := ho5.shapeB (l := r) (n := l) (by simp) Hl.out.symm
            have HF5 : Hid (FaI w S cb c g n (ageF c) (ageF c) 0 w5) := HF.out.more hb5
            have HXC := next_calls cb c k ao5 l c5 r w5 HF5.out.own.ch HT.out.2.1 (by omega) (by have := HT.out.2.2; omega) Hl.out.symm (by omega) hv5 (fun a ea => by
              obtain ⟨q2, q3⟩ := hq5 a ea
              exact ⟨fun h => by have := HF.out.own.ch.sb _ h; omega, q3⟩)
            have HOK : Hid ((nextP c r).2.2 = decide (0 < r.count true)) := next_ok c r
            have HRD : Hid (0 < r.count true → (nextP c r).2.1 < r.length ∧ r.getD (nextP c r).2.1 false = true) := next_ready
            have HAG : Hid (∀ i, ageF (nextP c r).1 i = if r.getD i false = true ∧ i ≠ (nextP c r).2.1 then ageF c i + 1 else 0) := next_age c r
            have HT2 : Hid (FairI n b (nextP c r).1 ∧ Okc (nextP c r).1 (k + 1) ∧ (nextP c r).1.ages.length ≤ 1048576) := ⟨HT.out.1.next r (by rw [← Hl.out]; exact hrm), HT.out.2.1.next _ (by rw [← Hl.out]; omega), okc_al (by rw [← Hl.out]; omega)⟩
            have HAB : Hid (∀ i, ageF c i ≤ k) := by
              intro i
              unfold ageF
              rw [List.getD_eq_getElem?_getD]
              cases hq : c.ages[i]? with
              | none => simp
              | some x => exact HT.out.2.1.ag x (List.mem_of_getElem? hq)
            obtain ⟨Z, HZ⟩ : ∃ Z, Hid (Z = nextP c r) := ⟨_, rfl⟩
            rw [← HZ.out] at HXC HOK HRD HAG HT2
            obtain ⟨c', gt, okk⟩ := Z
            dsimp only at HOK HRD HAG HT2
            clear ho5 hg5 hb5 HB0 hv5 hq5 HZ
            go_wp2_with fail
            refine HXC.mono ?_
            clear HXC
            rintro e w6 ⟨he, hc6, hf6⟩
            dsimp only at he hc6
            subst he
            obtain ⟨S6, HF6⟩ : ∃ S6, Hid (FaI w S6 cb c' g n (ageF c) (ageF c') 0 w6) := ⟨_, by
              have := HF5.out.next hc6 hf6
              exact ⟨this.own, by rw [waitK_zero]; exact this.wt, this.ng⟩⟩
            clear hc6 hf6 HF5 HF HV
            go_wp2
            go_loopw [16, 60] (fun x i wr => ∃ j : Nat, j ≤ n ∧ i = .int .i64 j ∧ x = .bool (anyK r j) ∧ Hid (FaI w S6 cb c' g n (ageF c) (ageF c') j wr)) (fun _ i _ => n - (intOf i).toNat)
            case atStart => exact ⟨0, Nat.zero_le _, rfl, by simp [anyK], HF6⟩
            case round =>
              clear HF6
              obtain ⟨j, hj, rfl, rfl, HFj⟩ := hrel
              by_cases hjn : j < n
              · obtain ⟨g', eg, hcx, hfx⟩ := HFj.out.wt.at j (by rw [List.length_map, waitK_length]; exact hjn)
                simp only [Option.some.injEq, Addr.mk.injEq, and_true] at eg
                subst eg
                obtain ⟨x, Hx⟩ : ∃ x, Hid (x = ageF c j) := ⟨_, rfl⟩
                have hcx2 : wr.cell? ⟨g, j, none⟩ = some (.int .i64 (x : Int)) := by
                  have h1 := waitK_at (ageF c) (ageF c') hjn
                  rw [List.getElem?_eq_getElem (by rw [waitK_length]; exact hjn)] at h1
                  rw [hcx, List.getElem_map, Option.some.inj h1, ← Hx.out]; rfl
                have hxk : x ≤ k := by rw [Hx.out]; exact HAB.out j
                have HA1 : Hid (ageF c' j = if r.getD j false = true ∧ j ≠ gt then x + 1 else 0) := by rw [Hid, HAG.out j, Hx.out]
                have HLt : Hid (ageF c' j < b + n) := HT2.out.1.lt hjn
                clear hcx Hx
                by_cases hjl : j < l
                · obtain ⟨rb2, roff2, rfl, hrc⟩ := (HVB.out wr HFj.out.own.below).bool j (by rw [← Hl.out]; exact hjl)
                  cases hbj : r.getD j false with
                  | false =>
                    have HF2 : Hid (FaI w S6 cb c' g n (ageF c) (ageF c') (j + 1) (wr.setCell ⟨g, j, none⟩ (.int .i64 0))) := HFj.out.set hjn _ (by rw [HA1.out, if_neg (by rw [hbj]; simp)]; rfl)
                    have HAn : Hid (anyK r (j + 1) = anyK r j) := anyK_false hbj
                    rw [hbj] at hrc
                    clear hbj HA1 HLt HFj
                    go_wp2
                    go_roundw
                    case rel => exact ⟨j + 1, by omega, by go_num, by rw [HAn.out], HF2⟩
                    case measure => simp [intOf]; omega
                  | true =>
                    have HAn : Hid (anyK r (j + 1) = true) := anyK_true hbj
                    have hok : okk = true := by rw [HOK.out]; exact decide_eq_true (count_pos hbj)
                    rw [hok]
                    rw [hbj] at hrc
                    by_cases hg : j = gt
                    · have HF2 : Hid (FaI w S6 cb c' g n (ageF c) (ageF c') (j + 1) ((wr.setCell ⟨g, j, none⟩ (.int .i64 ((x : Int) + 1))).setCell ⟨g, j, none⟩ (.int .i64 0))) := HFj.out.set2 hjn (x + 1) _ (by rw [HA1.out, if_neg (by simp [hg])]; rfl)
                      have hqg : ((gt : Int) == (j : Int)) = true := by simp [hg]
                      have hn0 : decide ((0 : Int) ≥ (n : Int)) = false := by simp; omega
                      have hn1 : ¬ ((n : Int) ≤ 0) := by omega
                      clear hg hbj HA1 HLt HFj hok
                      go_wp2
                      go_roundw
                      case rel => exact ⟨j + 1, by omega, by go_num, by rw [HAn.out], HF2⟩
                      case measure => simp [intOf]; omega
                    · have HY : Hid (ageF c' j = x + 1) := by rw [Hid, HA1.out, if_pos ⟨hbj, hg⟩]
                      have HF2 : Hid (FaI w S6 cb c' g n (ageF c) (ageF c') (j + 1) (wr.setCell ⟨g, j, none⟩ (.int .i64 ((x : Int) + 1)))) := HFj.out.set hjn _ (by rw [HY.out]; rfl)
                      have hlt1 : x + 1 < b + n := by have := HLt.out; rw [HY.out] at this; exact this
                      have hqg : ((gt : Int) == (j : Int)) = false := by simp; omega
                      clear hg hbj HA1 HLt HFj hok HY
                      by_cases hxn : n ≤ x + 1
                      · have e1 : (n : Int) ≤ (x : Int) + 1 := by omega
                        have e2 : ¬ ((b : Int) ≤ (x : Int) + 1 - (n : Int)) := by omega
                        go_wp2
                        go_roundw
                        case rel => exact ⟨j + 1, by omega, by go_num, by rw [HAn.out], HF2⟩
                        case measure => simp [intOf]; omega
                      · have e1 : ¬ ((n : Int) ≤ (x : Int) + 1) := by omega
                        go_wp2
                        go_roundw
                        case rel => exact ⟨j + 1, by omega, by go_num, by rw [HAn.out], HF2⟩
                        case measure => simp [intOf]; omega
                · have hbj : r.getD j false = false := by rw [List.getD_eq_getElem?_getD, List.getElem?_eq_none (by rw [← Hl.out]; omega)]; rfl
                  have HF2 : Hid (FaI w S6 cb c' g n (ageF c) (ageF c') (j + 1) (wr.setCell ⟨g, j, none⟩ (.int .i64 0))) := HFj.out.set hjn _ (by rw [HA1.out, if_neg (by rw [hbj]; simp)]; rfl)
                  have HAn : Hid (anyK r (j + 1) = anyK r j) := anyK_false hbj
                  clear hbj HA1 HLt HFj
                  go_wp2
                  go_roundw
                  case rel => exact ⟨j + 1, by omega, by go_num, by rw [HAn.out], HF2⟩
                  case measure => simp [intOf]; omega
              · have hjn2 : j = n := by omega
                have HF2 : Hid (FaI w S6 cb c' g n (ageF c') (ageF c') 0 wr) := by
                  have := HFj.out
                  rw [hjn2] at this
                  exact ⟨this.own, by rw [← waitK_end n (ageF c) (ageF c')]; exact this.wt, this.ng⟩
                have HAE : Hid (anyK r j = okk) := by rw [Hid, hjn2, HOK.out]; exact anyK_end (by rw [← Hl.out]; exact hrm)
                rw [HAE.out]
                clear hjn2 HAE
                cases okk with
                | false =>
                  clear HFj
                  go_wp2
                  go_roundw
                  case rel => exact ⟨k + 1, S6, c', by omega, by go_num, HF2, HT2⟩
                  case measure => simp [intOf]; omega
                | true =>
                  have h0 : 0 < r.count true := of_decide_eq_true HOK.out.symm
                  obtain ⟨hg1, hg2⟩ := HRD.out h0
                  obtain ⟨rb2, roff2, rfl, hrc⟩ := (HVB.out wr HFj.out.own.below).bool gt hg1
                  rw [hg2] at hrc
                  have hgl : gt < l := by rw [Hl.out]; exact hg1
                  clear hg1 hg2 h0 HFj
                  go_wp2
                  go_roundw
                  case rel => exact ⟨k + 1, S6, c', by omega, by go_num, HF2, HT2⟩
                  case measure => simp [intOf]; omega
          · go_wp2
            go_ret
            exact ⟨rfl, HF.out.own.below⟩
end Go.Proofs.Yteckckohflnahaa
