/- Layer 17 (sched): the law on every choice. -/
import Derived.Test.YteckckohflnahaaScRunsM
namespace Go.Proofs.Yteckckohflnahaa
open Go.RowKit
set_option linter.unusedVariables false
variable {S S' : Nat → Prop}

theorem RAt.take {w : World} {ao : Option Addr} {rs : List Bl} (h : RAt w ao rs) (q : Nat) : RAt w ao (rs.take q) := fun k hk => by
  have hk' : k < rs.length := by rw [List.length_take] at hk; omega
  have := h k hk'
  simpa [List.getElem_take] using this
theorem next_bound (c : Ch) (r : List Bool) : (nextP c r).1.bound = c.bound := by unfold nextP; split <;> rfl
theorem next_none {c : Ch} {r : List Bool} (h : (nextP c r).2.2 = false) : (nextP c r).2.1 = 0 := by
  rw [nextP_eq] at h ⊢
  exact choose_none h
/-- What the document's Next leaves, q being what it chooses. -/
def RefQ (w : World) (B : Nat) (bd : Int) (q : Ch × Nat × Bool) (H : List He) (r : List Bool) (e : Ending) (w' : World) : Prop :=
  ∃ (po' : Option Addr) (pc' : Nat) (ho' : Option Addr) (hc' : Nat) (x : He), e = .returned (.tuple #[.agg #[.slice po' q.1.picks.length pc', .int .i64 bd, .slice ho' (H.length + 1) hc'], .int .i64 (chI q)]) ∧ VAt w' po' (q.1.picks.map iV) ∧ q.1.picks.length ≤ pc' ∧ HsAt w' ho' (H ++ [x]) ∧ x.r = r ∧ x.ch = chI q ∧ (ho' = none → hc' = 0) ∧ H.length + 1 ≤ hc' ∧ Below w.heap.size w w' ∧ OldP B po' q.1.picks ∧ (∀ a, ho' = some a → w.heap.size ≤ a.block) ∧ (∀ a, x.ao = some a → w.heap.size ≤ a.block ∧ a.block < w'.heap.size)
/-- Each of the first k turned round. -/
def flipK (r : List Bool) (k : Nat) : List Bool := (r.take k).map (!·) ++ r.drop k
theorem flipK_zero (r : List Bool) : flipK r 0 = r := by simp [flipK]
theorem flipK_length (r : List Bool) (k : Nat) (h : k ≤ r.length) : (flipK r k).length = r.length := by simp [flipK]; omega
theorem flipK_at {r : List Bool} {k : Nat} (h : k < r.length) : (flipK r k)[k]? = some (r.getD k false) := by
  unfold flipK
  rw [List.getElem?_append_right (by simp; omega), List.getD_eq_getElem?_getD, List.getElem?_eq_getElem h]
  simp [List.length_take, Nat.min_eq_left (Nat.le_of_lt h), h]
theorem flipK_succ {r : List Bool} {k : Nat} (h : k < r.length) : (flipK r k).set k (!(r.getD k false)) = flipK r (k + 1) := by
  unfold flipK
  have hl : ((r.take k).map (!·)).length = k := by rw [List.length_map, List.length_take]; omega
  rw [List.set_append_right _ _ (by omega), hl, Nat.sub_self, List.drop_eq_getElem_cons h, List.set_cons_zero, List.take_succ_eq_append_getElem h, List.map_append, List.append_assoc]
  congr 1
  rw [List.getD_eq_getElem?_getD, List.getElem?_eq_getElem h]
  rfl

set_option maxRecDepth 100000 in
set_option maxHeartbeats 4000000 in
theorem schedRuns_calls (ao : Option Addr) (pn cap : Nat) (ps : List Int) (bound : Int) (co : Option Addr) (cn cc : Nat) (rs : List Bl) (w : World) (hpn : ps.length = pn) (hpl : pn ≤ 1048576) (hnil : ao = none → cap = 0 ∧ pn = 0) (hpcap : pn ≤ cap) (hp : VAt w ao (ps.map iV)) (hpr : ∀ p ∈ ps, -9223372036854775808 ≤ p ∧ p ≤ 9223372036854775807)
    (hcn : rs.length = cn) (hcc : cn ≤ cc) (hcl : cn ≤ 1048576) (hr : RAt w co rs) (hrl : ∀ x ∈ rs, x.r.length ≤ 1048576) (hb2 : bound ≤ 9223372036854775807) :
    Calls Try.prog 3 #[.slice ao pn cap, .int .i64 bound, .slice co cn cc] w fun e w' => e = .returned (.bool true) ∧ Below w.heap.size w w' := by
  have HA := alive_calls w
  have HP : Hid (VAt w ao (ps.map iV) ∧ pn ≤ cap) := ⟨hp, hpcap⟩
  have HPR : Hid (∀ p ∈ ps, -9223372036854775808 ≤ p ∧ p ≤ 9223372036854775807) := hpr
  have HL : Hid (ps.length = pn) := hpn
  have HNil : Hid (ao = none → cap = 0 ∧ pn = 0) := hnil
  have HRs : Hid (RAt w co rs ∧ rs.length = cn) := ⟨hr, hcn⟩
  have HRl : Hid (∀ x ∈ rs, x.r.length ≤ 1048576) := hrl
  clear hp hpr hpn hcn hnil hr hrl hpcap
  go_enter Try.func3, Try.ntmps3
  go_wp2_with fail
  refine HA.mono ?_
  clear HA
  rintro e w1 ⟨rfl, hb1⟩
  have HB1 : Hid (Below w.heap.size w w1) := hb1
  clear hb1
  go_upto_if 23 with fail
  go_cut [2] from 21 to 25 (fun s2 wx => ∃ (l : Nat) (rs' : List Bl), s2 = .slice co l cc ∧ wx = w1 ∧ Hid (RAt w co rs' ∧ rs'.length = l ∧ l ≤ 400 ∧ ∀ x ∈ rs', x.r.length ≤ 1048576))
  case first =>
    by_cases h4 : 400 < cn
    · have HZ : Hid (RAt w co (rs.take 400) ∧ (rs.take 400).length = 400 ∧ 400 ≤ 400 ∧ ∀ x ∈ rs.take 400, x.r.length ≤ 1048576) := ⟨HRs.out.1.take 400, by rw [List.length_take, HRs.out.2]; omega, by omega, fun x hx => HRl.out x (List.mem_of_mem_take hx)⟩
      obtain ⟨b, off, rfl, -⟩ := HRs.out.1 0 (by rw [HRs.out.2]; omega)
      have hsl : ∀ W : World, (Instr.slice 23 (.slice (some ⟨b, off, none⟩) cn cc) none (some (.int .i64 400)) none).run Try.prog W = .ok (.slice (some ⟨b, off, none⟩) 400 cc) W := fun W => by
        have h5 : (400 : Int) ≤ (cn : Int) := by omega
        have h6 : (400 : Int) ≤ (cc : Int) := by omega
        go_simp
      go_wp2
      go_meet
      exact ⟨400, _, rfl, rfl, HZ⟩
    · have HZ : Hid (RAt w co rs ∧ rs.length = cn ∧ cn ≤ 400 ∧ ∀ x ∈ rs, x.r.length ≤ 1048576) := ⟨HRs.out.1, HRs.out.2, by omega, HRl.out⟩
      go_wp2
      go_meet
      exact ⟨cn, _, rfl, rfl, HZ⟩
  case rest =>
    obtain ⟨l, rs', rfl, rfl, HRr⟩ := hcut
    have hl4 := HRr.out.2.2.1
    clear HRs HRl
    have HB10 : Hid (Below wc.heap.size wc (wc.alloc (.cells #[] 3))) := below_alloc _ _
    go_wp2_with (at_builtin; go_must (refine append_vs _ rfl (.tmp 26) (.tmp 27) 22 3 (.int .i64 0) 8 Try.underlying22 info_int rfl rfl wc.heap.size _ [] rfl (emptyI wc) ao pn cap (ps.map iV) rfl (by rw [List.length_map]; exact HL.out) HNil.out (HP.out.1.below (HB1.out.trans (HB10.out.mono HB1.out.size))) (iV_one _) (by simp; omega) (by simp; omega) (by simp [World.size_alloc]) ?_))
    intro v2 w2 ho2 hg2 _
    have hb12 : Below wc.heap.size wc w2 := app_below HB10.out hg2 (fun j hj => by simp [Value.ownBlock] at hj; omega)
    obtain ⟨ao2, c2, rfl, hv2, hq2, hn2⟩ := ho2.shapeI (l := ps) (n := pn) (by simp) HL.out
    have HN := newC_calls ao2 pn c2 ps bound w2 HL.out (by omega) hn2 hv2
    have HB2 : Hid (Below w.heap.size w w2) := HB1.out.trans (hb12.mono HB1.out.size)
    have HOw2 : Hid (Ow w2 w.heap.size 3 (.slice ao2 pn c2) (ps.map iV)) := by
      have := ho2.mono HB1.out.size
      show Ow _ _ _ _ _
      simpa using this
    clear hb12 hv2 hq2 hn2 ho2 hg2 HB10 HB1
    go_wp2_with fail
    refine HN.mono ?_
    clear HN
    rintro e w3 ⟨cb, rfl, hc3, hb3⟩
    obtain ⟨b, hb⟩ : ∃ b : Int, b = max bound 1 := ⟨_, rfl⟩
    have hbp : 1 ≤ b := by omega
    have hbm : b ≤ 9223372036854775807 := by omega
    have HRN := refNew_calls w3 ao pn cap bound
    rw [← hb] at hc3 HRN
    have HO3 : Hid (Own1 w (fun k => w2.heap.size ≤ k ∧ k < w3.heap.size) cb ⟨ps, b, -1, []⟩ w3) := Own1.newer HB2.out hc3 hb3
    have HOw3 : Hid (Ow w3 w.heap.size 3 (.slice ao2 pn c2) (ps.map iV) ∧ ∀ a, ao2 = some a → a.block < w2.heap.size) := ⟨HOw2.out.below hb3, fun a ea => (HOw2.out.block a ea).2.2⟩
    clear hc3 hb3 hb HOw2 HB2
    go_wp2_with fail
    refine HRN.mono ?_
    clear HRN
    rintro e w4 ⟨rfl, hb4⟩
    obtain ⟨mb, Hmb⟩ : ∃ mb, Hid (mb = w4.heap.size) := ⟨_, rfl⟩
    obtain ⟨w5, Hw5⟩ : ∃ w5, Hid (w5 = w4.alloc (.cells #[.slice ao pn cap, .int .i64 b, .slice none 0 0] 29)) := ⟨_, rfl⟩
    have HI : Hid (RuI w (fun k => w2.heap.size ≤ k ∧ k < w3.heap.size) cb mb ⟨ps, b, -1, []⟩ ⟨ps, b, -1, []⟩ ao cap none 0 [] w5) := by
      have h4s := hb4.size
      refine ⟨(HO3.out.more hb4).more (by rw [Hw5.out]; exact below_alloc w4 _), by rw [Hw5.out, Hmb.out, HL.out]; exact heap_alloc_new w4 _, by rw [Hmb.out]; have := HO3.out.below.size; omega, fun h => by rw [Hmb.out] at h; omega, HP.out.1, HP.out.1.old, by show ps.length ≤ cap; rw [HL.out]; exact HP.out.2, fun k hk => by simp at hk, fun a e => (by cases e), fun y hy => (by cases hy), (by simp), fun _ => rfl, fun y hy => (by cases hy)⟩
    have HOw5 : Hid (Ow w5 w.heap.size 3 (.slice ao2 pn c2) (ps.map iV) ∧ ∀ a, ao2 = some a → a.block < w2.heap.size ∧ a.block ≠ mb) := ⟨(HOw3.out.1.below hb4).below (by rw [Hw5.out]; exact below_alloc w4 _), fun a ea => ⟨HOw3.out.2 a ea, by have h1 := (HOw3.out.1.block a ea).2.2; have h2 := hb4.size; rw [Hmb.out]; omega⟩⟩
    clear HO3 HOw3 hb4
    go_wp2
    rw [← Hw5.out, ← Hmb.out]
    clear Hw5 Hmb
    go_loopw [39] (fun i wr => ∃ (k : Nat) (qs : List Int), k ≤ pn ∧ i = .int .i64 (k : Int) ∧ Hid (qs.length = pn ∧ Ow wr w.heap.size 3 (.slice ao2 pn c2) (qs.map iV)) ∧ Hid (RuI w (fun k => w2.heap.size ≤ k ∧ k < w3.heap.size) cb mb ⟨ps, b, -1, []⟩ ⟨ps, b, -1, []⟩ ao cap none 0 [] wr)) (fun i _ => pn - (intOf i).toNat)
    case atStart => exact ⟨0, ps, Nat.zero_le _, rfl, ⟨HL.out, HOw5.out.1⟩, HI⟩
    case round =>
      clear HI
      obtain ⟨k, qs, hk, rfl, HOw, HI⟩ := hrel
      by_cases hlt : k < pn
      · have hqq : ∃ g, ao2 = some ⟨g, 0, none⟩ ∧ (∃ old, wr.cell? ⟨g, k, none⟩ = some old) ∧ wr.frozen? ⟨g, k, none⟩ = false := by
          obtain ⟨g, e, hcx, hfx⟩ := HOw.out.2.at k (by rw [List.length_map, HOw.out.1]; exact hlt)
          exact ⟨g, e, ⟨_, hcx⟩, hfx⟩
        obtain ⟨g, rfl, ⟨old, hcx⟩, hfx⟩ := hqq
        have HOn : Hid ((qs.set k (-7 - (k : Int))).length = pn ∧ Ow (wr.setCell ⟨g, k, none⟩ (.int .i64 (-7 - (k : Int)))) w.heap.size 3 (.slice (some ⟨g, 0, none⟩) pn c2) ((qs.set k (-7 - (k : Int))).map iV)) := by
          refine ⟨by rw [List.length_set]; exact HOw.out.1, ?_⟩
          have := HOw.out.2.stored k (iV (-7 - (k : Int)))
          rw [← List.map_set] at this
          exact this
        have hgl := HOw.out.2.lt g rfl
        have hg2 := HOw5.out.2 _ rfl
        have HIn : Hid (RuI w (fun k => w2.heap.size ≤ k ∧ k < w3.heap.size) cb mb ⟨ps, b, -1, []⟩ ⟨ps, b, -1, []⟩ ao cap none 0 [] (wr.setCell ⟨g, k, none⟩ (.int .i64 (-7 - (k : Int))))) :=
          HI.out.frm (T := fun j => j = g) ((Frm.refl (fun j => j = g) wr).setCell ⟨g, k, none⟩ _ (.inl rfl)) (fun j hj e => by have h1 := hg2.1; have h2 : w2.heap.size ≤ j := hj.1; have h3 : g < w2.heap.size := h1; omega) (fun e => hg2.2 e.symm) (fun a e => by cases e) (fun y hy => by cases hy) (fun j e => by rw [e]; exact hgl.1)
        clear HOw HI hgl hg2
        go_wp2
        go_roundw
        case rel => exact ⟨k + 1, _, by omega, by go_num, HOn, HIn⟩
        case measure => simp [intOf]; omega
      · have HI2 : Hid (∃ S, RuI w S cb mb ⟨ps, b, -1, []⟩ ⟨ps, b, -1, []⟩ ao cap none 0 [] wr) := ⟨_, HI.out⟩
        clear HOw HI HOw5
        go_wp2
        go_loopw [50] (fun i wr => ∃ (k : Nat) (S : Nat → Prop) (c : Ch) (po ho : Option Addr) (pc hc : Nat) (H : List He), k ≤ l ∧ i = .int .i64 (k : Int) ∧ Hid (RuI w S cb mb c c po pc ho hc H wr) ∧ Hid (Okc c k ∧ RefR c H ∧ H.length = k ∧ c.ages.length ≤ 1048576)) (fun i _ => l - (intOf i).toNat)
        case atStart =>
          obtain ⟨S, hS⟩ := HI2.out
          exact ⟨0, S, _, _, _, _, _, [], Nat.zero_le _, rfl, hS, ⟨hbp, hbm, by show (-1 : Int) ≤ -1; omega, by show (-1 : Int) ≤ _; omega, HPR.out, by show ps.length ≤ _; rw [HL.out]; omega, by simp⟩, RefR.new _ _, rfl, by simp⟩
        case round =>
          clear HI2
          obtain ⟨k, S, c, po, ho, pc, hc, H, hk, rfl, HI, HT⟩ := hrel
          by_cases hlt : k < l
          · have hkr : k < rs'.length := by rw [HRr.out.2.1]; exact hlt
            obtain ⟨rb, roff, rfl, hcell, hrv, hrn⟩ := (HRr.out.1.below HI.out.own.below) k hkr
            obtain ⟨-, -, -, -, hrw, -⟩ := HRr.out.1 k hkr
            have hrm := HRr.out.2.2.2 _ (List.getElem_mem hkr)
            obtain ⟨⟨xa, xc, r⟩, Hx⟩ : ∃ x, Hid (x = rs'[k]'hkr) := ⟨rs'[k]'hkr, rfl⟩
            rw [← Hx.out] at hcell hrv hrn hrm hrw
            dsimp only at hcell hrv hrn hrm hrw
            have HVB : Hid (∀ W, Below w.heap.size w W → VAt W xa (r.map bV)) := fun W hW => hrw.below hW
            obtain ⟨n, Hn⟩ : ∃ n, Hid (n = r.length) := ⟨_, rfl⟩
            rw [← Hn.out] at hcell hrn hrm
            have HVN : Hid (xa = none → xc = 0 ∧ n = 0) := hrn
            have HB0 : Hid (Below wr.heap.size wr (wr.alloc (.cells #[] 4))) := below_alloc _ _
            have HBw : Hid (Below w.heap.size w wr) := HI.out.own.below
            clear hrv hrn hrw hkr Hx
            go_wp2_with (at_builtin; go_must (refine append_vs _ rfl (.tmp 54) (.tmp 55) 31 4 (.bool false) 1 Try.underlying31 info_bool rfl rfl wr.heap.size _ [] rfl (emptyB wr _) xa n xc (r.map bV) rfl (by rw [List.length_map]; exact Hn.out.symm) HVN.out (HVB.out _ (HBw.out.trans (HB0.out.mono HBw.out.size))) (bV_one _) (by simp; omega) (by simp; omega) (by simp [World.size_alloc]) ?_))
            intro v5 w5 ho5 hg5 _
            have hb5 : Below wr.heap.size wr w5 := app_below HB0.out hg5 (fun j hj => by simp [Value.ownBlock] at hj; omega)
            obtain ⟨ag, gc, rfl, hv5, hq5, hn5⟩ := ho5.shapeB (l := r) (n := n) (by simp) Hn.out.symm
            have HG5 : Hid (Ow w5 wr.heap.size 4 (.slice ag n gc) (r.map bV)) := by
              show Ow _ _ _ _ _
              simpa using ho5
            have HGa : Hid (∀ a, ag = some a → wr.heap.size ≤ a.block ∧ a.block < w5.heap.size) := hq5
            have HI5 : Hid (RuI w S cb mb c c po pc ho hc H w5) := HI.out.more hb5
            have HS5 : Hid (wr.heap.size ≤ w5.heap.size ∧ mb < wr.heap.size ∧ (∀ j, S j → j < wr.heap.size) ∧ (∀ a, ho = some a → a.block < wr.heap.size) ∧ ∀ y ∈ H, ∀ a, y.ao = some a → a.block < wr.heap.size) := ⟨hb5.size, lt_of_heapT HI.out.mbx, HI.out.own.ch.sb, fun a e => (HI.out.hsn a e).2.2, fun y hy a e => (HI.out.hen y hy a e).2.2⟩
            have hmx5 := HI5.out.mbx
            rw [HT.out.2.2.1] at hmx5
            have m0 : w5.cell? ⟨mb, 0, none⟩ = some (.slice po c.picks.length pc) := by rw [cell_blkT hmx5]; rfl
            have m1 : w5.cell? ⟨mb, 1, none⟩ = some (.int .i64 c.bound) := by rw [cell_blkT hmx5]; rfl
            have m2 : w5.cell? ⟨mb, 2, none⟩ = some (.slice ho k hc) := by rw [cell_blkT hmx5]; rfl
            have HRX : Calls Try.prog 12 #[.agg #[.slice po c.picks.length pc, .int .i64 c.bound, .slice ho k hc], .slice xa n xc] w5 (RefQ w5 w.heap.size c.bound (nextP c r) H r) :=
              refNext_calls w5 w.heap.size c k po c.picks.length pc ho k hc H xa n xc r HT.out.1 HT.out.2.1 rfl (HI.out.pk.below HI5.out.own.below) HI.out.room HI5.out.hs HT.out.2.2.1 (by have := HI.out.hcap; rw [HT.out.2.2.1] at this; exact this) HI.out.hnil (by omega) HI.out.rl (HVB.out _ HI5.out.own.below) Hn.out.symm (by omega) HVN.out HI.out.old HI5.out.own.below.size
            have HOk : Hid (Okc (nextP c r).1 (k + 1) ∧ (nextP c r).1.ages.length ≤ 1048576 ∧ (nextP c r).1.bound = c.bound) := ⟨HT.out.1.next r (by rw [← Hn.out]; omega), okc_al (by rw [← Hn.out]; omega), next_bound c r⟩
            have HNo : Hid ((nextP c r).2.2 = false → (nextP c r).2.1 = 0) := next_none
            have HRR : Hid (∀ x : He, x.r = r → x.ch = chI (nextP c r) → RefR (nextP c r).1 (H ++ [x])) := fun x h1 h2 => by
              subst h1
              exact HT.out.2.1.next x h2
            have HNX : Hid (∀ W, ChAt W S cb c → VAt W ag (r.map bV) → (∀ a, ag = some a → ¬ S a.block ∧ a.block < W.heap.size) → Calls Try.prog 13 #[.pointer (some ⟨cb, 0, none⟩), .slice ag n gc] W (NextW W S cb (nextP c r))) := fun W h1 h2 h3 => next_calls cb c k ag n gc r W h1 HT.out.1 (by omega) (by have := HT.out.2.2.2; omega) Hn.out.symm (by omega) h2 h3
            obtain ⟨q, Hq⟩ : ∃ q, Hid (q = nextP c r) := ⟨_, rfl⟩
            rw [← Hq.out] at HRX HOk HRR HNX HNo
            obtain ⟨d', gt, okk⟩ := q
            dsimp only at HOk HRR HNo
            have HTl : Hid (H.length = k) := HT.out.2.2.1
            clear ho5 hg5 hv5 hq5 hn5 HB0 hb5 hmx5 HT HI Hq
            go_wp2_with fail
            refine HRX.mono ?_
            clear HRX
            rintro e w6 ⟨po', pc', ho', hc', x, rfl, hv6, hpc6, hH6, hxr, hxc, hhn6, hhc6, hb6, hold6, hho6, hxo6⟩
            dsimp only at hv6 hpc6 hold6 ⊢
            have hho0 : ∀ a, ho' = some a → a.block < w6.heap.size := fun a e => by
              obtain ⟨b1, o1, e1, c1, -⟩ := hH6 0 (by simp)
              rw [e1] at e
              cases e
              exact World.block_lt_of_cell? w6 ⟨b1, o1 + 0 * 2, none⟩ c1
            have HD : Hid (∀ (W : World) (o : Obj), W = (((w6.alloc o).setCell ⟨mb, 0, none⟩ (.slice po' d'.picks.length pc')).setCell ⟨mb, 1, none⟩ (.int .i64 c.bound)).setCell ⟨mb, 2, none⟩ (.slice ho' (k + 1) hc') → RuI w S cb mb c d' po' pc' ho' hc' (H ++ [x]) W ∧ VAt W ag (r.map bV) ∧ Ow W wr.heap.size 4 (.slice ag n gc) (r.map bV) ∧ w5.heap.size ≤ W.heap.size) := fun W o hW => by
              have hF : Frm (fun k => k = mb) (w6.alloc o) W := by
                rw [hW]
                exact (((Frm.refl (fun k => k = mb) (w6.alloc o)).setCell ⟨mb, 0, none⟩ _ (.inl rfl)).setCell ⟨mb, 1, none⟩ _ (.inl rfl)).setCell ⟨mb, 2, none⟩ _ (.inl rfl)
              have hO : Ow W wr.heap.size 4 (.slice ag n gc) (r.map bV) := ((HG5.out.below hb6).below (below_alloc w6 o)).frm hF (fun j e hj => by have := (HG5.out.lt j e).1; have := HS5.out.2.1; omega)
              refine ⟨HI5.out.doc hb6 hv6 hpc6 hH6 hhn6 hhc6 hold6 hho6 (fun a e => (hxo6 a e).1) (by rw [hxr, ← Hn.out]; exact hrm) (fun a e => (hxo6 a e).2) hho0 (o := o) ?_, hO.v, hO, by have h1 := hF.size; simp [World.size_alloc] at h1; have := hb6.size; omega⟩
              rw [HTl.out, HOk.out.2.2]; exact hW
            have HGo : Hid (∀ j, (Value.slice ag n gc).ownBlock = some j → wr.heap.size ≤ j ∧ j < w5.heap.size) := fun j e => HG5.out.lt j e
            have HR2 : Hid (RefR d' (H ++ [x])) := HRR.out x hxr hxc
            have HXo : Hid ((∀ a, ho' = some a → w5.heap.size ≤ a.block) ∧ (∀ a, x.ao = some a → w5.heap.size ≤ a.block) ∧ w5.heap.size ≤ w6.heap.size) := ⟨hho6, fun a e => (hxo6 a e).1, hb6.size⟩
            obtain ⟨ci, Hci⟩ : ∃ ci, Hid (ci = chI (d', gt, okk)) := ⟨_, rfl⟩
            rw [← Hci.out]
            rw [HTl.out]
            have hmx6 : ∀ o, (w6.alloc o).heap[mb]? = w5.heap[mb]? := fun o => by
              have h1 := HS5.out.1
              have h2 := HS5.out.2.1
              have h3 := hb6.size
              rw [(below_alloc w6 o).block mb (by omega), hb6.block mb (by omega)]
            have hmx5 := HI5.out.mbx
            have n0 : ∀ o, (w6.alloc o).cell? ⟨mb, 0, none⟩ = some (.slice po c.picks.length pc) := fun o => by rw [cell_blkT ((hmx6 o).trans hmx5)]; rfl
            have n1 : ∀ o, (w6.alloc o).cell? ⟨mb, 1, none⟩ = some (.int .i64 c.bound) := fun o => by rw [cell_blkT ((hmx6 o).trans hmx5)]; rfl
            have n2 : ∀ o, (w6.alloc o).cell? ⟨mb, 2, none⟩ = some (.slice ho H.length hc) := fun o => by rw [cell_blkT ((hmx6 o).trans hmx5)]; rfl
            have nf : ∀ o j, (w6.alloc o).frozen? ⟨mb, j, none⟩ = false := fun o j => frozen_blkT ((hmx6 o).trans hmx5)
            clear hv6 hpc6 hH6 hxr hxc hhn6 hhc6 hb6 hold6 hho6 hxo6 hho0 HRR HI5 hmx6 hmx5 m0 m1 m2 HG5
            go_wp2_with fail
            refine (HNX.out _ (HD.out _ _ rfl).1.own.ch (HD.out _ _ rfl).2.1 (fun a ea => ⟨fun hS => ?_, ?_⟩)).mono ?_
            · have h1 := HS5.out.2.2.1 _ hS
              have h2 := (HGa.out a ea).1
              omega
            · exact Nat.lt_of_lt_of_le (HGa.out a ea).2 (HD.out _ _ rfl).2.2.2
            rintro e w10 ⟨he, hc10, hf10⟩
            dsimp only at he
            subst he
            have HI10 : Hid (∃ S', (∀ j, S' j → S j ∨ w5.heap.size ≤ j) ∧ RuI w S' cb mb d' d' po' pc' ho' hc' (H ++ [x]) w10) := ⟨_, fun j hj => by
              rcases hj with hj | hj
              · exact .inl hj
              · exact .inr (Nat.le_trans (HD.out _ _ rfl).2.2.2 hj.1), (HD.out _ _ rfl).1.next hc10 hf10⟩
            have HO10 : Hid (Ow w10 wr.heap.size 4 (.slice ag n gc) (r.map bV)) := (HD.out _ _ rfl).2.2.1.frm hf10 (fun j e hj => by
              have h1 := HS5.out.2.2.1 _ hj
              have h2 := (HGo.out j e).1
              omega)
            clear hc10 hf10 HD HNX n0 n1 n2 nf
            obtain ⟨S', hS', hI10⟩ := HI10.out
            have HI11 : Hid (RuI w S' cb mb d' d' po' pc' ho' hc' (H ++ [x]) w10 ∧ True) := ⟨hI10, trivial⟩
            have HSd : Hid (∀ j, S' j → S j ∨ w5.heap.size ≤ j) := hS'
            clear HI10 hS' hI10
            obtain ⟨Zb, HZb⟩ : ∃ z, Hid (z = wr.heap.size) := ⟨_, rfl⟩
            rw [← HZb.out] at HO10
            have HLH : Hid (∀ m, Calls Try.prog 14 #[.pointer (some ⟨cb, 0, none⟩)] (w10.drewN m) fun e w' => e = .returned (.int .i64 (d'.picks.length : Int)) ∧ w' = w10.drewN m) := fun m => left_calls cb d' _ (HI11.out.1.own.ch.below (below_drawsT _ _))
            have m0 : ∀ m, (w10.drewN m).cell? ⟨mb, 0, none⟩ = some (.slice po' d'.picks.length pc') := fun m => by
              rw [World.cell?_of_block (a := ⟨mb, 0, none⟩) ((below_drawsT w10 m).block mb (lt_of_heapT HI11.out.1.mbx)), cell_blkT HI11.out.1.mbx]; rfl
            obtain ⟨pl, Hpl⟩ : ∃ pl, Hid (pl = d'.picks.length) := ⟨_, rfl⟩
            have hq : ((pl : Int) != (pl : Int)) = false := by simp
            rw [← Hpl.out] at m0 HLH
            cases okk with
            | false =>
              have hg0 : gt = 0 := HNo.out rfl
              have hci : ci = -1 := Hci.out
              subst hg0
              subst hci
              go_wp2_with fail
              go_quiet ((go_at_call 14; exact Calls.quiet_of_same (HLH.out _)))
              go_wp2_with fail
              go_loopw [100] (fun i wr => ∃ j : Nat, j ≤ n ∧ i = .int .i64 (j : Int) ∧ Hid (RuI w S' cb mb d' d' po' pc' ho' hc' (H ++ [x]) wr) ∧ Hid (Ow wr Zb 4 (.slice ag n gc) ((flipK r j).map bV))) (fun i _ => n - (intOf i).toNat)
              case atStart => exact ⟨0, Nat.zero_le _, rfl, HI11.out.1.more (below_drawsT _ _), by show Ow _ _ _ _ _; rw [flipK_zero]; exact HO10.out.below (below_drawsT _ _)⟩
              case round =>
                clear HLH m0
                obtain ⟨j, hj, rfl, HIw, HOw⟩ := hrel
                by_cases hjn : j < n
                · have hjr : j < r.length := by rw [← Hn.out]; exact hjn
                  obtain ⟨bb, Hbb⟩ : ∃ bb, Hid (bb = r.getD j false) := ⟨_, rfl⟩
                  have hfj : ((flipK r j).map bV)[j]? = some (.bool bb) := by rw [List.getElem?_map, flipK_at hjr, ← Hbb.out]; rfl
                  have hqq : ∃ g, ag = some ⟨g, 0, none⟩ ∧ wr.cell? ⟨g, j, none⟩ = some (.bool bb) ∧ wr.frozen? ⟨g, j, none⟩ = false := by
                    obtain ⟨g, e, hcx, hfx⟩ := HOw.out.at j (by rw [List.length_map, flipK_length r j (Nat.le_of_lt hjr)]; exact hjr)
                    exact ⟨g, e, hcx.trans ((List.getElem?_eq_getElem _).symm.trans hfj), hfx⟩
                  obtain ⟨g, rfl, hgx, hfx⟩ := hqq
                  have hrq : ∃ b1 off1, xa = some ⟨b1, off1, none⟩ ∧ wr.cell? ⟨b1, off1 + j, none⟩ = some (.bool bb) := by
                    obtain ⟨b1, off1, e, hc1⟩ := HVB.out wr HIw.out.own.below j (by rw [List.length_map]; exact hjr)
                    refine ⟨b1, off1, e, hc1.trans ?_⟩
                    rw [← List.getElem?_eq_getElem, List.getElem?_map, List.getElem?_eq_getElem hjr, Hbb.out, List.getD_eq_getElem?_getD, List.getElem?_eq_getElem hjr]
                    rfl
                  obtain ⟨b1, off1, rfl, hrx⟩ := hrq
                  have hbq : (bb != bb) = false := by simp
                  have HN2 : Hid (∀ q, RuI w S' cb mb d' d' po' pc' ho' hc' (H ++ [x]) ((wr.drewN q).setCell ⟨g, j, none⟩ (.bool (!bb))) ∧ Ow ((wr.drewN q).setCell ⟨g, j, none⟩ (.bool (!bb))) Zb 4 (.slice (some ⟨g, 0, none⟩) n gc) ((flipK r (j + 1)).map bV)) := fun q => by
                    have hgb := HGo.out g rfl
                    refine ⟨HIw.out.frm (T := fun k => k = g) ((Frm.ofDraws (fun k => k = g) wr q).setCell ⟨g, j, none⟩ _ (.inl rfl)) (fun i hi e => ?_) (fun e => ?_) (fun a e e2 => ?_) (fun y hy a e e2 => ?_) (fun i e => ?_), ?_⟩
                    · rcases HSd.out i hi with h1 | h1
                      · have := HS5.out.2.2.1 i h1; omega
                      · omega
                    · have := HS5.out.2.1; omega
                    · have := HXo.out.1 a e; omega
                    · rcases List.mem_append.1 hy with hy | hy
                      · have := HS5.out.2.2.2.2 y hy a e; omega
                      · rw [List.mem_singleton.1 hy] at e
                        have := HXo.out.2.1 a e; omega
                    · have := HBw.out.size; omega
                    · have := (HOw.out.below (below_drawsT wr q)).stored j (bV (!bb))
                      rw [← List.map_set, Hbb.out, flipK_succ hjr, ← Hbb.out] at this
                      exact this
                  clear HIw HOw hfj hjr
                  go_wp2_with fail
                  go_quiet (fail)
                  go_wp2
                  go_roundw
                  case rel => exact ⟨j + 1, by omega, by go_num, (HN2.out _).1, (HN2.out _).2⟩
                  case measure => simp [intOf]; omega
                · go_wp2
                  go_roundw
                  case rel => exact ⟨k + 1, S', d', po', ho', pc', hc', H ++ [x], by omega, by go_num, HIw, HOk.out.1, HR2.out, by rw [List.length_append, HTl.out]; rfl, HOk.out.2.1⟩
                  case measure => simp [intOf]; omega
            | true =>
              have hci : ci = (gt : Int) := Hci.out
              subst hci
              have hd : ((gt : Int) ≥ 0) := by omega
              have hq3 : ((gt : Int) != (gt : Int)) = false := by simp
              go_wp2_with fail
              go_quiet ((go_at_call 14; exact Calls.quiet_of_same (HLH.out _)))
              go_wp2_with fail
              go_loopw [100] (fun i wr => ∃ j : Nat, j ≤ n ∧ i = .int .i64 (j : Int) ∧ Hid (RuI w S' cb mb d' d' po' pc' ho' hc' (H ++ [x]) wr) ∧ Hid (Ow wr Zb 4 (.slice ag n gc) ((flipK r j).map bV))) (fun i _ => n - (intOf i).toNat)
              case atStart => exact ⟨0, Nat.zero_le _, rfl, HI11.out.1.more (below_drawsT _ _), by show Ow _ _ _ _ _; rw [flipK_zero]; exact HO10.out.below (below_drawsT _ _)⟩
              case round =>
                clear HLH m0
                obtain ⟨j, hj, rfl, HIw, HOw⟩ := hrel
                by_cases hjn : j < n
                · have hjr : j < r.length := by rw [← Hn.out]; exact hjn
                  obtain ⟨bb, Hbb⟩ : ∃ bb, Hid (bb = r.getD j false) := ⟨_, rfl⟩
                  have hfj : ((flipK r j).map bV)[j]? = some (.bool bb) := by rw [List.getElem?_map, flipK_at hjr, ← Hbb.out]; rfl
                  have hqq : ∃ g, ag = some ⟨g, 0, none⟩ ∧ wr.cell? ⟨g, j, none⟩ = some (.bool bb) ∧ wr.frozen? ⟨g, j, none⟩ = false := by
                    obtain ⟨g, e, hcx, hfx⟩ := HOw.out.at j (by rw [List.length_map, flipK_length r j (Nat.le_of_lt hjr)]; exact hjr)
                    exact ⟨g, e, hcx.trans ((List.getElem?_eq_getElem _).symm.trans hfj), hfx⟩
                  obtain ⟨g, rfl, hgx, hfx⟩ := hqq
                  have hrq : ∃ b1 off1, xa = some ⟨b1, off1, none⟩ ∧ wr.cell? ⟨b1, off1 + j, none⟩ = some (.bool bb) := by
                    obtain ⟨b1, off1, e, hc1⟩ := HVB.out wr HIw.out.own.below j (by rw [List.length_map]; exact hjr)
                    refine ⟨b1, off1, e, hc1.trans ?_⟩
                    rw [← List.getElem?_eq_getElem, List.getElem?_map, List.getElem?_eq_getElem hjr, Hbb.out, List.getD_eq_getElem?_getD, List.getElem?_eq_getElem hjr]
                    rfl
                  obtain ⟨b1, off1, rfl, hrx⟩ := hrq
                  have hbq : (bb != bb) = false := by simp
                  have HN2 : Hid (∀ q, RuI w S' cb mb d' d' po' pc' ho' hc' (H ++ [x]) ((wr.drewN q).setCell ⟨g, j, none⟩ (.bool (!bb))) ∧ Ow ((wr.drewN q).setCell ⟨g, j, none⟩ (.bool (!bb))) Zb 4 (.slice (some ⟨g, 0, none⟩) n gc) ((flipK r (j + 1)).map bV)) := fun q => by
                    have hgb := HGo.out g rfl
                    refine ⟨HIw.out.frm (T := fun k => k = g) ((Frm.ofDraws (fun k => k = g) wr q).setCell ⟨g, j, none⟩ _ (.inl rfl)) (fun i hi e => ?_) (fun e => ?_) (fun a e e2 => ?_) (fun y hy a e e2 => ?_) (fun i e => ?_), ?_⟩
                    · rcases HSd.out i hi with h1 | h1
                      · have := HS5.out.2.2.1 i h1; omega
                      · omega
                    · have := HS5.out.2.1; omega
                    · have := HXo.out.1 a e; omega
                    · rcases List.mem_append.1 hy with hy | hy
                      · have := HS5.out.2.2.2.2 y hy a e; omega
                      · rw [List.mem_singleton.1 hy] at e
                        have := HXo.out.2.1 a e; omega
                    · have := HBw.out.size; omega
                    · have := (HOw.out.below (below_drawsT wr q)).stored j (bV (!bb))
                      rw [← List.map_set, Hbb.out, flipK_succ hjr, ← Hbb.out] at this
                      exact this
                  clear HIw HOw hfj hjr
                  go_wp2_with fail
                  go_quiet (fail)
                  go_wp2
                  go_roundw
                  case rel => exact ⟨j + 1, by omega, by go_num, (HN2.out _).1, (HN2.out _).2⟩
                  case measure => simp [intOf]; omega
                · go_wp2
                  go_roundw
                  case rel => exact ⟨k + 1, S', d', po', ho', pc', hc', H ++ [x], by omega, by go_num, HIw, HOk.out.1, HR2.out, by rw [List.length_append, HTl.out]; rfl, HOk.out.2.1⟩
                  case measure => simp [intOf]; omega
          · go_wp2
            go_ret
            exact ⟨rfl, HI.out.own.below⟩
end Go.Proofs.Yteckckohflnahaa
