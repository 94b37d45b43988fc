/- Layer 17 (sched): Play. -/
import Derived.Test.YtagdgecmoeacgaaScPlay
namespace Go.Proofs.Ytagdgecmoeacgaa
open Go.RowKit
set_option linter.unusedVariables false
variable {S S' : Nat → Prop}

def jW (j : Int × Int) : Wk := ⟨0, j.1, j.2, 0⟩
/-- k workers are made. -/
structure PlI (w : World) (S : Nat → Prop) (lb g n : Nat) (js : List (Int × Int)) (k : Nat) (ws : List Wk) (wr : World) : Prop where
  lg : LgAt wr S lb ws []
  own : ∀ j, S j → w.heap.size ≤ j
  ac : Ow wr w.heap.size 40 (.slice (some ⟨g, 0, none⟩) n n) (((ws.map (·.b)).map acB) ++ List.replicate (n - k) .nilIface)
  er : ws.map er = (js.take k).map jW
  ng : ¬ S g
  below : Below w.heap.size w wr
theorem PlI.len {w wr : World} {lb g n k : Nat} {js : List (Int × Int)} {ws : List Wk} (h : PlI w S lb g n js k ws wr) (hk : k ≤ js.length) : ws.length = k := by
  have := congrArg List.length h.er
  simp at this
  omega
theorem PlI.more {w wr w' : World} {lb g n k : Nat} {js : List (Int × Int)} {ws : List Wk} (h : PlI w S lb g n js k ws wr) (hb : Below wr.heap.size wr w') : PlI w S lb g n js k ws w' :=
  ⟨h.lg.below hb, h.own, h.ac.below hb, h.er, h.ng, h.below.trans (hb.mono h.below.size)⟩
theorem PlI.add {w wr w' : World} {lb g n k xb : Nat} {js : List (Int × Int)} {ws : List Wk} (h : PlI w S lb g n js k ws wr) (hk : k < js.length) (hkn : k < n)
    (hl : LgAt w' (fun k => S k ∨ (wr.heap.size ≤ k ∧ k < w'.heap.size)) lb (ws ++ [⟨xb, js[k].1, js[k].2, 0⟩]) []) (hf : Frm S wr w') :
    PlI w (fun k => S k ∨ (wr.heap.size ≤ k ∧ k < w'.heap.size)) lb g n js (k + 1) (ws ++ [⟨xb, js[k].1, js[k].2, 0⟩]) (w'.setCell ⟨g, k, none⟩ (.iface 59 (.pointer (some ⟨xb, 0, none⟩)))) := by
  have hlen := h.len (Nat.le_of_lt hk)
  have hg := h.ac.lt g rfl
  have hac : Ow w' w.heap.size 40 (.slice (some ⟨g, 0, none⟩) n n) (((ws.map (·.b)).map acB) ++ List.replicate (n - k) .nilIface) := h.ac.frm hf fun j e => by simp [Value.ownBlock] at e; rw [← e]; exact h.ng
  have hng : ¬ (S g ∨ (wr.heap.size ≤ g ∧ g < w'.heap.size)) := fun x => by
    rcases x with x | x
    · exact h.ng x
    · omega
  have hF : Frm (fun k => k = g) w' (w'.setCell ⟨g, k, none⟩ (.iface 59 (.pointer (some ⟨xb, 0, none⟩)))) := (Frm.refl (fun k => k = g) w').setCell ⟨g, k, none⟩ _ (.inl rfl)
  refine ⟨hl.frm hF fun j hj e => hng (by rw [← e]; exact hj), fun j hj => ?_, ?_, ?_, hng, ?_⟩
  · rcases hj with hj | hj
    · exact h.own j hj
    · exact Nat.le_trans h.below.size hj.1
  · have h1 := hac.stored k (.iface 59 (.pointer (some ⟨xb, 0, none⟩)))
    rw [List.set_append_right _ _ (by simp [hlen])] at h1
    have e1 : k - ((ws.map (·.b)).map acB).length = 0 := by simp [hlen]
    rw [e1, show n - k = (n - (k + 1)) + 1 by omega, List.replicate_succ, List.set_cons_zero] at h1
    rw [List.map_append, List.map_append, List.append_assoc]
    exact h1
  · rw [List.map_append, h.er, List.take_succ_eq_append_getElem hk, List.map_append]
    rfl
  · exact (h.below.trans (hf.toBelow h.below.size h.own)).setCell (by exact hg.1) _

set_option maxRecDepth 100000 in
set_option maxHeartbeats 4000000 in
theorem play_calls (w : World) (jo : Option Addr) (jn jc : Nat) (js : List (Int × Int)) (ao : Option Addr) (pn cap : Nat) (ps : List Int) (bound most : Int) (mx : Nat)
    (hj : JbAt w jo js) (hjn : js.length = jn) (hjl : jn ≤ 1048576) (hp : VAt w ao (ps.map iV)) (hpn : ps.length = pn) (hpl : pn ≤ 17592186044416) (hnil : ao = none → cap = 0 ∧ pn = 0) (hpr : ∀ p ∈ ps, -9223372036854775808 ≤ p ∧ p ≤ 9223372036854775807) (hb2 : bound ≤ 9223372036854775807)
    (hm : most.toNat = mx) (hmx : mx ≤ 1048576) :
    Calls Try.prog 8 #[.slice jo jn jc, .slice ao pn cap, .int .i64 bound, .int .i64 most] w fun e w' => (∃ v, e = .returned v ∧ Ow w' w.heap.size 3 v ((playP ps (max bound 1) js mx).map nV)) ∧ Below w.heap.size w w' := by
  have HJ : Hid (JbAt w jo js) := hj
  have HP : Hid (VAt w ao (ps.map iV)) := hp
  have HL : Hid (js.length = jn ∧ ps.length = pn) := ⟨hjn, hpn⟩
  have HNil : Hid (ao = none → cap = 0 ∧ pn = 0) := hnil
  have HPR : Hid (∀ p ∈ ps, -9223372036854775808 ≤ p ∧ p ≤ 9223372036854775807) := hpr
  have HM : Hid (most.toNat = mx) := hm
  have HB : Hid (max bound 1 ≤ 9223372036854775807 ∧ 1 ≤ max bound 1) := ⟨by omega, by omega⟩
  have HL0 := newLog_calls w
  obtain ⟨bd, Hbd⟩ : ∃ bd, Hid (bd = max bound 1) := ⟨_, rfl⟩
  rw [← Hbd.out] at HB ⊢
  clear hj hp hjn hpn hnil hpr hm hb2
  go_enter Try.func8, Try.ntmps8
  go_wp2_with fail
  refine HL0.mono ?_
  clear HL0
  rintro e w1 ⟨lb, rfl, hl1, hb1⟩
  obtain ⟨w2, hmk, ho2, hb2⟩ := make_actors w1 jn (by omega)
  obtain ⟨g, Hg⟩ : ∃ g, Hid (g = w1.heap.size) := ⟨_, rfl⟩
  rw [← Hg.out] at hmk ho2
  have HI : Hid (∃ S, PlI w S lb g jn js 0 [] w2) := by
    refine ⟨fun k => w.heap.size ≤ k ∧ k < w1.heap.size, hl1.below hb2, fun j hj => hj.1, ?_, rfl, fun hg => ?_, hb1.trans (hb2.mono hb1.size)⟩
    · rw [← Hg.out] at hb2
      exact ho2.mono (by rw [Hg.out]; exact hb1.size)
    · rw [Hg.out] at hg; omega
  clear hl1 hb1 ho2 hb2 Hg
  go_wp2
  clear hmk
  go_loopw [19] (fun i wr => ∃ (k : Nat) (S : Nat → Prop) (ws : List Wk), k ≤ jn ∧ i = .int .i64 (k : Int) ∧ Hid (PlI w S lb g jn js k ws wr)) (fun i _ => jn - (intOf i).toNat)
  case atStart =>
    obtain ⟨S, hS⟩ := HI.out
    exact ⟨0, S, [], Nat.zero_le _, rfl, hS⟩
  case round =>
    clear HI
    obtain ⟨k, S, ws, hk, rfl, HI⟩ := hrel
    by_cases hlt : k < jn
    · have hkj : k < js.length := by rw [HL.out.1]; exact hlt
      obtain ⟨b, off, rfl, hc0, hc1⟩ := (HJ.out.below HI.out.below) k hkj
      have HIa : Hid (∀ o, PlI w S lb g jn js k ws (wr.alloc o)) := fun o => HI.out.more (below_alloc1 wr o)
      have hws := HI.out.len (Nat.le_of_lt hkj)
      have HN : Hid (∀ (w' : World) (xb : Nat) (W0 : World), PlI w S lb g jn js k ws W0 → LgAt w' (fun k => S k ∨ (W0.heap.size ≤ k ∧ k < w'.heap.size)) lb (ws ++ [⟨xb, js[k].1, js[k].2, 0⟩]) [] → Frm S W0 w' → ∃ S', PlI w S' lb g jn js (k + 1) (ws ++ [⟨xb, js[k].1, js[k].2, 0⟩]) (w'.setCell ⟨g, k, none⟩ (.iface 59 (.pointer (some ⟨xb, 0, none⟩))))) := fun w' xb W0 h0 hl hf => ⟨_, h0.add hkj hlt hl hf⟩
      obtain ⟨ja, Hja⟩ : ∃ ja, Hid (ja = (js[k]'hkj).1) := ⟨(js[k]'hkj).1, rfl⟩
      obtain ⟨jb, Hjb⟩ : ∃ jb, Hid (jb = (js[k]'hkj).2) := ⟨(js[k]'hkj).2, rfl⟩
      rw [← Hja.out] at hc0
      rw [← Hjb.out] at hc1
      rw [← Hja.out, ← Hjb.out] at HN
      have HAC := fun (W : World) (hW : PlI w S lb g jn js k ws W) => add_calls W lb ws [] ja jb hW.lg (by omega)
      have HACH : Hid (∀ (W : World), PlI w S lb g jn js k ws W → Calls Try.prog 13 #[.pointer (some ⟨lb, 0, none⟩), .agg #[.int .i64 ja, .int .i64 jb]] W (AddW W S lb ws [] ja jb)) := HAC
      clear HAC hws HI
      go_wp2_with fail
      refine (HACH.out _ (HIa.out _)).mono ?_
      rintro e w3 ⟨xb, rfl, hl3, hf3, hx3⟩
      obtain ⟨S3, hS3⟩ := HN.out w3 xb _ (HIa.out _) hl3 hf3
      have HI3 : Hid (PlI w S3 lb g jn js (k + 1) (ws ++ [⟨xb, ja, jb, 0⟩]) (w3.setCell ⟨g, k, none⟩ (.iface 59 (.pointer (some ⟨xb, 0, none⟩))))) := hS3
      have hqq : (∃ old, w3.cell? ⟨g, k, none⟩ = some old) ∧ w3.frozen? ⟨g, k, none⟩ = false := by
        have hac := (HIa.out (.cells #[.int .i64 ja, .int .i64 jb] 32)).ac.frm hf3 fun j e => by simp [Value.ownBlock] at e; rw [← e]; exact (HIa.out (.cells #[.int .i64 ja, .int .i64 jb] 32)).ng
        have hlen : (((ws.map (fun x : Wk => x.b)).map acB) ++ List.replicate (jn - k) Value.nilIface).length = jn := by
          have := (HIa.out (.cells #[.int .i64 ja, .int .i64 jb] 32)).len (Nat.le_of_lt hkj)
          simp [this]; omega
        obtain ⟨g', eg, hcx, hfx⟩ := hac.at k (by rw [hlen]; exact hlt)
        simp only [Option.some.injEq, Addr.mk.injEq, and_true] at eg
        subst eg
        exact ⟨⟨_, hcx⟩, hfx⟩
      obtain ⟨⟨old, hcx⟩, hfx⟩ := hqq
      clear hl3 hf3 hS3 HN HIa HACH hc0 hc1
      go_wp2
      go_roundw
      case rel => exact ⟨k + 1, S3, _, by omega, by go_num, HI3⟩
      case measure => simp [intOf]; omega
    · have hkn : k = jn := by omega
      subst hkn
      have hlen := HI.out.len (by rw [HL.out.1]; exact Nat.le_refl _)
      have HNC := newC_calls ao pn cap ps bound wr HL.out.2 hpl HNil.out (HP.out.below HI.out.below)
      rw [← Hbd.out] at HNC
      clear hlt
      have hlt : ¬ ((k : Int) < (k : Int)) := by omega
      go_wp2_with fail
      refine HNC.mono ?_
      clear HNC
      rintro e w3 ⟨cb, rfl, hc3, hb3⟩
      have HI3 : Hid (PlI w S lb g k js k ws w3) := HI.out.more hb3
      have HSt : Hid (StI w3 S (fun k => wr.heap.size ≤ k ∧ k < w3.heap.size) lb cb ⟨⟨ps, bd, -1, []⟩, ws, []⟩) :=
        ⟨HI3.out.lg, hc3, fun j hj hn => by have := HI.out.lg.sb j hj; omega, ⟨HB.out.2, HB.out.1, by show (-1 : Int) ≤ -1; omega, by show (-1 : Int) ≤ _; omega, HPR.out, by show ps.length ≤ _; rw [HL.out.2]; exact hpl, by simp⟩, by simp, fun x hx => by
          have h1 := HI3.out.er
          have h2 : er x ∈ (js.take k).map jW := by rw [← h1]; exact List.mem_map_of_mem hx
          obtain ⟨j, _, e⟩ := List.mem_map.1 h2
          have : (jW j).done = (er x).done := by rw [e]
          show x.done ≤ 0
          have h3 : (er x).done = x.done := rfl
          have h4 : (jW j).done = 0 := rfl
          omega⟩
      have hgl := HI.out.ac.lt g rfl
      have HV : Hid (VAt w3 (some ⟨g, 0, none⟩) ((ws.map (·.b)).map acB)) := by
        have := HI3.out.ac.v
        rw [Nat.sub_self, List.replicate_zero, List.append_nil] at this
        exact this
      have HRC := run_calls w3 lb cb k k mx (some ⟨g, 0, none⟩) ⟨⟨ps, bd, -1, []⟩, ws, []⟩ most HSt.out hlen HV.out (fun a ea => by cases ea; exact ⟨HI3.out.ng, fun hh => by have h9 : wr.heap.size ≤ g := hh.1; omega⟩) (by omega) HM.out hmx (by show 0 + mx ≤ _; omega)
      have HD : Hid ((runR mx ⟨⟨ps, bd, -1, []⟩, ws, []⟩).D = playP ps bd js mx) := play_eq (by
        unfold erS st0
        dsimp only
        rw [HI3.out.er, ← HL.out.1, List.take_length]; rfl) mx
      have HBw : Hid (Below w.heap.size w w3 ∧ ∀ j, (S j ∨ (wr.heap.size ≤ j ∧ j < w3.heap.size)) → w.heap.size ≤ j) := ⟨HI3.out.below, fun j hj => by
        rcases hj with hj | hj
        · exact HI3.out.own j hj
        · have := HI.out.below.size; omega⟩
      have HDl : Hid ((runR mx ⟨⟨ps, bd, -1, []⟩, ws, []⟩).D.length ≤ mx) := by
        have : ∀ (q : Nat) (s : St), (runR q s).D.length ≤ s.D.length + q := by
          intro q
          induction q with
          | zero => intro s; exact Nat.le_refl _
          | succ q ih =>
            intro s
            show (runR q (stepR s)).D.length ≤ _
            have h1 := ih (stepR s)
            have h2 : (stepR s).D.length ≤ s.D.length + 1 := by
              unfold stepR; split <;> simp
            omega
        have := this mx ⟨⟨ps, bd, -1, []⟩, ws, []⟩
        show _ ≤ _
        simpa using this
      obtain ⟨sf, Hsf⟩ : ∃ sf, Hid (sf = runR mx ⟨⟨ps, bd, -1, []⟩, ws, []⟩) := ⟨_, rfl⟩
      rw [← Hsf.out] at HRC HD HDl
      clear HI HI3 HSt HV hc3 hb3 hgl Hsf
      go_wp2_with fail
      refine HRC.mono ?_
      clear HRC
      rintro e w4 ⟨rfl, ⟨T1, T2, hst, hs1, hs2⟩, hf4, -⟩
      have HB4 : Hid (Below w.heap.size w w4) := HBw.out.1.trans (hf4.toBelow HBw.out.1.size HBw.out.2)
      have HDC := done_calls w4 lb sf.ws sf.D hst.lg (by have := HDl.out; omega)
      rw [HD.out] at HDC
      clear hst hs1 hs2 hf4
      go_wp2_with fail
      refine HDC.mono ?_
      clear HDC
      rintro e w5 ⟨⟨v, rfl, ho5⟩, hb5⟩
      obtain ⟨ao5, c5, rfl, -⟩ := ho5.shape
      have HO5 : Hid (Ow w5 w.heap.size 3 (.slice ao5 ((playP ps bd js mx).map nV).length c5) ((playP ps bd js mx).map nV)) := ho5.mono HB4.out.size
      have HB5 : Hid (Below w.heap.size w w5) := HB4.out.trans (hb5.mono HB4.out.size)
      obtain ⟨ol, Hol⟩ : ∃ ol, Hid (ol = ((playP ps bd js mx).map nV).length) := ⟨_, rfl⟩
      rw [← Hol.out] at HO5 ⊢
      clear ho5 hb5
      go_wp2
      go_ret
      exact ⟨⟨_, rfl, HO5.out⟩, HB5.out⟩
end Go.Proofs.Ytagdgecmoeacgaa
