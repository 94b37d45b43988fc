/- Layer 18 (json): the document's Write of some kinds. -/
import Derived.Test.YtelhgjepjieocaaDoorJxRwM
import Derived.Test.YtelhgjepjieocaaDoorJxApV4
import Derived.Lib.ItoaLen
namespace Go.Proofs.YtelhgjepjieocaaDoor
open Go.RowKit Go.MapKept Go.Sort
set_option linter.unusedVariables false

set_option maxRecDepth 100000 in
set_option maxHeartbeats 8000000 in
theorem writeK5_calls (n : Int) (t : List UInt8) (ns : List (List UInt8)) (its : List Js) (IH : ∀ x ∈ its, SpecW x) (d nl nc il ic : Nat) (na ia : Option Addr) (w : World) (S : Nat → Prop) (B : Nat) (vt : Value) (l : List Nat)
    (hnl : ns.length = nl) (hil : its.length = il) (hso : soundJ (.mk 5 n t ns its) d = true) (hr : Rng (.mk 5 n t ns its)) (hsm : Sml (.mk 5 n t ns its)) (hv : VAt w na (ns.map strV)) (hnS : ∀ a, na = some a → ns ≠ [] → S a.block) (hi : ItAt w S ia 0 its) (hs : ∀ a, ia = some a → its ≠ [] → S a.block) (hSB : ∀ k, S k → k < B) (ho : Ow w B 5 vt (nbs l)) (hl : l.length ≤ 65536) (hB : B ≤ w.heap.size) :
    Calls Tryd.prog 29 #[vt, .agg (jC 5 n (nmB t) (.slice na nl nc) (.slice ia il ic))] w (TxC w B vt (nbs (docW (.mk 5 n t ns its) l))) := by
  obtain ⟨Q, HQ⟩ : ∃ Q : List Nat, Hid (Q = docW (.mk 5 n t ns its) l) := ⟨docW (.mk 5 n t ns its) l, (Eq.refl _ : docW (.mk 5 n t ns its) l = _)⟩
  rw [← HQ.out]
  obtain ⟨tb, Htb⟩ : ∃ tb : ByteArray, Hid (tb = nmB t) := ⟨nmB t, (Eq.refl _ : nmB t = _)⟩
  obtain ⟨w1, Hw1⟩ : ∃ w1, Hid (w1 = w.alloc (.cells #[.int .i64 5, .int .i64 n, .string tb, .slice na nl nc, .slice ia il ic] 26)) := ⟨_, rfl⟩
  obtain ⟨g, Hg⟩ : ∃ g, Hid (g = w.heap.size) := ⟨_, rfl⟩
  have HB1 : Hid (Blk w1 g #[.int .i64 5, .int .i64 n, .string tb, .slice na nl nc, .slice ia il ic] 26) := by rw [Hid, Hw1.out, Hg.out]; exact Blk.new _ _ _
  have HF1 : Hid (Below w.heap.size w w1) := by rw [Hid, Hw1.out]; exact below_new _ _
  have HG1 : Hid (Grew w w1 vt vt) := (Grew.refl _ _).below HF1.out
  have HO : Hid (Ow w1 B 5 vt (nbs l) ∧ l.length ≤ 65536 ∧ B ≤ w1.heap.size) := ⟨ho.below HF1.out, hl, Nat.le_trans hB HF1.out.size⟩
  obtain ⟨at_, ct, hvt, -, -, -⟩ := ho.shape
  rw [nbs_length] at hvt
  obtain ⟨ln, Hln⟩ : ∃ ln, Hid (ln = l.length) := ⟨_, rfl⟩
  rw [← Hln.out] at hvt
  subst hvt
  have iln : ¬ ((65536 : Int) < (ln : Int)) := by rw [Hln.out]; omega
  obtain ⟨x0, x1, x2, x3, x4, -⟩ := Blk.five HB1.out
  rw [← Htb.out]
  have HV0 : Hid (Q = match docI false true ns its (l ++ [91]) with | (r, true) => r ++ [93] | (r, false) => r) := by rw [Hid, HQ.out]; unfold docW; rw [if_neg (by omega)]; rfl
  have hd16 : d < 16 ∧ allS its (d + 1) = true := by
    have h := hso
    unfold soundJ at h
    simp at h
    obtain ⟨-, h2, h3⟩ := h
    exact ⟨h2, h3⟩
  unfold Rng at hr
  unfold Sml at hsm
  obtain ⟨-, -, hnm, him, -, hrs⟩ := hr
  have HIH : Hid ((∀ x ∈ its, SpecW x) ∧ Rngs its ∧ its.length = il ∧ allS its (d + 1) = true ∧ Smls its) := ⟨IH, hrs, hil, hd16.2, hsm.2.2⟩
  have HII : Hid (ItAt w S ia 0 its ∧ (∀ a, ia = some a → its ≠ [] → S a.block) ∧ (∀ k, S k → k < B) ∧ Ow w B 5 (.slice at_ ln ct) (nbs l) ∧ B ≤ w.heap.size) := ⟨hi, hs, hSB, ho, hB⟩
  have HNN : Hid (VAt w na (ns.map strV) ∧ (∀ a, na = some a → ns ≠ [] → S a.block) ∧ ns.length = nl ∧ (∀ s ∈ ns, s.length ≤ 1048576)) := ⟨hv, hnS, hnl, hsm.2.1⟩
  have hil2 : il ≤ 140737488355328 := by rw [← hil]; exact him
  clear hd16 him hnm hrs hsm HQ Htb hnl hil
  clear IH hv hnS hi hs hSB ho hB hl hso
  unfold jC
  go_enter Tryd.func29, Tryd.ntmps29
  go_upto_region 1 with fail
  rw [← Hw1.out, ← Hg.out]
  clear Hw1 Hg
  go_wp2_with (at_builtin; go_must (refine append_lit w1 rfl (.tmp 45) (.tmp 47) rfl B _ l rfl [91] 1 _ rfl rfl rfl HO.out.1 (by have := HO.out.2.1; omega) HO.out.2.2 ?_))
  intro v2 w2 ho2 hg2
  have HI : Hid (ItI w B g (.slice at_ ln ct) #[.int .i64 5, .int .i64 n, .string tb, .slice na nl nc, .slice ia il ic] v2 (l ++ [91]) w2 ∧ (l ++ [91]).length ≤ 65537) :=
    ⟨⟨ho2, HG1.out.trans hg2, HB1.out.grewJ HO.out.1 hg2, Nat.le_trans HO.out.2.2 hg2.size⟩, by have := HO.out.2.1; simp; omega⟩
  have HQ2 : Hid (docI false (decide (0 = 0)) (ns.drop 0) (its.drop 0) (l ++ [91]) = docI false true ns its (l ++ [91])) := by rw [Hid, List.drop_zero, List.drop_zero]; rfl
  obtain ⟨R, HR⟩ : ∃ R, Hid (R = docI false true ns its (l ++ [91])) := ⟨docI false true ns its (l ++ [91]), (Eq.refl _ : docI false true ns its (l ++ [91]) = _)⟩
  rw [← HR.out] at HQ2 HV0
  clear HR
  obtain ⟨a2, c2, rfl, -, -, -⟩ := ho2.shape
  clear ho2 hg2 HO HB1 HF1 x0 x1 x2 x3 x4
  obtain ⟨x0, x1, x2, x3, x4, -⟩ := Blk.five HI.out.1.blk
  go_wp2
  clear x0 x1 x2 x3 x4
  go_loopw [0, 7, 8, 52] (fun x y z i wr => ∃ (k : Nat) (L : List Nat), k ≤ il ∧ i = .int .i64 (k : Int) ∧ Hid (ItI w B g (.slice at_ ln ct) #[.int .i64 5, .int .i64 n, .string tb, .slice na nl nc, .slice ia il ic] x L wr ∧ L.length ≤ 65537 ∧ docI false (decide (k = 0)) (ns.drop k) (its.drop k) L = R)) (fun _ _ _ i _ => il - (intOf i).toNat)
  case atStart => exact ⟨0, l ++ [91], Nat.zero_le _, rfl, HI.out.1, HI.out.2, HQ2.out⟩
  case round =>
    clear HI HQ2
    obtain ⟨k, L, hk, rfl, HI⟩ := hrel
    by_cases hlt : k < il
    · have hkl : k < its.length := by rw [HIH.out.2.2.1]; exact hlt
      have HFw : Hid (Frm (fun q => (Value.slice at_ ln ct).ownBlock = some q) w wr) := HI.out.1.grew.frm
      have HAp : Hid (∀ q, S q → ¬ (Value.slice at_ ln ct).ownBlock = some q) := HII.out.2.2.2.1.apart HII.out.2.2.1
      obtain ⟨b, off, cs, rfl, h5, hcell, hj⟩ := ItAt.get its 0 k hkl (ItAt.frm HFw.out HAp.out its ia 0 HII.out.2.1 HII.out.1)
      obtain ⟨xk, xn, xt, xa, xl, xc, ya, yl, yc, hcs⟩ := JAt.cs hj
      subst hcs
      simp only [Nat.zero_add] at hcell
      have q0 := hcell 0 _ rfl
      have q1 := hcell 1 _ rfl
      have q2 := hcell 2 _ rfl
      have q3 := hcell 3 _ rfl
      have q4 := hcell 4 _ rfl
      simp only [Nat.add_zero] at q0
      obtain ⟨w3, Hw3⟩ : ∃ w3, Hid (w3 = wr.alloc (.cells #[.int .i64 xk, .int .i64 xn, .string xt, .slice xa xl xc, .slice ya yl yc] 26)) := ⟨_, rfl⟩
      obtain ⟨gi, Hgi⟩ : ∃ gi, Hid (gi = wr.heap.size) := ⟨_, rfl⟩
      have hb1 : Below wr.heap.size wr w3 := by rw [Hw3.out]; exact below_new _ _
      have HBi : Hid (Blk w3 gi #[.int .i64 xk, .int .i64 xn, .string xt, .slice xa xl xc, .slice ya yl yc] 26) := by rw [Hid, Hw3.out, Hgi.out]; exact Blk.new _ _ _
      have HJ : Hid (JAt w3 S (its[k]'hkl) #[.int .i64 xk, .int .i64 xn, .string xt, .slice xa xl xc, .slice ya yl yc]) := hj.below hb1
      have HI2 : Hid (ItI w B g (.slice at_ ln ct) #[.int .i64 5, .int .i64 n, .string tb, .slice na nl nc, .slice (some ⟨b, off, none⟩) il ic] _ L w3) := HI.out.1.below hb1
      obtain ⟨a2, c2, hx2, -, -, -⟩ := HI.out.1.own.shape
      obtain ⟨n2, Hn2⟩ : ∃ n2, Hid (n2 = L.length) := ⟨L.length, (Eq.refl _ : L.length = _)⟩
      rw [nbs_length, ← Hn2.out] at hx2
      subst hx2
      have HR : Hid ((if 65536 < (docW (its[k]'hkl) ((if decide (k = 0) = true then L else L ++ [44]))).length then (docW (its[k]'hkl) ((if decide (k = 0) = true then L else L ++ [44])), false)
        else docI false false (ns.drop (k + 1)) (its.drop (k + 1)) (docW (its[k]'hkl) ((if decide (k = 0) = true then L else L ++ [44])))) = R ∧ L.length ≤ 65537) := by
        have h := HI.out.2.2
        rw [docI_step hkl] at h
        exact ⟨h, HI.out.2.1⟩
      clear HI hcell hj hb1
      go_upto_region 21 with fail
      rw [← Hw3.out, ← Hgi.out]
      clear Hw3 Hgi q0 q1 q2 q3 q4
      obtain ⟨L1, HL1⟩ : ∃ L1 : List Nat, Hid (L1 = (if decide (k = 0) then L else L ++ [44]) ∧ L1.length ≤ 65538) := ⟨_, rfl, by have := HR.out.2; split <;> simp <;> omega⟩
      rw [← HL1.out.1] at HR
      go_upto_if 58 with fail
      go_cut [0] from 57 to 61 (fun s0 wx => ∃ a3 n3 c3, s0 = .slice a3 n3 c3 ∧ Hid (n3 = L1.length) ∧ Hid (ItI w B g (.slice at_ ln ct) #[.int .i64 5, .int .i64 n, .string tb, .slice na nl nc, .slice (some ⟨b, off, none⟩) il ic] s0 L1 wx ∧ Grew w3 wx (.slice a2 n2 c2) s0))
      case first =>
        by_cases hk0 : k = 0
        · have HE : Hid (L1 = L) := by rw [Hid, HL1.out.1, if_pos (decide_eq_true hk0)]
          have hk1 : ¬ ((0 : Int) < (k : Int)) := by omega
          subst hk0
          go_wp2
          go_meet
          exact ⟨_, _, _, rfl, by rw [HE.out]; exact Hn2, by rw [HE.out]; exact ⟨HI2.out, Grew.refl _ _⟩⟩
        · have HE : Hid (L1 = L ++ [44]) := by rw [Hid, HL1.out.1, if_neg (by simpa using hk0)]
          have hk1 : (0 : Int) < (k : Int) := by omega
          go_wp2_with (at_builtin; go_must (refine append_lit w3 rfl (.tmp 59) (.tmp 60) rfl B _ L rfl [44] 1 _ rfl rfl rfl HI2.out.own (by have := HR.out.2; omega) HI2.out.base ?_))
          intro v4 w4 ho4 hg4
          have HX := HI2.out.go ho4 hg4
          obtain ⟨a3, c3, rfl, -, -, -⟩ := ho4.shape
          go_wp2
          go_meet
          exact ⟨_, _, _, rfl, by rw [HE.out]; exact nbs_length _, by rw [HE.out]; exact ⟨HX, hg4⟩⟩
      case rest =>
        obtain ⟨a3, n3, c3, rfl, Hn3, HI3⟩ := hcut
        generalize wc = w5 at HI3 ⊢
        clear wc
        have HS3 : Hid (JAt w5 S (its[k]'hkl) #[.int .i64 xk, .int .i64 xn, .string xt, .slice xa xl xc, .slice ya yl yc] ∧ Blk w5 gi #[.int .i64 xk, .int .i64 xn, .string xt, .slice xa xl xc, .slice ya yl yc] 26) :=
          ⟨JAt.frm HI3.out.2.frm (HI2.out.own.apart HII.out.2.2.1) _ _ HJ.out, HBi.out.grewJ HI2.out.own HI3.out.2⟩
        clear HI2 HJ HBi
        obtain ⟨x0, x1, x2, x3, x4, -⟩ := Blk.five HI3.out.1.blk
        obtain ⟨L2, HL2⟩ : ∃ L2 : List Nat, Hid (L2 = L1 ∧ L2.length ≤ 6400000) := ⟨_, rfl, by have := HL1.out.2; omega⟩
        rw [← HL2.out.1] at HR
        have HI4 : Hid (ItI w B g (.slice at_ ln ct) #[.int .i64 5, .int .i64 n, .string tb, .slice na nl nc, .slice (some ⟨b, off, none⟩) il ic] (.slice a3 n3 c3) L2 w5 ∧ Grew w5 w5 (.slice a3 n3 c3) (.slice a3 n3 c3)) := ⟨by rw [HL2.out.1]; exact HI3.out.1, Grew.refl _ _⟩
        obtain ⟨a4, n4, c4, ha4, hn4, hc4⟩ : ∃ a4 n4 c4, a4 = a3 ∧ n4 = n3 ∧ c4 = c3 := ⟨_, _, _, rfl, rfl, rfl⟩
        subst ha4 hn4 hc4
        go_upto_region 26 with fail
        clear x0 x1 x2 x3 x4
        have HS4 : Hid (JAt w5 S (its[k]'hkl) #[.int .i64 xk, .int .i64 xn, .string xt, .slice xa xl xc, .slice ya yl yc] ∧ Blk w5 gi #[.int .i64 xk, .int .i64 xn, .string xt, .slice xa xl xc, .slice ya yl yc] 26) :=
          ⟨JAt.frm HI4.out.2.frm (HI3.out.1.own.apart HII.out.2.2.1) _ _ HS3.out.1, HS3.out.2.grewJ HI3.out.1.own HI4.out.2⟩
        obtain ⟨y0, y1, y2, y3, y4, -⟩ := Blk.five HS4.out.2
        have hm := List.getElem_mem hkl
        have HC := HIH.out.1 _ hm (d + 1) w5 S _ B (.slice a4 n4 c4) L2 (allS_mem its (d + 1) HIH.out.2.2.2.1 _ hm) (Rngs.mem HIH.out.2.1 _ hm) (Smls.mem HIH.out.2.2.2.2 _ hm) HS4.out.1 HII.out.2.2.1 HI4.out.1.own HI4.out.1.base
        obtain ⟨L3, HL3⟩ : ∃ L3 : List Nat, Hid (L3 = docW (its[k]'hkl) L2) := ⟨docW (its[k]'hkl) L2, (Eq.refl _ : docW (its[k]'hkl) L2 = _)⟩
        rw [← HL3.out] at HC HR
        clear hm HL3
        go_wp2_with fail
        refine HC.mono ?_
        clear HC
        rintro e w9 ⟨v9, rfl, ho9, hg9⟩
        have HI9 : Hid (ItI w B g (.slice at_ ln ct) #[.int .i64 5, .int .i64 n, .string tb, .slice na nl nc, .slice (some ⟨b, off, none⟩) il ic] v9 L3 w9) := HI4.out.1.go ho9 hg9
        obtain ⟨a9, c9, rfl, -, -, -⟩ := ho9.shape
        obtain ⟨n9, Hn9⟩ : ∃ n9, Hid (n9 = L3.length) := ⟨_, rfl⟩
        rw [nbs_length, ← Hn9.out] at HI9 ⊢
        clear ho9 hg9 HI4 HS4 y0 y1 y2 y3 y4 HI3 HS3
        by_cases h65 : 65536 < n9
        · have i65 : (65536 : Int) < (n9 : Int) := by omega
          have HN : Hid (Q = L3) := by rw [Hid, HV0.out, ← HR.out.1, if_pos (by rw [← Hn9.out]; exact h65)]
          clear HR h65 HL1 HL2 Hn2 Hn3
          go_wp2
          go_ret
          refine ⟨_, rfl, ?_, HI9.out.grew⟩
          rw [HN.out]
          exact HI9.out.own
        · have i65 : ¬ ((65536 : Int) < (n9 : Int)) := by omega
          have HN : Hid (docI false false (ns.drop (k + 1)) (its.drop (k + 1)) L3 = R ∧ L3.length ≤ 65537) := by
            refine ⟨?_, by rw [← Hn9.out]; omega⟩
            rw [← HR.out.1, if_neg (by rw [← Hn9.out]; exact h65)]
          clear HR h65 HL1 HL2 Hn2 Hn3
          go_wp2
          go_roundw
          case rel => exact ⟨k + 1, L3, by omega, by go_num, HI9.out, HN.out.2, by rw [decide_eq_false (by omega)]; exact HN.out.1⟩
          case measure => simp [intOf]; omega
    · have HN : Hid (Q = L ++ [93]) := by
        rw [Hid, HV0.out, ← HI.out.2.2, List.drop_of_length_le (by rw [HIH.out.2.2.1]; omega) (l := its)]
        unfold docI; rfl
      go_wp2_with (at_builtin; go_must (refine append_lit wr rfl (.tmp 84) (.tmp 86) rfl B _ L rfl [93] 1 _ rfl rfl rfl HI.out.1.own (by have := HI.out.2.1; omega) HI.out.1.base ?_))
      intro v4 w4 ho4 hg4
      have HX := HI.out.1.go ho4 hg4
      clear hg4
      go_wp2
      go_ret
      refine ⟨_, rfl, ?_, HX.grew⟩
      rw [HN.out]
      exact HX.own
end Go.Proofs.YtelhgjepjieocaaDoor
