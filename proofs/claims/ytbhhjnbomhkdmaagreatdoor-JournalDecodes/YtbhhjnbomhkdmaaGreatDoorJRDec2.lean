/- Layer 13 (journal): the document's Decode of bytes that come as far as the sum (by gen_jrdec2.py). -/
import Derived.Test.YtbhhjnbomhkdmaaGreatDoorJRDec
import Derived.Test.YtbhhjnbomhkdmaaGreatDoorJDReadW
import Derived.Test.YtbhhjnbomhkdmaaGreatDoorJRopH
import Derived.Test.YtbhhjnbomhkdmaaGreatDoorJPayW
namespace Go.Proofs.YtbhhjnbomhkdmaaGreatDoor
open Go.RowKit
set_option linter.unusedVariables false

/-- What the document's Decode answers of bytes that come as far as the sum. -/
def RDecA (w : World) (l : List UInt8) (e : Ending) (w' : World) : Prop := Below w.heap.size w w' ∧
  ((payE l = 132 ∧ e = .returned (.tuple #[.agg #[.int .u64 0, .slice none 0 0], .int .i64 0, .int .i64 132])) ∨
   (payE l = 0 ∧ readOk (payP l) = false ∧ e = .returned (.tuple #[.agg #[.int .u64 0, .slice none 0 0], .int .i64 0, .int .i64 133])) ∨
   (payE l = 0 ∧ readOk (payP l) = true ∧ ∃ ao c l', e = .returned (.tuple #[.agg #[.int .u64 (readI (payP l) : Nat), .slice ao l'.length c], .int .i64 (((payP l).length + 9 : Nat) : Int), .int .i64 0]) ∧ ops l' = (readO (payP l)).1 ∧ OwnO w' w.heap.size (.slice ao l'.length c) l'))
theorem big_same {x : List UInt8} {S : Int} (hx : x.length = 4) (h0 : 0 ≤ S) (h1 : S < 4294967296) : decide (big 4 S = x) = decide ((unbig x : Int) = S) := by
 apply decide_eq_decide.2
 constructor
 ·rintro rfl
  exact unbig_big 4 S h0 h1
 ·intro h
  rw [← h]
  exact big_unbig 4 x hx
theorem wrap_u64 (x : Int) (h0 : 0 ≤ x) (h : x ≤ 18446744073709551615) : IntKind.u64.wrap x = x := by
 simp [IntKind.wrap, IntKind.bits, IntKind.signed]
 omega
theorem rdec_pay {l : List UInt8} (h77 : l.getD 0 0 = 77) (h5 : 5 ≤ l.length) (h3 : lenB l ≤ 131072) (h4 : 9 + lenB l ≤ l.length) : payE l = if (unbig (payS l) : Int) = (sumB (payP l) : Nat) then 0 else 132 := by
 unfold payE
 rw [if_neg (by omega), if_neg (fun h => h h77), if_neg (by omega), if_neg (by omega), if_neg (by omega)]
 by_cases h : unbig (payS l) = sumB (payP l)
 ·rw [if_neg (fun h' => h' h), if_pos (by rw [h])]
 ·rw [if_pos h, if_neg (by omega)]

set_option maxRecDepth 100000 in
set_option maxHeartbeats 4000000 in
theorem rdecode_long (xb xo cap : Nat) (l : List UInt8) (w : World) (hl : l.length ≤ 140737488355328) (hcap : l.length ≤ cap) (hcm : cap ≤ maxLen) (h : BAt w (some ⟨xb, xo, none⟩) l) (h77 : l.getD 0 0 = 77) (h5 : 5 ≤ l.length) (h3 : lenB l ≤ 131072) (h4 : 9 + lenB l ≤ l.length) :
  Calls Tryz.prog 6 #[.slice (some ⟨xb, xo, none⟩) l.length cap] w (RDecA w l) := by
 obtain ⟨pp, Hpp⟩ : ∃ x, Hid (x = payP l) := ⟨_, rfl⟩
 obtain ⟨ps, Hps⟩ : ∃ x, Hid (x = payS l) := ⟨_, rfl⟩
 obtain ⟨nb, Hnb⟩ : ∃ nb, Hid (nb = lenB l) := ⟨_, rfl⟩
 have hnb3 : nb ≤ 131072 := by rw [Hnb.out]; exact h3
 have hnb4 : 9 + nb ≤ l.length := by rw [Hnb.out]; exact h4
 obtain ⟨S, HS⟩ : ∃ x : Int, Hid (x = (sumB pp : Nat)) := ⟨_, rfl⟩
 have hS : 0 ≤ S ∧ S < 4294967296 := by rw [HS.out]; have := sumB_lt pp; omega
 have HPE : Hid (payE l = if (unbig ps : Int) = S then 0 else 132) := by
  show _ = _
  rw [rdec_pay h77 h5 h3 h4, ← Hps.out, ← Hpp.out, ← HS.out]
 have hppl : pp.length = nb := by rw [Hpp.out, Hnb.out]; unfold payP; rw [List.length_take, List.length_drop]; omega
 have hpsl : ps.length = 4 := by rw [Hps.out]; unfold payS; rw [List.length_take, List.length_drop, List.length_drop]; omega
 have HTP : Hid (BAt w (some ⟨xb, xo + 5, none⟩) pp) := by
  have := bat_piece h 5 nb (by rw [Hnb.out]; omega)
  rw [Hpp.out]
  unfold payP
  rw [← Hnb.out]
  exact this
 have HTS : Hid (BAt w (some ⟨xb, xo + (5 + nb), none⟩) ps) := by
  have := bat_piece h (5 + nb) 4 (by rw [Hnb.out]; omega)
  rw [Hps.out]
  unfold payS
  rw [List.drop_drop, ← Hnb.out]
  exact this
 have HT : Hid (BAt w (some ⟨xb, xo, none⟩) l) := h
 have HC0 : Hid (∀ W, Below w.heap.size w W → W.cell? ⟨xb, xo, none⟩ = some (.int .u8 77)) := fun W hW => by
  obtain ⟨b0, o0, e0, hc⟩ := (HT.out.below hW).at 0 (by omega)
  obtain ⟨rfl, rfl⟩ : xb = b0 ∧ xo = o0 := by simpa using e0
  have hg0 : l.getD 0 0 = l[0]'(by omega) := by rw [List.getD, List.getElem?_eq_getElem (by omega)]; rfl
  rw [← hg0, h77] at hc
  simpa using hc
 have HNm : Hid (∀ W, Below w.heap.size w W → Calls Tryz.prog 18 #[.slice (some ⟨xb, xo + 1, none⟩) 4 (cap - 1)] W fun e w' => e = .returned (.int .i64 (nb : Nat)) ∧ w' = W) := fun W hW => by
  have := rnumber_calls (some ⟨xb, xo + 1, none⟩) (cap - 1) ((l.drop 1).take 4) W (by rw [List.length_take]; omega) (bat_piece (HT.out.below hW) 1 4 (by omega))
  have hl4 : ((l.drop 1).take 4).length = 4 := by rw [List.length_take, List.length_drop]; omega
  have hnb : unbig ((l.drop 1).take 4) = nb := Hnb.out.symm
  rw [hl4, hnb] at this
  exact this
 have HSm : Hid (∀ W, Below w.heap.size w W → Calls Tryz.prog 20 #[.slice (some ⟨xb, xo + 5, none⟩) nb (cap - 5)] W fun e w' => e = .returned (.int .u32 S) ∧ w' = W) := fun W hW => by
  have := refSum_calls (some ⟨xb, xo + 5, none⟩) (cap - 5) pp W (by omega) (HTP.out.below hW)
  rw [hppl, ← HS.out] at this
  exact this
 obtain ⟨db, Hdb⟩ : ∃ x, Hid (x = decide ((unbig ps : Int) = S)) := ⟨_, rfl⟩
 have HSa : Hid (∀ W g c, Below w.heap.size w W → Own W w.heap.size (.slice (some ⟨g, 0, none⟩) 4 c) (big 4 S) → Calls Tryz.prog 9 #[.slice (some ⟨g, 0, none⟩) 4 c, .slice (some ⟨xb, xo + (5 + nb), none⟩) 4 (cap - (5 + nb))] W fun e w' => e = .returned (.bool db) ∧ ∃ n, w' = W.drewN n) := fun W g c hW ho => by
  have := same_calls (some ⟨g, 0, none⟩) (some ⟨xb, xo + (5 + nb), none⟩) c (cap - (5 + nb)) (big 4 S) ps W (by rw [big_length]; omega) (by omega) (Own.bytes (cap := c) (by rw [big_length]; exact ho)) (HTS.out.below hW)
  rw [big_length, hpsl, big_same hpsl hS.1 hS.2, ← Hdb.out] at this
  exact this
 have HRd : Hid (∀ W, Below w.heap.size w W → Calls Tryz.prog 21 #[.slice (some ⟨xb, xo + 5, none⟩) nb (cap - 5)] W (RReadA W pp)) := fun W hW => by
  have := rread_calls xb (xo + 5) (cap - 5) pp W (by omega) (by omega) (by omega) (HTP.out.below hW)
  rw [hppl] at this
  exact this
 obtain ⟨N, HN⟩ : ∃ N, Hid (N = l.length) := ⟨_, rfl⟩
 clear h3 h4
 have h3 := hnb3
 have h4 := hnb4
 clear hnb3 hnb4
 rw [← HN.out] at hl hcap h5 h4 ⊢
 have HPL : Hid ((payP l).length = nb) := by rw [← Hpp.out]; exact hppl
 clear h h77 HT HTP HTS hpsl hppl HN HS Hps
 obtain ⟨wx, Hwx⟩ : ∃ x, Hid (x = w.alloc (.cells #[.int .u64 0, .slice none 0 0] 27)) := ⟨_, rfl⟩
 have HB : Hid (Below w.heap.size w wx) := by rw [Hwx.out]; exact below_new w _
 have HX : Hid (Blk wx w.heap.size #[.int .u64 0, .slice none 0 0] 27) := by rw [Hwx.out]; exact Blk.new _ _ _
 obtain ⟨g2, Hg2⟩ : ∃ x, Hid (x = w.heap.size) := ⟨_, rfl⟩
 have HX2 : Hid (Blk wx g2 #[.int .u64 0, .slice none 0 0] 27) := by rw [Hg2.out]; exact HX.out
 have h2w : w.heap.size ≤ g2 := Nat.le_of_eq Hg2.out.symm
 have hc0 : wx.cell? ⟨xb, xo, none⟩ = some (.int .u8 77) := HC0.out wx HB.out
 have HNc : Hid (Calls Tryz.prog 18 #[.slice (some ⟨xb, xo + 1, none⟩) 4 (cap - 1)] wx fun e w' => e = .returned (.int .i64 (nb : Nat)) ∧ w' = wx) := HNm.out wx HB.out
 have hz : ¬ (N : Int) = 0 := by omega
 have hz2 : ((N : Int) == 0) = false := by simp; omega
 have h5i : ¬ (N : Int) < 5 := by omega
 have h3i : ¬ (131072 : Int) < (nb : Int) := by omega
 have h4i : ¬ (N : Int) < 9 + (nb : Int) := by omega
 have hcap5 : 5 ≤ cap := by omega
 go_enter Tryz.func6, Tryz.ntmps6
 go_upto_region 1 with fail
 rw [← Hwx.out, ← Hg2.out]
 clear Hwx HX Hg2 Hnb
 go_wp2_with fail
 refine HNc.out.mono ?_
 clear HNc hc0
 rintro e wy ⟨rfl, hwy⟩
 subst hwy
 go_upto_region 12 with fail
 refine wp_region_inv 14 (fun j v W => match j with
  | 0 => v = .slice (some ⟨xb, xo, none⟩) N cap
  | 1 => v = .int .i64 (nb : Nat)
  | 2 => v = .int .i64 (5 + (nb : Int))
  | 3 => v = .slice (some ⟨xb, xo + 5, none⟩) nb (cap - 5)
  | 4 => v = .int .u32 S
  | 5 => v = .int .u64 S
  | 6 => ∃ g c, v = .slice (some ⟨g, 0, none⟩) 4 c ∧ Own W w.heap.size (.slice (some ⟨g, 0, none⟩) 4 c) (big 4 S)
  | 7 => v = .slice (some ⟨xb, xo, none⟩) N cap
  | 8 => v = .int .i64 (nb : Nat)
  | 9 => v = .int .i64 (5 + (nb : Int))
  | 10 => v = .int .i64 (nb : Nat)
  | 11 => v = .int .i64 (9 + (nb : Int))
  | 12 => v = .slice (some ⟨xb, xo + (5 + nb), none⟩) 4 (cap - (5 + nb))
  | 13 => v = .bool db
  | _ => False) (by kernel_rfl) (by kernel_rfl) (by kernel_rfl) [some 33, some 34, some 35, some 36, some 37, some 38, some 39, some 40, some 41, some 42, some 43, some 44, some 45, some 46] (by kernel_rfl) ?mono ?hop ?tail
 case mono =>
  intro j v W W' h hb
  match j, h with
  | 0, h => exact h
  | 1, h => exact h
  | 2, h => exact h
  | 3, h => exact h
  | 4, h => exact h
  | 5, h => exact h
  | 6, h => exact h.elim fun g h => h.elim fun c h => ⟨g, c, h.1, row_below h.2 hb⟩
  | 7, h => exact h
  | 8, h => exact h
  | 9, h => exact h
  | 10, h => exact h
  | 11, h => exact h
  | 12, h => exact h
  | 13, h => exact h
  | k + 14, h => exact h.elim
 case hop =>
  intro j o hi ho a W hB hs hd
  match j, hi, ho, hd with
  | 0, _, ho, hd =>
   obtain rfl := Option.some.inj ho
   have e1 : a.eval (.tmp 0) = .slice (some ⟨xb, xo, none⟩) N cap := (hs 0 (by kernel_rfl)).trans rfl
   exact wp_valF (v := .slice (some ⟨xb, xo, none⟩) N cap) (by unfold execOp; dsimp only; simp only [e1]; rfl) ⟨_, rfl, rfl, Below.refl _ _⟩
  | 1, _, ho, hd =>
   obtain rfl := Option.some.inj ho
   have e1 : a.eval (.tmp 5) = .int .i64 (nb : Nat) := (hs 5 (by kernel_rfl)).trans rfl
   exact wp_valF (v := .int .i64 (nb : Nat)) (by unfold execOp; dsimp only; simp only [e1]; rfl) ⟨_, rfl, rfl, Below.refl _ _⟩
  | 2, _, ho, hd =>
   obtain rfl := Option.some.inj ho
   have e0 : a.eval (.tmp 34) = .int .i64 (nb : Nat) := hd 1 34 (by kernel_rfl) (by kernel_rfl)
   have c0 : a.eval (.const (.int .i64 5)) = .int .i64 5 := rfl
   exact wp_valF (v := .int .i64 (5 + (nb : Int))) (by unfold execOp; dsimp only; simp only [e0, c0]; go_simp; exact wrap_i _ (by omega) (by omega)) ⟨_, rfl, rfl, Below.refl _ _⟩
  | 3, _, ho, hd =>
   obtain rfl := Option.some.inj ho
   have e0 : a.eval (.tmp 33) = .slice (some ⟨xb, xo, none⟩) N cap := hd 0 33 (by kernel_rfl) (by kernel_rfl)
   have e1 : a.eval (.tmp 35) = .int .i64 (5 + (nb : Int)) := hd 2 35 (by kernel_rfl) (by kernel_rfl)
   have c0 : a.eval (.const (.int .i64 5)) = .int .i64 5 := rfl
   exact wp_valF (v := .slice (some ⟨xb, xo + 5, none⟩) nb (cap - 5)) (by unfold execOp; dsimp only; simp only [e0, e1, c0, Option.map_some, Option.map_none]; go_simp; rw [if_neg (show ¬ cap = 5 by omega)]; rw [if_pos (by omega), if_pos (by omega), show ((5 : Int) + nb).toNat - 5 = nb by omega]) ⟨_, rfl, rfl, Below.refl _ _⟩
  | 4, _, ho, hd =>
   obtain rfl := Option.some.inj ho
   have e0 : a.eval (.tmp 36) = .slice (some ⟨xb, xo + 5, none⟩) nb (cap - 5) := hd 3 36 (by kernel_rfl) (by kernel_rfl)
   refine wp_callF (f := 20) (vals := #[.slice (some ⟨xb, xo + 5, none⟩) nb (cap - 5)]) rfl (map1 e0) (by go_simp) ?_
   exact (HSm.out W (HB.out.trans (hB.mono HB.out.size))).mono fun e w' ⟨he, hb⟩ => ⟨_, he, _, rfl, rfl, by rw [hb]; exact Below.refl _ _⟩
  | 5, _, ho, hd =>
   obtain rfl := Option.some.inj ho
   have e0 : a.eval (.tmp 37) = .int .u32 S := hd 4 37 (by kernel_rfl) (by kernel_rfl)
   exact wp_valF (v := .int .u64 S) (by unfold execOp; dsimp only; simp only [e0]; go_simp; exact wrap_u64 S hS.1 (by omega)) ⟨_, rfl, rfl, Below.refl _ _⟩
  | 6, _, ho, hd =>
   obtain rfl := Option.some.inj ho
   have e0 : a.eval (.tmp 38) = .int .u64 S := hd 5 38 (by kernel_rfl) (by kernel_rfl)
   have e1 : a.eval (.const (.int .i64 4)) = .int .i64 4 := rfl
   refine wp_callF (f := 19) (vals := #[.int .u64 S, .int .i64 4]) rfl (map2 e0 e1) (by go_simp) ?_
   exact (rbig_calls S 4 W hS.1 (by omega) (.inr (.inr (.inl rfl)))).mono fun e w' ⟨c, he, ho, hb⟩ => ⟨_, he, _, rfl, ⟨W.heap.size, c, rfl, row_weak (HB.out.trans (hB.mono HB.out.size)).size ho⟩, hb⟩
  | 7, _, ho, hd =>
   obtain rfl := Option.some.inj ho
   have e1 : a.eval (.tmp 0) = .slice (some ⟨xb, xo, none⟩) N cap := (hs 0 (by kernel_rfl)).trans rfl
   exact wp_valF (v := .slice (some ⟨xb, xo, none⟩) N cap) (by unfold execOp; dsimp only; simp only [e1]; rfl) ⟨_, rfl, rfl, Below.refl _ _⟩
  | 8, _, ho, hd =>
   obtain rfl := Option.some.inj ho
   have e1 : a.eval (.tmp 5) = .int .i64 (nb : Nat) := (hs 5 (by kernel_rfl)).trans rfl
   exact wp_valF (v := .int .i64 (nb : Nat)) (by unfold execOp; dsimp only; simp only [e1]; rfl) ⟨_, rfl, rfl, Below.refl _ _⟩
  | 9, _, ho, hd =>
   obtain rfl := Option.some.inj ho
   have e0 : a.eval (.tmp 41) = .int .i64 (nb : Nat) := hd 8 41 (by kernel_rfl) (by kernel_rfl)
   have c0 : a.eval (.const (.int .i64 5)) = .int .i64 5 := rfl
   exact wp_valF (v := .int .i64 (5 + (nb : Int))) (by unfold execOp; dsimp only; simp only [e0, c0]; go_simp; exact wrap_i _ (by omega) (by omega)) ⟨_, rfl, rfl, Below.refl _ _⟩
  | 10, _, ho, hd =>
   obtain rfl := Option.some.inj ho
   have e1 : a.eval (.tmp 5) = .int .i64 (nb : Nat) := (hs 5 (by kernel_rfl)).trans rfl
   exact wp_valF (v := .int .i64 (nb : Nat)) (by unfold execOp; dsimp only; simp only [e1]; rfl) ⟨_, rfl, rfl, Below.refl _ _⟩
  | 11, _, ho, hd =>
   obtain rfl := Option.some.inj ho
   have e0 : a.eval (.tmp 43) = .int .i64 (nb : Nat) := hd 10 43 (by kernel_rfl) (by kernel_rfl)
   have c0 : a.eval (.const (.int .i64 9)) = .int .i64 9 := rfl
   exact wp_valF (v := .int .i64 (9 + (nb : Int))) (by unfold execOp; dsimp only; simp only [e0, c0]; go_simp; exact wrap_i _ (by omega) (by omega)) ⟨_, rfl, rfl, Below.refl _ _⟩
  | 12, _, ho, hd =>
   obtain rfl := Option.some.inj ho
   have e0 : a.eval (.tmp 40) = .slice (some ⟨xb, xo, none⟩) N cap := hd 7 40 (by kernel_rfl) (by kernel_rfl)
   have e1 : a.eval (.tmp 42) = .int .i64 (5 + (nb : Int)) := hd 9 42 (by kernel_rfl) (by kernel_rfl)
   have e2 : a.eval (.tmp 44) = .int .i64 (9 + (nb : Int)) := hd 11 44 (by kernel_rfl) (by kernel_rfl)
   exact wp_valF (v := .slice (some ⟨xb, xo + (5 + nb), none⟩) 4 (cap - (5 + nb))) (by unfold execOp; dsimp only; simp only [e0, e1, e2, Option.map_some, Option.map_none]; go_simp; rw [show ((5 : Int) + nb).toNat = 5 + nb by omega, show ((9 : Int) + nb).toNat = 9 + nb by omega, if_neg (show ¬ cap = 5 + nb by omega), show 9 + nb - (5 + nb) = 4 by omega]; rw [if_pos (by omega), if_pos (by omega)]) ⟨_, rfl, rfl, Below.refl _ _⟩
  | 13, _, ho, hd =>
   obtain rfl := Option.some.inj ho
   obtain ⟨g, c, e0, ho⟩ := hd 6 39 (by kernel_rfl) (by kernel_rfl)
   have e1 : a.eval (.tmp 45) = .slice (some ⟨xb, xo + (5 + nb), none⟩) 4 (cap - (5 + nb)) := hd 12 45 (by kernel_rfl) (by kernel_rfl)
   refine wp_callF (f := 9) (vals := #[.slice (some ⟨g, 0, none⟩) 4 c, .slice (some ⟨xb, xo + (5 + nb), none⟩) 4 (cap - (5 + nb))]) rfl (map2 e0 e1) (by go_simp) ?_
   exact (HSa.out W g c (HB.out.trans (hB.mono HB.out.size)) ho).mono fun e w' ⟨he, n, hb⟩ => ⟨_, he, _, rfl, rfl, by rw [hb]; exact below_draws _ _⟩
  | k + 14, hi, _, _ => exact absurd hi (by omega)
 case tail =>
  intro vs W hB hR
  have r0 : vs 0 = .slice (some ⟨xb, xo, none⟩) N cap := hR 0 (by decide)
  have r1 : vs 1 = .int .i64 (nb : Nat) := hR 1 (by decide)
  have r2 : vs 2 = .int .i64 (5 + (nb : Int)) := hR 2 (by decide)
  have r3 : vs 3 = .slice (some ⟨xb, xo + 5, none⟩) nb (cap - 5) := hR 3 (by decide)
  have r4 : vs 4 = .int .u32 S := hR 4 (by decide)
  have r5 : vs 5 = .int .u64 S := hR 5 (by decide)
  obtain ⟨gb, cb, r6, hob⟩ := hR 6 (by decide)
  have r7 : vs 7 = .slice (some ⟨xb, xo, none⟩) N cap := hR 7 (by decide)
  have r8 : vs 8 = .int .i64 (nb : Nat) := hR 8 (by decide)
  have r9 : vs 9 = .int .i64 (5 + (nb : Int)) := hR 9 (by decide)
  have r10 : vs 10 = .int .i64 (nb : Nat) := hR 10 (by decide)
  have r11 : vs 11 = .int .i64 (9 + (nb : Int)) := hR 11 (by decide)
  have r12 : vs 12 = .slice (some ⟨xb, xo + (5 + nb), none⟩) 4 (cap - (5 + nb)) := hR 12 (by decide)
  have r13 : vs 13 = .bool db := hR 13 (by decide)
  clear hR
  have HBW : Hid (Below w.heap.size w W) := HB.out.trans (hB.mono HB.out.size)
  have HZW : Hid (Blk W g2 #[.int .u64 0, .slice none 0 0] 27) := HX2.out.below hB
  have HRc : Hid (Calls Tryz.prog 21 #[.slice (some ⟨xb, xo + 5, none⟩) nb (cap - 5)] W (RReadA W pp)) := HRd.out W HBW.out
  clear HB HX2 hB hob HRd HSa HSm HNm HC0
  simp only [putL, put_lit, List.setIfInBounds_toArray, List.set_cons_succ, List.set_cons_zero, List.drop_succ_cons, List.drop_zero]
  rw [r0, r1, r2, r3, r4, r5, r6, r7, r8, r9, r10, r11, r12, r13]
  clear r0 r1 r2 r3 r4 r5 r6 r7 r8 r9 r10 r11 r12 r13
  cases db with
  | false =>
   have HE : Hid (payE l = 132) := by
    show _ = _
    rw [HPE.out, if_neg (of_decide_eq_false Hdb.out.symm)]
   have y0 : W.cell? ⟨g2, 0, none⟩ = some (.int .u64 0) := HZW.out.cell 0 rfl
   have y1 : W.cell? ⟨g2, 1, none⟩ = some (.slice none 0 0) := HZW.out.cell 1 rfl
   have f0 := HZW.out.open 0
   have f1 := HZW.out.open 1
   obtain ⟨wz, Hwz⟩ : ∃ x, Hid (x = putC W g2 0 [.int .u64 0, .slice none 0 0]) := ⟨_, rfl⟩
   have HY5 : Hid (Blk wz g2 #[.int .u64 0, .slice none 0 0] 27) := by rw [Hwz.out]; exact putC_all HZW.out rfl
   have HB5 : Hid (Below w.heap.size w wz) := by rw [Hwz.out]; exact putC_below _ _ _ HBW.out h2w
   have HLd : Hid ((loadVar 27 ⟨g2, 0, none⟩).run Tryz.prog wz = .ok (.agg #[.int .u64 0, .slice none 0 0]) wz) := load_ent HY5.out rfl
   have HFin : Hid (RDecA w l (.returned (.tuple #[.agg #[.int .u64 0, .slice none 0 0], .int .i64 0, .int .i64 132])) wz) := ⟨HB5.out, .inl ⟨HE.out, rfl⟩⟩
   clear HZW HBW HY5 HB5
   go_wp2
   change bodyPost _ _ _ _ _ (putC W g2 0 [.int .u64 0, .slice none 0 0])
   rw [← Hwz.out]
   exact ret_box3 (g := g2) (w := wz) rfl rfl rfl rfl rfl HLd.out HFin.out
  | true =>
   have HE : Hid (payE l = 0) := by
    show _ = _
    rw [HPE.out, if_pos (of_decide_eq_true Hdb.out.symm)]
   go_wp2_with fail
   refine HRc.out.mono ?_
   clear HRc
   rintro e w5 ⟨hb5, ⟨hok, ra, rc, m, rfl, hops, hown⟩ | ⟨hno, rfl⟩⟩
   ·have HB5 : Hid (Below w.heap.size w w5) := HBW.out.trans (hb5.mono HBW.out.size)
    have HZ5 : Hid (Blk w5 g2 #[.int .u64 0, .slice none 0 0] 27) := HZW.out.below hb5
    have HO5 : Hid (OwnO w5 w.heap.size (.slice ra m.length rc) m) := ⟨row_weak HBW.out.size hown.row, fun x hx => row_weak HBW.out.size (hown.tags x hx)⟩
    obtain ⟨ri, Hri⟩ : ∃ x, Hid (x = readI pp) := ⟨_, rfl⟩
    obtain ⟨ml, Hml⟩ : ∃ x, Hid (x = m.length) := ⟨_, rfl⟩
    rw [← Hri.out, ← Hml.out]
    have HK : Hid (readOk pp = true ∧ ops m = (readO pp).1) := ⟨hok, hops⟩
    clear hok hops hown hb5 HBW HZW
    obtain ⟨w6, Hw6⟩ : ∃ x, Hid (x = w5.alloc (.cells #[.int .u64 (ri : Nat), .slice ra ml rc] 27)) := ⟨_, rfl⟩
    have HB6 : Hid (Below w.heap.size w w6) := by rw [Hw6.out]; exact HB5.out.trans ((below_new _ _).mono HB5.out.size)
    have HZ6 : Hid (Blk w6 g2 #[.int .u64 0, .slice none 0 0] 27) := by rw [Hw6.out]; exact HZ5.out.alloc _
    have HX6 : Hid (Blk w6 w5.heap.size #[.int .u64 (ri : Nat), .slice ra ml rc] 27) := by rw [Hw6.out]; exact Blk.new _ _ _
    have HO6 : Hid (OwnO w6 w.heap.size (.slice ra ml rc) m) := by rw [Hw6.out, Hml.out]; exact HO5.out.below (below_new _ _)
    clear HB5 HZ5 HO5
    go_upto_region 15 with fail
    rw [← Hw6.out]
    obtain ⟨g6, Hg6⟩ : ∃ x, Hid (x = w5.heap.size) := ⟨_, rfl⟩
    rw [← Hg6.out] at HX6 ⊢
    clear Hw6 Hg6
    have x0 : w6.cell? ⟨g6, 0, none⟩ = some (.int .u64 (ri : Nat)) := HX6.out.cell 0 rfl
    have x1 : w6.cell? ⟨g6, 1, none⟩ = some (.slice ra ml rc) := HX6.out.cell 1 rfl
    have y0 : w6.cell? ⟨g2, 0, none⟩ = some (.int .u64 0) := HZ6.out.cell 0 rfl
    have y1 : w6.cell? ⟨g2, 1, none⟩ = some (.slice none 0 0) := HZ6.out.cell 1 rfl
    have f0 := HZ6.out.open 0
    have f1 := HZ6.out.open 1
    obtain ⟨wz, Hwz⟩ : ∃ x, Hid (x = putC w6 g2 0 [.int .u64 (ri : Nat), .slice ra ml rc]) := ⟨_, rfl⟩
    have HY5 : Hid (Blk wz g2 #[.int .u64 (ri : Nat), .slice ra ml rc] 27) := by rw [Hwz.out]; exact putC_all HZ6.out rfl
    have HBz : Hid (Below w.heap.size w wz) := by rw [Hwz.out]; exact putC_below _ _ _ HB6.out h2w
    have HOz : Hid (OwnO wz w.heap.size (.slice ra ml rc) m) := by rw [Hwz.out]; exact ⟨row_putK HZ6.out (by decide) HO6.out.row _ _, fun x hx => row_putK HZ6.out (by decide) (HO6.out.tags x hx) _ _⟩
    have HLd : Hid ((loadVar 27 ⟨g2, 0, none⟩).run Tryz.prog wz = .ok (.agg #[.int .u64 (ri : Nat), .slice ra ml rc]) wz) := load_ent HY5.out rfl
    have HFin : Hid (RDecA w l (.returned (.tuple #[.agg #[.int .u64 (ri : Nat), .slice ra ml rc], .int .i64 (9 + (nb : Int)), .int .i64 0])) wz) := by
     refine ⟨HBz.out, .inr (.inr ⟨HE.out, by rw [← Hpp.out]; exact HK.out.1, ra, rc, m, ?_, by rw [← Hpp.out]; exact HK.out.2, ?_⟩)⟩
     ·rw [HPL.out, ← Hpp.out, ← Hri.out, ← Hml.out, show ((nb + 9 : Nat) : Int) = 9 + (nb : Int) by omega]
     ·rw [← Hml.out]
      exact HOz.out
    clear HZ6 HB6 HY5 HBz HOz HO6 HX6 HK HPE Hri Hml
    go_wp2
    change bodyPost _ _ _ _ _ (putC w6 g2 0 [.int .u64 (ri : Nat), .slice ra ml rc])
    rw [← Hwz.out]
    exact ret_box3 (g := g2) (w := wz) rfl rfl rfl rfl rfl HLd.out HFin.out
   ·have HB5 : Hid (Below w.heap.size w w5) := HBW.out.trans (hb5.mono HBW.out.size)
    have HZ5 : Hid (Blk w5 g2 #[.int .u64 0, .slice none 0 0] 27) := HZW.out.below hb5
    have HK : Hid (readOk pp = false) := hno
    clear hno hb5 HBW HZW
    obtain ⟨w6, Hw6⟩ : ∃ x, Hid (x = w5.alloc (.cells #[.int .u64 0, .slice none 0 0] 27)) := ⟨_, rfl⟩
    have HB6 : Hid (Below w.heap.size w w6) := by rw [Hw6.out]; exact HB5.out.trans ((below_new _ _).mono HB5.out.size)
    have HZ6 : Hid (Blk w6 g2 #[.int .u64 0, .slice none 0 0] 27) := by rw [Hw6.out]; exact HZ5.out.alloc _
    clear HB5 HZ5
    go_upto_region 15 with fail
    rw [← Hw6.out]
    clear Hw6
    have y0 : w6.cell? ⟨g2, 0, none⟩ = some (.int .u64 0) := HZ6.out.cell 0 rfl
    have y1 : w6.cell? ⟨g2, 1, none⟩ = some (.slice none 0 0) := HZ6.out.cell 1 rfl
    have f0 := HZ6.out.open 0
    have f1 := HZ6.out.open 1
    obtain ⟨wz, Hwz⟩ : ∃ x, Hid (x = putC w6 g2 0 [.int .u64 0, .slice none 0 0]) := ⟨_, rfl⟩
    have HY5 : Hid (Blk wz g2 #[.int .u64 0, .slice none 0 0] 27) := by rw [Hwz.out]; exact putC_all HZ6.out rfl
    have HB5 : Hid (Below w.heap.size w wz) := by rw [Hwz.out]; exact putC_below _ _ _ HB6.out h2w
    have HLd : Hid ((loadVar 27 ⟨g2, 0, none⟩).run Tryz.prog wz = .ok (.agg #[.int .u64 0, .slice none 0 0]) wz) := load_ent HY5.out rfl
    have HFin : Hid (RDecA w l (.returned (.tuple #[.agg #[.int .u64 0, .slice none 0 0], .int .i64 0, .int .i64 133])) wz) := ⟨HB5.out, .inr (.inl ⟨HE.out, by rw [← Hpp.out]; exact HK.out, rfl⟩)⟩
    clear HZ6 HB6 HY5 HB5
    go_wp2
    change bodyPost _ _ _ _ _ (putC w6 g2 0 [.int .u64 0, .slice none 0 0])
    rw [← Hwz.out]
    exact ret_box3 (g := g2) (w := wz) rfl rfl rfl rfl rfl HLd.out HFin.out
end Go.Proofs.YtbhhjnbomhkdmaaGreatDoor
