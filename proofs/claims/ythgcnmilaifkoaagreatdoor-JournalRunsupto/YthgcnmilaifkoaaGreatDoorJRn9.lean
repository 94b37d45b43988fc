/- Layer 13 (journal): JournalRuns, the walk. -/
import Derived.Test.YthgcnmilaifkoaaGreatDoorJRn8
namespace Go.Proofs.YthgcnmilaifkoaaGreatDoor
open Go.RowKit
set_option linter.unusedVariables false

/-- What Append leaves where the entry is put in: the law's memory. -/
theorem RI.appended {w wr wr' : World} {jb : Nat} {first : Int} {vj : Value} {fs : List FV} {vh : Value} {hs : List EV} {ps : List (Int × List Opp)} (h : RI w wr jb first vj fs vh hs ps) (hf : Frm (fun k => k = jb ∨ vj.ownBlock = some k) wr wr') :
  Below w.heap.size w wr' ∧ wr'.ownsRow w.heap.size 31 2 vh hs.length (ecs hs) ∧ ∀ x ∈ hs, OwnO wr' w.heap.size (.slice x.a x.l.length x.c) x.l := by
 have ht := frm_jtys h.j
 refine ⟨h.bl.trans (hf.toBelow h.bl.size fun k hk => ?_), ht.row hf h.hr (by decide), fun x hx => (h.ho x hx).tys ht hf (by decide) (by decide)⟩
 rcases hk with rfl | hk
 ·exact h.j.low
 ·exact (World.ownsRow.lt h.j.row k hk).1

set_option maxRecDepth 100000 in
set_option maxHeartbeats 16000000 in
theorem journalRuns_calls (first : Int) (ao : Option Addr) (sc : Nat) (ss : List SV) (w : World) (hv : Vs w) (h0 : 0 ≤ first) (h1 : first ≤ 18446744073709551615) (hn : ss.length ≤ 1048576) (hat : ScAt w ao ss) (hok : ∀ x ∈ ss, EvOk x.e) (hix : ∀ x ∈ ss, 0 ≤ x.ix ∧ x.ix ≤ 18446744073709551615) :
  Calls Tryz.prog 3 #[.int .u64 first, .slice ao ss.length sc] w fun e w' => e = .returned (.bool true) ∧ Below w.heap.size w w' := by
 have HV : Hid (Vs w) := hv
 have HAT : Hid (ScAt w ao ss) := hat
 have HOK : Hid (∀ x ∈ ss, EvOk x.e) := hok
 have HIX : Hid (∀ x ∈ ss, 0 ≤ x.ix ∧ x.ix ≤ 18446744073709551615) := hix
 clear hat hok hix
 obtain ⟨n, Hn⟩ : ∃ x, Hid (x = ss.length) := ⟨_, rfl⟩
 rw [← Hn.out] at hn ⊢
 go_enter Tryz.func3, Tryz.ntmps3
 go_wp2_with fail
 refine (journalFixed_calls w hv).mono ?_
 rintro e w1 ⟨rfl, hb1⟩
 have HB1 : Hid (Below w.heap.size w w1) := hb1
 clear hb1 hv
 go_wp2_with fail
 refine (newJ_calls first w1).mono ?_
 rintro e w2 ⟨rfl, hw2⟩
 obtain ⟨jb, Hjb⟩ : ∃ x, Hid (x = w1.heap.size) := ⟨_, rfl⟩
 have HJ2 : Hid (Blk w2 jb #[.int .u64 first, .slice none 0 0] 57) := by rw [hw2, Hjb.out]; exact Blk.new _ _ _
 have HB2 : Hid (Below w.heap.size w w2) := by rw [hw2]; exact HB1.out.alloc HB1.out.size _
 have HJL : Hid (w.heap.size ≤ jb) := by rw [Hjb.out]; exact HB1.out.size
 rw [← Hjb.out]
 clear hw2 Hjb HB1
 have HL2 : Hid (Calls Tryz.prog 6 #[.pointer (some ⟨jb, 0, none⟩)] w2 fun e w' => e = .returned (.int .u64 first) ∧ ∃ m, w' = w2.drewN m) := by
  have := lastJ_calls jb first none 0 0 w2 h0 (by simpa using h1) (by omega) HJ2.out
  rw [show first + ((0 : Nat) : Int) = first by omega] at this

  exact this
 go_wp2_with fail
 refine HL2.out.mono ?_
 clear HL2
 rintro e w3 ⟨rfl, m3, hm3⟩
 have hb3 : Below w2.heap.size w2 w3 := by rw [hm3]; exact below_draws _ _
 have HJ3 : Hid (Blk w3 jb #[.int .u64 first, .slice none 0 0] 57) := HJ2.out.below hb3
 have HB3 : Hid (Below w.heap.size w w3) := HB2.out.trans (hb3.mono HB2.out.size)
 clear hm3 hb3 HJ2 HB2
 obtain ⟨w4, Hw4⟩ : ∃ x, Hid (x = w3.alloc (.cells #[] 31)) := ⟨_, rfl⟩
 have HRI : Hid (RI w w4 jb first (.slice none 0 0) [] (.slice (some ⟨w3.heap.size, 0, none⟩) 0 0) [] []) := by
  have hb4 : Below w3.heap.size w3 w4 := by rw [Hw4.out]; exact below_new _ _
  refine ⟨HB3.out.trans (hb4.mono HB3.out.size), ⟨HJ3.out.below hb4, ⟨rfl, .inl ⟨rfl, rfl⟩⟩, (fun x hx => by cases hx), HJL.out⟩, ⟨rfl, (fun k h => by cases h), (fun p hp => by cases hp)⟩, ?_, (fun x hx => by cases hx), rfl, (fun k h => by cases h), by simpa using h1⟩
  rw [Hw4.out]
  exact row_weak HB3.out.size (World.ownsRow_lit (size := 2) w3 #[] 0 (Nat.le_refl _) (by unfold maxLen; omega) rfl)
 go_upto_region 8 with fail
 rw [← Hw4.out]
 clear Hw4 HJ3 HB3 HJL
 go_wp2
 go_loopw [6, 7, 30] (fun s6 s7 s30 wr => ∃ (q : Nat) (vj vh : Value) (fs : List FV) (hs : List EV) (ps : List (Int × List Opp)), vh = s6 ∧ q ≤ n ∧ s30 = .int .i64 q ∧ s7 = .int .u64 (first + ps.length) ∧ Hid (ps.length ≤ q) ∧ Hid (RI w wr jb first vj fs vh hs ps)) (fun _ _ i _ => n - (intOf i).toNat)
 case atStart => exact ⟨0, _, _, [], [], [], rfl, Nat.zero_le _, rfl, by simp, Nat.le_refl _, HRI⟩
 case round =>
  obtain ⟨q, vj, vh, fs, hs, ps, rfl, hq, rfl, rfl, HQ, HI⟩ := hrel
  clear HRI
  have HL : Hid (hs.length = ps.length ∧ fs.length = ps.length) := HI.out.len
  obtain ⟨pl, Hpl⟩ : ∃ x, Hid (x = ps.length) := ⟨_, rfl⟩
  have hpl : pl ≤ q := by rw [Hpl.out]; exact HQ.out
  have htop : first + pl ≤ 18446744073709551615 := by rw [Hpl.out]; exact HI.out.top
  rw [← Hpl.out]
  rw [← Hpl.out] at HL
  obtain ⟨ha, hcp, hvh, -⟩ := row_forms HI.out.hr
  rw [HL.out.1] at hvh
  subst hvh
  obtain ⟨fa, fc, hvj, -⟩ := row_forms HI.out.j.row
  rw [HL.out.2] at hvj
  subst hvj
  have HLast : Hid (∀ W : World, Blk W jb #[.int .u64 first, .slice fa pl fc] 57 → Calls Tryz.prog 6 #[.pointer (some ⟨jb, 0, none⟩)] W fun e w' => e = .returned (.int .u64 (first + pl)) ∧ ∃ m, w' = W.drewN m) := fun W hW => lastJ_calls jb first fa pl fc W h0 htop (by omega) hW
  have HSin : Hid (∀ (W : World) (ix : Int), 0 ≤ ix → ix ≤ 18446744073709551615 → RI w W jb first (.slice fa pl fc) fs (.slice ha pl hcp) hs ps → Calls Tryz.prog 11 #[.pointer (some ⟨jb, 0, none⟩), .slice ha pl hcp, .int .u64 ix] W fun e w' => e = .returned (.bool true) ∧ Below W.heap.size W w') := fun W ix hx0 hx1 hW => by
   have := sinceL_calls w.heap.size jb first ix (.slice fa pl fc) fs ps ha hcp hs W h0 h1 hx0 hx1 (by rw [HL.out.2]; omega) (HV.out.stay hW.bl) hW.j hW.fr hW.held hW.hp hW.cons
   rw [HL.out.1] at this
   exact this
  by_cases hlt : q < n
  ·have hqs : q < ss.length := by rw [← Hn.out]; exact hlt
   obtain ⟨b, off, rfl, hrg⟩ := cells_sv (HAT.out.below HI.out.bl).cells q hqs
   obtain ⟨x, Hx⟩ : ∃ x, Hid (x = ss[q]'hqs) := ⟨_, rfl⟩
   have HXk : Hid (EvOk x.e) := by rw [Hx.out]; exact HOK.out _ (List.getElem_mem hqs)
   have HXi : Hid (0 ≤ x.ix ∧ x.ix ≤ 18446744073709551615) := by rw [Hx.out]; exact HIX.out _ (List.getElem_mem hqs)
   have HXa : Hid (∀ W, Below w.heap.size w W → OpsAt W x.e.a x.e.l) := fun W hW => by rw [Hx.out]; exact (HAT.out.ops _ (List.getElem_mem hqs)).below hW
   rw [← Hx.out] at hrg
   clear Hx hqs
   obtain ⟨kd, e, ix⟩ := x
   dsimp only at HXk HXi HXa
   have r0 : wr.cell? ⟨b, off + q * 4, none⟩ = some (.int .i64 kd) := hrg 0 _ rfl
   have r1 : wr.cell? ⟨b, off + q * 4 + 1, none⟩ = some (.int .u64 e.i) := hrg 1 _ rfl
   have r2 : wr.cell? ⟨b, off + q * 4 + 2, none⟩ = some (.slice e.a e.l.length e.c) := hrg 2 _ rfl
   have r3 : wr.cell? ⟨b, off + q * 4 + 3, none⟩ = some (.int .u64 ix) := hrg 3 _ rfl
   clear hrg
   obtain ⟨en, Hen⟩ : ∃ y, Hid (y = e.l.length) := ⟨_, rfl⟩
   rw [← Hen.out] at r2
   obtain ⟨w5, Hw5⟩ : ∃ y, Hid (y = wr.alloc (.cells #[.int .i64 kd, .int .u64 e.i, .slice e.a en e.c, .int .u64 ix] 33)) := ⟨_, rfl⟩
   have hb5 : Below wr.heap.size wr w5 := by rw [Hw5.out]; exact below_new _ _
   have HI5 : Hid (RI w w5 jb first (.slice fa pl fc) fs (.slice ha pl hcp) hs ps) := HI.out.below hb5
   have HX5 : Hid (Blk w5 wr.heap.size #[.int .i64 kd, .int .u64 e.i, .slice e.a en e.c, .int .u64 ix] 33) := by rw [Hw5.out]; exact Blk.new _ _ _
   go_upto_region 11 with fail
   rw [← Hw5.out]
   obtain ⟨g5, Hg5⟩ : ∃ y, Hid (y = wr.heap.size) := ⟨_, rfl⟩
   rw [← Hg5.out] at HX5 ⊢
   clear Hw5 Hg5 hb5 HI r0 r1 r2 r3
   have y0 : w5.cell? ⟨g5, 0, none⟩ = some (.int .i64 kd) := HX5.out.cell 0 rfl
   by_cases hk0 : kd = 0
   ·subst hk0
    have y1 : w5.cell? ⟨g5, 1, none⟩ = some (.int .u64 e.i) := HX5.out.cell 1 rfl
    have y2 : w5.cell? ⟨g5, 2, none⟩ = some (.slice e.a en e.c) := HX5.out.cell 2 rfl
    have HCp : Hid (∀ W, Below w.heap.size w W → Calls Tryz.prog 7 #[.agg #[.int .u64 e.i, .slice e.a en e.c]] W (CopE W e.i e.l)) := fun W hW => by
     have := copyE_calls e.i e.a e.c e.l W (by have := HXk.out.len; omega) (fun y hy => by have := HXk.out.tags y hy; omega) (HXa.out W hW)
     rw [← Hen.out] at this
     exact this
    go_wp2_with fail
    refine (HCp.out w5 HI5.out.bl).mono ?_
    rintro e9 w6 ⟨a6, c6, l6, rfl, hop6, how6, hb6⟩
    have HO6 : Hid (ops l6 = ops e.l) := hop6
    have HLt6 : Hid (LtO w6.heap.size (.slice a6 l6.length c6) l6) := how6.lt
    have HHl : Hid (∀ y ∈ hs, LtO w5.heap.size (.slice y.a y.l.length y.c) y.l) := fun y hy => (HI5.out.ho y hy).lt
    have HVh : Hid (∀ k, (Value.slice ha pl hcp).ownBlock = some k → k < w5.heap.size) := fun k hk => (World.ownsRow.lt HI5.out.hr k hk).2
    have HMg : Hid (w5.heap.size ≤ w6.heap.size) := hb6.size
    have HMs : Hid (w.heap.size ≤ w5.heap.size ∧ w.heap.size ≤ w6.heap.size) := ⟨HI5.out.bl.size, Nat.le_trans HI5.out.bl.size hb6.size⟩
    obtain ⟨kn, Hkn⟩ : ∃ z, Hid (z = l6.length) := ⟨_, rfl⟩
    have hkn8 : kn ≤ 1048576 := by rw [Hkn.out, ops_len HO6.out]; exact HXk.out.len
    obtain ⟨w7, Hw7⟩ : ∃ z, Hid (z = w6.alloc (.cells #[.int .u64 e.i, .slice a6 kn c6] 31)) := ⟨_, rfl⟩
    have hb7 : Below w6.heap.size w6 w7 := by rw [Hw7.out]; exact below_new _ _
    have HI7 : Hid (RI w w7 jb first (.slice fa pl fc) fs (.slice ha pl hcp) hs ps) := (HI5.out.below hb6).below hb7
    have HX7 : Hid (Blk w7 g5 #[.int .i64 0, .int .u64 e.i, .slice e.a en e.c, .int .u64 ix] 33) := (HX5.out.below hb6).below hb7
    have HY7 : Hid (Blk w7 w6.heap.size #[.int .u64 e.i, .slice a6 kn c6] 31) := by rw [Hw7.out]; exact Blk.new _ _ _
    have HW7 : Hid (OwnO w7 w5.heap.size (.slice a6 l6.length c6) l6) := how6.below hb7
    have HM7 : Hid (w6.heap.size ≤ w7.heap.size) := hb7.size
    rw [← Hkn.out]
    go_upto_region 13 with fail
    rw [← Hw7.out]
    obtain ⟨g7, Hg7⟩ : ∃ z, Hid (z = w6.heap.size) := ⟨_, rfl⟩
    rw [← Hg7.out] at HY7 HMg ⊢
    obtain ⟨M, HM⟩ : ∃ z, Hid (z = w5.heap.size) := ⟨_, rfl⟩
    obtain ⟨M', HM'⟩ : ∃ z, Hid (z = w6.heap.size) := ⟨_, rfl⟩
    rw [← HM.out, ← HM'.out] at HMs
    rw [← HM.out] at HHl HW7 HVh HMg
    rw [← HM'.out] at HLt6 HM7
    clear Hw7 Hg7 hb7 hb6 how6 hop6 HI5 HX5 HM HM' y0 y1 y2
    have z0 : w7.cell? ⟨g5, 0, none⟩ = some (.int .i64 0) := HX7.out.cell 0 rfl
    have z1 : w7.cell? ⟨g5, 1, none⟩ = some (.int .u64 e.i) := HX7.out.cell 1 rfl
    have z2 : w7.cell? ⟨g5, 2, none⟩ = some (.slice e.a en e.c) := HX7.out.cell 2 rfl
    have HSd : Hid (Calls Tryz.prog 8 #[.agg #[.int .u64 e.i, .slice e.a en e.c]] w7 fun e9 w' => e9 = .returned (.bool (soundB (ops e.l))) ∧ Below w7.heap.size w7 w') := by
     have := rsound_calls e.i e.a e.c e.l w7 (by have := HXk.out.len; omega) HXk.out.ok HXk.out.addr (HXa.out w7 HI7.out.bl)
     rw [← Hen.out] at this
     exact this
    go_wp2_with fail
    refine HSd.out.mono ?_
    clear HSd z0 z1 z2
    rintro e9 w8 ⟨rfl, hb8⟩
    have HI8 : Hid (RI w w8 jb first (.slice fa pl fc) fs (.slice ha pl hcp) hs ps) := HI7.out.below hb8
    have HX8 : Hid (Blk w8 g5 #[.int .i64 0, .int .u64 e.i, .slice e.a en e.c, .int .u64 ix] 33) := HX7.out.below hb8
    have HY8 : Hid (Blk w8 g7 #[.int .u64 e.i, .slice a6 kn c6] 31) := HY7.out.below hb8
    have HW8 : Hid (OwnO w8 M (.slice a6 l6.length c6) l6) := HW7.out.below hb8
    have HM8 : Hid (M' ≤ w8.heap.size) := Nat.le_trans HM7.out hb8.size
    clear HI7 HX7 HY7 HW7 HM7 hb8
    have HE6 : Hid (EvOk ⟨e.i, a6, c6, l6⟩) := HXk.out.copy rfl HO6.out
    have HSm : Hid (∀ W, Below w.heap.size w W → OpsAt W a6 l6 → Calls Tryz.prog 10 #[.agg #[.int .u64 e.i, .slice a6 kn c6], .agg #[.int .u64 e.i, .slice e.a en e.c]] W fun e9 w' => e9 = .returned (.bool true) ∧ Below W.heap.size W w') := fun W hW ho => by
     have := same_evs ⟨e.i, a6, c6, l6⟩ e W HE6.out (by simp [EV.p, HO6.out]) ho (HXa.out W hW)
     dsimp only at this
     rw [← Hkn.out, ← Hen.out] at this
     exact this
    have z0 : w8.cell? ⟨g5, 0, none⟩ = some (.int .i64 0) := HX8.out.cell 0 rfl
    have z1 : w8.cell? ⟨g5, 1, none⟩ = some (.int .u64 e.i) := HX8.out.cell 1 rfl
    have z2 : w8.cell? ⟨g5, 2, none⟩ = some (.slice e.a en e.c) := HX8.out.cell 2 rfl
    have u0 : w8.cell? ⟨g7, 0, none⟩ = some (.int .u64 e.i) := HY8.out.cell 0 rfl
    have u1 : w8.cell? ⟨g7, 1, none⟩ = some (.slice a6 kn c6) := HY8.out.cell 1 rfl
    cases hsd : soundB (ops e.l) with
    | false =>
     have HAp : Hid (Calls Tryz.prog 9 #[.pointer (some ⟨jb, 0, none⟩), .agg #[.int .u64 e.i, .slice a6 kn c6]] w8 fun e9 w' => e9 = .returned (.int .i64 130) ∧ Below w8.heap.size w8 w') := by
      rw [Hkn.out]
      exact appendJ_odd jb e.i a6 c6 l6 w8 HE6.out.lo HE6.out.hi (HV.out.stay HI8.out.bl) (by have := HE6.out.len; dsimp only at this; omega) HE6.out.ok HE6.out.rng HW8.out.at (by rw [HO6.out]; exact hsd)
     go_wp2_with fail
     refine HAp.out.mono ?_
     clear HAp z0 z1 z2 u0 u1
     rintro e9 w9 ⟨rfl, hb9⟩
     have HI9 : Hid (RI w w9 jb first (.slice fa pl fc) fs (.slice ha pl hcp) hs ps) := HI8.out.below hb9
     have HX9 : Hid (Blk w9 g5 #[.int .i64 0, .int .u64 e.i, .slice e.a en e.c, .int .u64 ix] 33) := HX8.out.below hb9
     have HY9 : Hid (Blk w9 g7 #[.int .u64 e.i, .slice a6 kn c6] 31) := HY8.out.below hb9
     have HW9 : Hid (OwnO w9 M (.slice a6 l6.length c6) l6) := HW8.out.below hb9
     clear HI8 HX8 HY8 HW8 hb9
     have z1 : w9.cell? ⟨g5, 1, none⟩ = some (.int .u64 e.i) := HX9.out.cell 1 rfl
     have z2 : w9.cell? ⟨g5, 2, none⟩ = some (.slice e.a en e.c) := HX9.out.cell 2 rfl
     have u0 : w9.cell? ⟨g7, 0, none⟩ = some (.int .u64 e.i) := HY9.out.cell 0 rfl
     have u1 : w9.cell? ⟨g7, 1, none⟩ = some (.slice a6 kn c6) := HY9.out.cell 1 rfl
     go_wp2_with fail
     refine (HSm.out w9 HI9.out.bl HW9.out.at).mono ?_
     clear z1 z2 u0 u1
     rintro e9 W0 ⟨rfl, hb0⟩
     have HIs : Hid (RI w W0 jb first (.slice fa pl fc) fs (.slice ha pl hcp) hs ps) := HI9.out.below hb0
     have HXs : Hid (Blk W0 g5 #[.int .i64 0, .int .u64 e.i, .slice e.a en e.c, .int .u64 ix] 33) := HX9.out.below hb0
     have HYs : Hid (Blk W0 g7 #[.int .u64 e.i, .slice a6 kn c6] 31) := HY9.out.below hb0
     have HWs : Hid (OwnO W0 M (.slice a6 l6.length c6) l6) := HW9.out.below hb0
     have HHs : Hid (∀ y ∈ hs, LtO M (.slice y.a y.l.length y.c) y.l ∨ OwnO W0 M' (.slice y.a y.l.length y.c) y.l) := fun y hy => .inl (HHl.out y hy)
     clear hb0 HX9 HY9 HW9
     clear HI9
     obtain ⟨S, HSs⟩ : ∃ z, Hid (z = WrS W0 M M') := ⟨_, rfl⟩
     have HT : Hid (Tys W0 S (fun t => t = 47 ∨ t = 9)) := by rw [HSs.out]; exact wrS_tys _ _ _
     have HMq : Hid (Mq W0 W0 S a6 kn) := by rw [HSs.out, Hkn.out]; exact Mq.ofOwn HWs.out HLt6.out
     have HYw : Hid (∀ W : World, Frm S W0 W → W.cell? ⟨g7, 1, none⟩ = some (.slice a6 kn c6)) := fun W hW => (HT.out.blk hW HYs.out (by decide)).cell 1 rfl
     have HXw : Hid (∀ W : World, Frm S W0 W → W.cell? ⟨g5, 0, none⟩ = some (.int .i64 0)) := fun W hW => (HT.out.blk hW HXs.out (by decide)).cell 0 rfl
     have HFin : Hid (∀ W : World, Frm S W0 W → RI w W jb first (.slice fa pl fc) fs (.slice ha pl hcp) hs ps) := fun W hW => HIs.out.spoil HMs.out.1 (by rw [← HSs.out]; exact hW) HHs.out HMs.out.2
     clear HSs HIs HHs HWs HXs HYs HLt6 HHl HSm HCp
     have c1 := HYw.out W0 (Frm.refl _ _)
     go_wp2
     clear c1
     go_loopw [79] (fun i wm => ∃ k : Nat, k ≤ kn ∧ i = .int .i64 k ∧ Hid (Mq W0 wm S a6 kn)) (fun i _ => kn - (intOf i).toNat)
     case atStart => exact ⟨0, Nat.zero_le _, rfl, HMq⟩
     case round =>
      obtain ⟨k, hk, rfl, HM⟩ := hrel
      clear HMq
      by_cases hkl : k < kn
      ·obtain ⟨yb, rfl, hshp⟩ := HM.out.shp (by omega)
       have HMk : Hid (Mk W0 wr S yb kn) := ⟨hshp, HM.out.frm⟩
       obtain ⟨ta, tn, tc, ct, hts⟩ := hshp.tag hkl
       have c1 := HYw.out wr HM.out.frm
       have HTS : Hid (TagS wr S ta tn) := hts
       have HCT : Hid (wr.cell? ⟨yb, k * 21 + 9, none⟩ = some (.slice ta tn tc)) := ct
       clear hts hshp HM
       go_wp2
       clear c1 ct
       go_loopw [90] (fun i wt => ∃ t : Nat, t ≤ tn ∧ i = .int .i64 t ∧ Hid (Mk W0 wt S yb kn) ∧ Hid (wt.cell? ⟨yb, k * 21 + 9, none⟩ = some (.slice ta tn tc)) ∧ Hid (TagS wt S ta tn)) (fun i _ => tn - (intOf i).toNat)
       case atStart => exact ⟨0, Nat.zero_le _, rfl, HMk, HCT, HTS⟩
       case round =>
        clear HMk HCT HTS
        obtain ⟨t, ht, rfl, HM, HCT, HTS⟩ := hrel
        have c1 := HYw.out _ HM.out.frm
        have ct := HCT.out
        by_cases htl : t < tn
        ·obtain ⟨g, ts, rfl, hsg, hbg, hts, hmx2⟩ := HTS.out.resolve_left (by omega)
         obtain ⟨cv, cg⟩ : ∃ cv, wr.cell? ⟨g, t, none⟩ = some cv := ⟨_, hbg.cell t (Array.getElem?_eq_getElem (by omega))⟩
         have fg := hbg.open t
         have HM2 : Hid (Mk W0 (wr.setCell ⟨g, t, none⟩ (.string ⟨#[115, 112, 111, 105, 108, 116]⟩)) S yb kn) := HM.out.tag hsg hbg _
         have HC2 : Hid (World.cell? (wr.setCell ⟨g, t, none⟩ (.string ⟨#[115, 112, 111, 105, 108, 116]⟩)) ⟨yb, k * 21 + 9, none⟩ = some (.slice (some ⟨g, 0, none⟩) tn tc)) := by
          show _ = _
          obtain ⟨cs, hcs, _, _⟩ := HM.out.shp.blk
          rw [World.cell?_setCell_other _ _ _ _ (fun e => by
           injection e with e
           subst e
           have := blk_type hbg hcs
           revert this
           decide)]
          exact ct
         have HT2 : Hid (TagS (wr.setCell ⟨g, t, none⟩ (.string ⟨#[115, 112, 111, 105, 108, 116]⟩)) S (some ⟨g, 0, none⟩) tn) := HTS.out.setTag hbg _
         clear hbg hts hsg HTS HM HCT
         go_wp2
         go_roundw
         case rel => exact ⟨t + 1, by omega, by go_num, HM2, HC2, HT2⟩
         case measure => simp [intOf]; omega
        ·obtain ⟨cs, hcs, hcz, _⟩ := HM.out.shp.blk
         have HCs : Hid (Blk wr yb cs 47) := hcs
         have HCz : Hid (k * 21 + (oppZ.v (.slice none 0 0)).toList.length ≤ cs.size) := by
          show _ ≤ _
          have h21 : (oppZ.v (.slice none 0 0)).toList.length = 21 := rfl
          rw [h21]
          omega
         have HM2 : Hid (Mk W0 (putC wr yb (k * 21) (oppZ.v (.slice none 0 0)).toList) S yb kn) := HM.out.zero k
         clear HTS HCT HM hcs hcz ct
         go_upto_region 31 with fail
         iterate 17 go_step
         refine wp_put_part (l := (oppZ.v (.slice none 0 0)).toList) rfl HCs.out rfl rfl HCz.out info_op (show (oppZ.v (.slice none 0 0)).toList.toArray.all (·.oneCell') = true from by rw [Array.toArray_toList]; exact ov_one ⟨oppZ, none, 0⟩) ?_
         obtain ⟨wz, Hwz⟩ : ∃ z, Hid (z = putC wr yb (k * 21) (oppZ.v (.slice none 0 0)).toList) := ⟨_, rfl⟩
         rw [← Hwz.out] at HM2 ⊢
         clear Hwz HCs HCz c1
         go_wp2
         go_roundw
         case rel => exact ⟨k + 1, by omega, by go_num, HM2.out.mq⟩
         case measure => simp [intOf]; omega
      ·have HI9 : Hid (RI w wr jb first (.slice fa pl fc) fs (.slice ha pl hcp) hs ps) := HFin.out wr HM.out.frm
       have x0 := HXw.out wr HM.out.frm
       clear HFin HXw HYw HM
       go_wp2_with fail
       refine (HLast.out wr HI9.out.j.blk).mono ?_
       rintro e9 wz ⟨rfl, mz, hmz⟩
       have HIz : Hid (RI w wz jb first (.slice fa pl fc) fs (.slice ha pl hcp) hs ps) := HI9.out.below (by rw [hmz]; exact below_draws _ _)
       clear hmz HI9 x0
       go_wp2
       go_roundw
       case rel => exact ⟨q + 1, _, _, fs, hs, ps, rfl, by omega, by go_num, (by rw [← Hpl.out]; first | done | rw [hmx]), (by show _ ≤ _; have := HQ.out; omega), HIz⟩
       case measure => simp [intOf]; omega
    | true =>
     by_cases hnx : e.i = first + pl + 1
     ·have HAp : Hid (Calls Tryz.prog 9 #[.pointer (some ⟨jb, 0, none⟩), .agg #[.int .u64 e.i, .slice a6 kn c6]] w8 (AppA w8 w.heap.size jb first (.slice fa pl fc) fs (e.i, ops l6))) := by
       rw [Hkn.out]
       exact (appendJ_snd w.heap.size jb first (.slice fa pl fc) fs e.i a6 c6 l6 w8 HE6.out.lo HE6.out.hi h0 (by rw [HL.out.2]; exact htop) (by rw [HL.out.2]; omega) HI8.out.bl.size HI8.out.j (HV.out.stay HI8.out.bl) (by have := HE6.out.len; dsimp only at this; omega) HE6.out.ok HE6.out.rng HW8.out.at (by rw [HO6.out]; exact hsd)).mono fun e9 w' h => h.2 (by rw [HL.out.2]; exact hnx)
      have htop2 : first + pl + 1 ≤ 18446744073709551615 := by rw [← hnx]; exact HXk.out.hi
      have hmx : ¬ first + pl = 18446744073709551615 := by omega
      have HPe : Hid (PeOk (e.i, ops e.l)) := HXk.out.peOk hsd
      have HCons : Hid (∀ k (h : k < (ps ++ [(e.i, ops e.l)]).length), ((ps ++ [(e.i, ops e.l)])[k]).1 = first + 1 + k) := cons_snoc HI8.out.cons (by show e.i = _; rw [← Hpl.out]; exact hnx)
      have HFr : Hid (∀ fx : FV, fx.l = frmP (e.i, ops e.l) → FrsOf (fs ++ [fx]) (ps ++ [(e.i, ops e.l)])) := fun fx h => HI8.out.fr.push HPe.out h
      have HHp : Hid (hs.map EV.p = ps) := HI8.out.hp
      rw [hnx] at z1 u0 HAp HSm HCp
      have HEi : Hid (e.i = first + pl + 1) := hnx
      go_wp2_with fail
      refine HAp.out.mono ?_
      clear HAp z0 z1 z2 u0 u1
      rintro e9 w9 ⟨rfl, hfr, vj2, fx, hfx, hJ9⟩
      have hty := frm_jtys HI8.out.j
      obtain ⟨hbl9, hr9, ho9⟩ := HI8.out.appended hfr
      have HX9 : Hid (Blk w9 g5 #[.int .i64 0, .int .u64 (first + pl + 1), .slice e.a en e.c, .int .u64 ix] 33) := by rw [← HEi.out]; exact hty.blk hfr HX8.out (by decide)
      have HY9 : Hid (Blk w9 g7 #[.int .u64 (first + pl + 1), .slice a6 kn c6] 31) := by rw [← HEi.out]; exact hty.blk hfr HY8.out (by decide)
      have HW9 : Hid (OwnO w9 M (.slice a6 l6.length c6) l6) := HW8.out.tys hty hfr (by decide) (by decide)
      have HBl9 : Hid (Below w.heap.size w w9) := hbl9
      have HR9 : Hid (w9.ownsRow w.heap.size 31 2 (.slice ha pl hcp) hs.length (ecs hs)) := hr9
      have HO9 : Hid (∀ x ∈ hs, OwnO w9 w.heap.size (.slice x.a x.l.length x.c) x.l) := ho9
      have HJ9 : Hid (JAt w9 w.heap.size jb first vj2 (fs ++ [fx])) := hJ9
      have HFx : Hid (fx.l = frmP (e.i, ops e.l)) := by rw [HEi.out, ← HO6.out]; exact hfx
      have HM9 : Hid (M' ≤ w9.heap.size) := Nat.le_trans HM8.out hfr.size
      clear hfr hfx hJ9 hty hbl9 hr9 ho9 HI8 HX8 HY8 HW8 HM8
      have z1 : w9.cell? ⟨g5, 1, none⟩ = some (.int .u64 (first + pl + 1)) := HX9.out.cell 1 rfl
      have z2 : w9.cell? ⟨g5, 2, none⟩ = some (.slice e.a en e.c) := HX9.out.cell 2 rfl
      have u0 : w9.cell? ⟨g7, 0, none⟩ = some (.int .u64 (first + pl + 1)) := HY9.out.cell 0 rfl
      have u1 : w9.cell? ⟨g7, 1, none⟩ = some (.slice a6 kn c6) := HY9.out.cell 1 rfl
      go_wp2_with fail
      refine (HSm.out w9 HBl9.out HW9.out.at).mono ?_
      clear z1 z2 u0 u1
      rintro e9 w10 ⟨rfl, hb10⟩
      have HX10 : Hid (Blk w10 g5 #[.int .i64 0, .int .u64 (first + pl + 1), .slice e.a en e.c, .int .u64 ix] 33) := HX9.out.below hb10
      have HBl10 : Hid (Below w.heap.size w w10) := HBl9.out.trans (hb10.mono HBl9.out.size)
      have HM10 : Hid (M' ≤ w10.heap.size) := Nat.le_trans HM9.out hb10.size
      have z1 : w10.cell? ⟨g5, 1, none⟩ = some (.int .u64 (first + pl + 1)) := HX10.out.cell 1 rfl
      have z2 : w10.cell? ⟨g5, 2, none⟩ = some (.slice e.a en e.c) := HX10.out.cell 2 rfl
      go_wp2_with fail
      refine (HCp.out w10 HBl10.out).mono ?_
      clear z1 z2
      rintro e9 w11 ⟨a11, c11, l11, rfl, hop11, how11, hb11⟩
      have hb911 : Below w9.heap.size w9 w11 := hb10.trans (hb11.mono hb10.size)
      obtain ⟨z, Hz⟩ : ∃ z : EV, Hid (z = ⟨e.i, a11, c11, l11⟩) := ⟨_, rfl⟩
      have HZo : Hid (OwnO w11 M' (.slice z.a z.l.length z.c) z.l) := by rw [Hz.out]; exact how11.weak HM10.out
      have HZp : Hid (z.p = (e.i, ops e.l)) := by
       show _ = _
       rw [Hz.out]
       show (e.i, ops l11) = _
       rw [hop11]
      obtain ⟨k11, Hk11⟩ : ∃ y, Hid (y = l11.length) := ⟨_, rfl⟩
      have HZC : Hid (z.cs = [.int .u64 (first + pl + 1), .slice a11 k11 c11]) := by rw [Hz.out, Hk11.out, ← HEi.out]; rfl
      rw [← Hk11.out]
      have HX11 : Hid (Blk w11 g5 #[.int .i64 0, .int .u64 (first + pl + 1), .slice e.a en e.c, .int .u64 ix] 33) := HX10.out.below hb11
      have HY11 : Hid (Blk w11 g7 #[.int .u64 (first + pl + 1), .slice a6 kn c6] 31) := HY9.out.below hb911
      have HW11 : Hid (OwnO w11 M (.slice a6 l6.length c6) l6) := HW9.out.below hb911
      have HBl11 : Hid (Below w.heap.size w w11) := HBl9.out.trans (hb911.mono HBl9.out.size)
      have HR11 : Hid (w11.ownsRow w.heap.size 31 2 (.slice ha pl hcp) pl (ecs hs)) := by
       have := row_below HR9.out hb911
       rw [HL.out.1] at this
       exact this
      have HO11 : Hid (∀ x ∈ hs, OwnO w11 w.heap.size (.slice x.a x.l.length x.c) x.l) := fun x hx => (HO9.out x hx).below hb911
      have HJ11 : Hid (JAt w11 w.heap.size jb first vj2 (fs ++ [fx])) := HJ9.out.below hb911
      clear hop11 how11 hb11 hb10 hb911 HX9 HY9 HW9 HBl9 HR9 HO9 HJ9 HM9 HX10 HBl10 HM10 Hz Hk11
      have hB11 := HBl11.out.size
      have HR12 : Hid ((w11.alloc (.cells #[.int .u64 (first + pl + 1), .slice a11 k11 c11] 31)).ownsRow w.heap.size 31 2 (.slice ha pl hcp) pl (ecs hs)) := row_below HR11.out (below_new _ _)
      have HC12 : Hid (CellsAt (w11.alloc (.cells #[.int .u64 (first + pl + 1), .slice a11 k11 c11] 31)) (some ⟨w11.heap.size, 0, none⟩) z.cs) := by
       intro _
       refine ⟨w11.heap.size, 0, rfl, fun j u hj => ?_⟩
       rw [Nat.zero_add, World.cell?_alloc_mark]
       rw [HZC.out] at hj
       simpa using hj
      have HZL : Hid (z.cs.length = 1 * 2) := rfl
      go_wp2_with (at_builtin; refine append_src _ rfl (.tmp 68) (.tmp 72) 28 31 _ 2 32 Tryz.underlying28 info_ent rfl (by decide) rfl w.heap.size _ pl (ecs hs) rfl HR12.out (some ⟨w11.heap.size, 0, none⟩) 1 1 z.cs rfl HZL.out HC12.out (ecs_one z) (by unfold maxLen; omega) (by omega) (by simp; omega) ?_)
      intro vh2 W0 hoh hgh
      have hgh' := hgh.ofAlloc
      have hTy : Tys w11 (fun k => (Value.slice ha pl hcp).ownBlock = some k) (fun t => t = 31) := fun k hk => by
       obtain ⟨cs, hc⟩ := row_typed HR11.out k hk
       exact ⟨cs, _, hc, rfl⟩
      have hF := Frm.ofGrew hgh'
      have HIs : Hid (RI w W0 jb first vj2 (fs ++ [fx]) vh2 (hs ++ [z]) (ps ++ [(e.i, ops e.l)])) := by
       refine ⟨HBl11.out.trans (hgh'.toBelow hB11 fun k hk => (World.ownsRow.lt HR11.out k hk).1), HJ11.out.tys hTy hF (by decide) (by decide) (by decide), HFr.out fx HFx.out, ?_, fun x hx => ?_, ?_, HCons.out, ?_⟩
       ·rw [List.length_append, ecs_snoc, HL.out.1]
        exact hoh
       ·rcases List.mem_append.1 hx with hx | hx
        ·exact (HO11.out x hx).tys hTy hF (by decide) (by decide)
        ·rw [List.mem_singleton] at hx
         subst hx
         exact (HZo.out.weak HMs.out.2).tys hTy hF (by decide) (by decide)
       ·rw [List.map_append, HHp.out]
        simp [HZp.out]
       ·rw [List.length_append, ← Hpl.out]
        simp
        omega
      have HXs : Hid (Blk W0 g5 #[.int .i64 0, .int .u64 (first + pl + 1), .slice e.a en e.c, .int .u64 ix] 33) := hTy.blk hF HX11.out (by decide)
      have HYs : Hid (Blk W0 g7 #[.int .u64 (first + pl + 1), .slice a6 kn c6] 31) := hF.blk HY11.out fun h => by
       have h1 := HVh.out _ h
       have h2 := HMg.out
       omega
      have HWs : Hid (OwnO W0 M (.slice a6 l6.length c6) l6) := HW11.out.tys hTy hF (by decide) (by decide)
      have HHs : Hid (∀ y ∈ hs ++ [z], LtO M (.slice y.a y.l.length y.c) y.l ∨ OwnO W0 M' (.slice y.a y.l.length y.c) y.l) := fun y hy => by
       rcases List.mem_append.1 hy with hy | hy
       ·exact .inl (HHl.out y hy)
       ·rw [List.mem_singleton] at hy
        subst hy
        exact .inr (HZo.out.tys hTy hF (by decide) (by decide))
      have HLast2 : Hid (∀ W : World, Blk W jb #[.int .u64 first, vj2] 57 → Calls Tryz.prog 6 #[.pointer (some ⟨jb, 0, none⟩)] W fun e w' => e = .returned (.int .u64 (first + pl + 1)) ∧ ∃ m, w' = W.drewN m) := fun W hW => by
       obtain ⟨fa2, fc2, hvj2, -⟩ := row_forms HJ11.out.row
       rw [List.length_append, HL.out.2] at hvj2
       rw [hvj2] at hW
       have := lastJ_calls jb first fa2 (pl + 1) fc2 W h0 (by omega) (by omega) hW
       rw [show first + ((pl + 1 : Nat) : Int) = first + pl + 1 by omega] at this
       exact this
      clear hoh hgh hgh' hTy hF HX11 HY11 HW11 HBl11 HR11 HO11 HJ11 HR12 HC12 HZL HZC HZo HZp HFx HFr HCons HHp HPe hB11 HLast hnx hmx
      obtain ⟨S, HSs⟩ : ∃ z, Hid (z = WrS W0 M M') := ⟨_, rfl⟩
      have HT : Hid (Tys W0 S (fun t => t = 47 ∨ t = 9)) := by rw [HSs.out]; exact wrS_tys _ _ _
      have HMq : Hid (Mq W0 W0 S a6 kn) := by rw [HSs.out, Hkn.out]; exact Mq.ofOwn HWs.out HLt6.out
      have HYw : Hid (∀ W : World, Frm S W0 W → W.cell? ⟨g7, 1, none⟩ = some (.slice a6 kn c6)) := fun W hW => (HT.out.blk hW HYs.out (by decide)).cell 1 rfl
      have HXw : Hid (∀ W : World, Frm S W0 W → W.cell? ⟨g5, 0, none⟩ = some (.int .i64 0)) := fun W hW => (HT.out.blk hW HXs.out (by decide)).cell 0 rfl
      have HFin : Hid (∀ W : World, Frm S W0 W → RI w W jb first vj2 (fs ++ [fx]) vh2 (hs ++ [z]) (ps ++ [(e.i, ops e.l)])) := fun W hW => HIs.out.spoil HMs.out.1 (by rw [← HSs.out]; exact hW) HHs.out HMs.out.2
      clear HSs HIs HHs HWs HXs HYs HLt6 HHl HSm HCp
      have c1 := HYw.out W0 (Frm.refl _ _)
      go_wp2
      clear c1
      go_loopw [79] (fun i wm => ∃ k : Nat, k ≤ kn ∧ i = .int .i64 k ∧ Hid (Mq W0 wm S a6 kn)) (fun i _ => kn - (intOf i).toNat)
      case atStart => exact ⟨0, Nat.zero_le _, rfl, HMq⟩
      case round =>
       obtain ⟨k, hk, rfl, HM⟩ := hrel
       clear HMq
       by_cases hkl : k < kn
       ·obtain ⟨yb, rfl, hshp⟩ := HM.out.shp (by omega)
        have HMk : Hid (Mk W0 wr S yb kn) := ⟨hshp, HM.out.frm⟩
        obtain ⟨ta, tn, tc, ct, hts⟩ := hshp.tag hkl
        have c1 := HYw.out wr HM.out.frm
        have HTS : Hid (TagS wr S ta tn) := hts
        have HCT : Hid (wr.cell? ⟨yb, k * 21 + 9, none⟩ = some (.slice ta tn tc)) := ct
        clear hts hshp HM
        go_wp2
        clear c1 ct
        go_loopw [90] (fun i wt => ∃ t : Nat, t ≤ tn ∧ i = .int .i64 t ∧ Hid (Mk W0 wt S yb kn) ∧ Hid (wt.cell? ⟨yb, k * 21 + 9, none⟩ = some (.slice ta tn tc)) ∧ Hid (TagS wt S ta tn)) (fun i _ => tn - (intOf i).toNat)
        case atStart => exact ⟨0, Nat.zero_le _, rfl, HMk, HCT, HTS⟩
        case round =>
         clear HMk HCT HTS
         obtain ⟨t, ht, rfl, HM, HCT, HTS⟩ := hrel
         have c1 := HYw.out _ HM.out.frm
         have ct := HCT.out
         by_cases htl : t < tn
         ·obtain ⟨g, ts, rfl, hsg, hbg, hts, hmx2⟩ := HTS.out.resolve_left (by omega)
          obtain ⟨cv, cg⟩ : ∃ cv, wr.cell? ⟨g, t, none⟩ = some cv := ⟨_, hbg.cell t (Array.getElem?_eq_getElem (by omega))⟩
          have fg := hbg.open t
          have HM2 : Hid (Mk W0 (wr.setCell ⟨g, t, none⟩ (.string ⟨#[115, 112, 111, 105, 108, 116]⟩)) S yb kn) := HM.out.tag hsg hbg _
          have HC2 : Hid (World.cell? (wr.setCell ⟨g, t, none⟩ (.string ⟨#[115, 112, 111, 105, 108, 116]⟩)) ⟨yb, k * 21 + 9, none⟩ = some (.slice (some ⟨g, 0, none⟩) tn tc)) := by
           show _ = _
           obtain ⟨cs, hcs, _, _⟩ := HM.out.shp.blk
           rw [World.cell?_setCell_other _ _ _ _ (fun e => by
            injection e with e
            subst e
            have := blk_type hbg hcs
            revert this
            decide)]
           exact ct
          have HT2 : Hid (TagS (wr.setCell ⟨g, t, none⟩ (.string ⟨#[115, 112, 111, 105, 108, 116]⟩)) S (some ⟨g, 0, none⟩) tn) := HTS.out.setTag hbg _
          clear hbg hts hsg HTS HM HCT
          go_wp2
          go_roundw
          case rel => exact ⟨t + 1, by omega, by go_num, HM2, HC2, HT2⟩
          case measure => simp [intOf]; omega
         ·obtain ⟨cs, hcs, hcz, _⟩ := HM.out.shp.blk
          have HCs : Hid (Blk wr yb cs 47) := hcs
          have HCz : Hid (k * 21 + (oppZ.v (.slice none 0 0)).toList.length ≤ cs.size) := by
           show _ ≤ _
           have h21 : (oppZ.v (.slice none 0 0)).toList.length = 21 := rfl
           rw [h21]
           omega
          have HM2 : Hid (Mk W0 (putC wr yb (k * 21) (oppZ.v (.slice none 0 0)).toList) S yb kn) := HM.out.zero k
          clear HTS HCT HM hcs hcz ct
          go_upto_region 31 with fail
          iterate 17 go_step
          refine wp_put_part (l := (oppZ.v (.slice none 0 0)).toList) rfl HCs.out rfl rfl HCz.out info_op (show (oppZ.v (.slice none 0 0)).toList.toArray.all (·.oneCell') = true from by rw [Array.toArray_toList]; exact ov_one ⟨oppZ, none, 0⟩) ?_
          obtain ⟨wz, Hwz⟩ : ∃ z, Hid (z = putC wr yb (k * 21) (oppZ.v (.slice none 0 0)).toList) := ⟨_, rfl⟩
          rw [← Hwz.out] at HM2 ⊢
          clear Hwz HCs HCz c1
          go_wp2
          go_roundw
          case rel => exact ⟨k + 1, by omega, by go_num, HM2.out.mq⟩
          case measure => simp [intOf]; omega
       ·have HI9 : Hid (RI w wr jb first vj2 (fs ++ [fx]) vh2 (hs ++ [z]) (ps ++ [(e.i, ops e.l)])) := HFin.out wr HM.out.frm
        have x0 := HXw.out wr HM.out.frm
        clear HFin HXw HYw HM
        go_wp2_with fail
        refine (HLast2.out wr HI9.out.j.blk).mono ?_
        rintro e9 wz ⟨rfl, mz, hmz⟩
        have HIz : Hid (RI w wz jb first vj2 (fs ++ [fx]) vh2 (hs ++ [z]) (ps ++ [(e.i, ops e.l)])) := HI9.out.below (by rw [hmz]; exact below_draws _ _)
        clear hmz HI9 x0
        go_wp2
        go_roundw
        case rel => exact ⟨q + 1, _, _, (fs ++ [fx]), (hs ++ [z]), (ps ++ [(e.i, ops e.l)]), rfl, by omega, by go_num, by rw [List.length_append, ← Hpl.out]; exact congrArg (Value.int .u64) (by simp; omega), (by show _ ≤ _; rw [List.length_append]; have := HQ.out; simp; omega), HIz⟩
        case measure => simp [intOf]; omega
     ·have HAp : Hid (Calls Tryz.prog 9 #[.pointer (some ⟨jb, 0, none⟩), .agg #[.int .u64 e.i, .slice a6 kn c6]] w8 fun e9 w' => e9 = .returned (.int .i64 134) ∧ Below w8.heap.size w8 w') := by
       rw [Hkn.out]
       exact (appendJ_snd w.heap.size jb first (.slice fa pl fc) fs e.i a6 c6 l6 w8 HE6.out.lo HE6.out.hi h0 (by rw [HL.out.2]; exact htop) (by rw [HL.out.2]; omega) HI8.out.bl.size HI8.out.j (HV.out.stay HI8.out.bl) (by have := HE6.out.len; dsimp only at this; omega) HE6.out.ok HE6.out.rng HW8.out.at (by rw [HO6.out]; exact hsd)).mono fun e9 w' h => h.1 (by rw [HL.out.2]; exact hnx)
      by_cases hmx : first + pl = 18446744073709551615
      ·go_wp2_with fail
       refine HAp.out.mono ?_
       clear HAp z0 z1 z2 u0 u1
       rintro e9 w9 ⟨rfl, hb9⟩
       have HI9 : Hid (RI w w9 jb first (.slice fa pl fc) fs (.slice ha pl hcp) hs ps) := HI8.out.below hb9
       have HX9 : Hid (Blk w9 g5 #[.int .i64 0, .int .u64 e.i, .slice e.a en e.c, .int .u64 ix] 33) := HX8.out.below hb9
       have HY9 : Hid (Blk w9 g7 #[.int .u64 e.i, .slice a6 kn c6] 31) := HY8.out.below hb9
       have HW9 : Hid (OwnO w9 M (.slice a6 l6.length c6) l6) := HW8.out.below hb9
       clear HI8 HX8 HY8 HW8 hb9
       have z1 : w9.cell? ⟨g5, 1, none⟩ = some (.int .u64 e.i) := HX9.out.cell 1 rfl
       have z2 : w9.cell? ⟨g5, 2, none⟩ = some (.slice e.a en e.c) := HX9.out.cell 2 rfl
       have u0 : w9.cell? ⟨g7, 0, none⟩ = some (.int .u64 e.i) := HY9.out.cell 0 rfl
       have u1 : w9.cell? ⟨g7, 1, none⟩ = some (.slice a6 kn c6) := HY9.out.cell 1 rfl
       go_wp2_with fail
       refine (HSm.out w9 HI9.out.bl HW9.out.at).mono ?_
       clear z1 z2 u0 u1
       rintro e9 W0 ⟨rfl, hb0⟩
       have HIs : Hid (RI w W0 jb first (.slice fa pl fc) fs (.slice ha pl hcp) hs ps) := HI9.out.below hb0
       have HXs : Hid (Blk W0 g5 #[.int .i64 0, .int .u64 e.i, .slice e.a en e.c, .int .u64 ix] 33) := HX9.out.below hb0
       have HYs : Hid (Blk W0 g7 #[.int .u64 e.i, .slice a6 kn c6] 31) := HY9.out.below hb0
       have HWs : Hid (OwnO W0 M (.slice a6 l6.length c6) l6) := HW9.out.below hb0
       have HHs : Hid (∀ y ∈ hs, LtO M (.slice y.a y.l.length y.c) y.l ∨ OwnO W0 M' (.slice y.a y.l.length y.c) y.l) := fun y hy => .inl (HHl.out y hy)
       clear hb0 HX9 HY9 HW9
       clear HI9
       obtain ⟨S, HSs⟩ : ∃ z, Hid (z = WrS W0 M M') := ⟨_, rfl⟩
       have HT : Hid (Tys W0 S (fun t => t = 47 ∨ t = 9)) := by rw [HSs.out]; exact wrS_tys _ _ _
       have HMq : Hid (Mq W0 W0 S a6 kn) := by rw [HSs.out, Hkn.out]; exact Mq.ofOwn HWs.out HLt6.out
       have HYw : Hid (∀ W : World, Frm S W0 W → W.cell? ⟨g7, 1, none⟩ = some (.slice a6 kn c6)) := fun W hW => (HT.out.blk hW HYs.out (by decide)).cell 1 rfl
       have HXw : Hid (∀ W : World, Frm S W0 W → W.cell? ⟨g5, 0, none⟩ = some (.int .i64 0)) := fun W hW => (HT.out.blk hW HXs.out (by decide)).cell 0 rfl
       have HFin : Hid (∀ W : World, Frm S W0 W → RI w W jb first (.slice fa pl fc) fs (.slice ha pl hcp) hs ps) := fun W hW => HIs.out.spoil HMs.out.1 (by rw [← HSs.out]; exact hW) HHs.out HMs.out.2
       clear HSs HIs HHs HWs HXs HYs HLt6 HHl HSm HCp
       have c1 := HYw.out W0 (Frm.refl _ _)
       go_wp2
       clear c1
       go_loopw [79] (fun i wm => ∃ k : Nat, k ≤ kn ∧ i = .int .i64 k ∧ Hid (Mq W0 wm S a6 kn)) (fun i _ => kn - (intOf i).toNat)
       case atStart => exact ⟨0, Nat.zero_le _, rfl, HMq⟩
       case round =>
        obtain ⟨k, hk, rfl, HM⟩ := hrel
        clear HMq
        by_cases hkl : k < kn
        ·obtain ⟨yb, rfl, hshp⟩ := HM.out.shp (by omega)
         have HMk : Hid (Mk W0 wr S yb kn) := ⟨hshp, HM.out.frm⟩
         obtain ⟨ta, tn, tc, ct, hts⟩ := hshp.tag hkl
         have c1 := HYw.out wr HM.out.frm
         have HTS : Hid (TagS wr S ta tn) := hts
         have HCT : Hid (wr.cell? ⟨yb, k * 21 + 9, none⟩ = some (.slice ta tn tc)) := ct
         clear hts hshp HM
         go_wp2
         clear c1 ct
         go_loopw [90] (fun i wt => ∃ t : Nat, t ≤ tn ∧ i = .int .i64 t ∧ Hid (Mk W0 wt S yb kn) ∧ Hid (wt.cell? ⟨yb, k * 21 + 9, none⟩ = some (.slice ta tn tc)) ∧ Hid (TagS wt S ta tn)) (fun i _ => tn - (intOf i).toNat)
         case atStart => exact ⟨0, Nat.zero_le _, rfl, HMk, HCT, HTS⟩
         case round =>
          clear HMk HCT HTS
          obtain ⟨t, ht, rfl, HM, HCT, HTS⟩ := hrel
          have c1 := HYw.out _ HM.out.frm
          have ct := HCT.out
          by_cases htl : t < tn
          ·obtain ⟨g, ts, rfl, hsg, hbg, hts, hmx2⟩ := HTS.out.resolve_left (by omega)
           obtain ⟨cv, cg⟩ : ∃ cv, wr.cell? ⟨g, t, none⟩ = some cv := ⟨_, hbg.cell t (Array.getElem?_eq_getElem (by omega))⟩
           have fg := hbg.open t
           have HM2 : Hid (Mk W0 (wr.setCell ⟨g, t, none⟩ (.string ⟨#[115, 112, 111, 105, 108, 116]⟩)) S yb kn) := HM.out.tag hsg hbg _
           have HC2 : Hid (World.cell? (wr.setCell ⟨g, t, none⟩ (.string ⟨#[115, 112, 111, 105, 108, 116]⟩)) ⟨yb, k * 21 + 9, none⟩ = some (.slice (some ⟨g, 0, none⟩) tn tc)) := by
            show _ = _
            obtain ⟨cs, hcs, _, _⟩ := HM.out.shp.blk
            rw [World.cell?_setCell_other _ _ _ _ (fun e => by
             injection e with e
             subst e
             have := blk_type hbg hcs
             revert this
             decide)]
            exact ct
           have HT2 : Hid (TagS (wr.setCell ⟨g, t, none⟩ (.string ⟨#[115, 112, 111, 105, 108, 116]⟩)) S (some ⟨g, 0, none⟩) tn) := HTS.out.setTag hbg _
           clear hbg hts hsg HTS HM HCT
           go_wp2
           go_roundw
           case rel => exact ⟨t + 1, by omega, by go_num, HM2, HC2, HT2⟩
           case measure => simp [intOf]; omega
          ·obtain ⟨cs, hcs, hcz, _⟩ := HM.out.shp.blk
           have HCs : Hid (Blk wr yb cs 47) := hcs
           have HCz : Hid (k * 21 + (oppZ.v (.slice none 0 0)).toList.length ≤ cs.size) := by
            show _ ≤ _
            have h21 : (oppZ.v (.slice none 0 0)).toList.length = 21 := rfl
            rw [h21]
            omega
           have HM2 : Hid (Mk W0 (putC wr yb (k * 21) (oppZ.v (.slice none 0 0)).toList) S yb kn) := HM.out.zero k
           clear HTS HCT HM hcs hcz ct
           go_upto_region 31 with fail
           iterate 17 go_step
           refine wp_put_part (l := (oppZ.v (.slice none 0 0)).toList) rfl HCs.out rfl rfl HCz.out info_op (show (oppZ.v (.slice none 0 0)).toList.toArray.all (·.oneCell') = true from by rw [Array.toArray_toList]; exact ov_one ⟨oppZ, none, 0⟩) ?_
           obtain ⟨wz, Hwz⟩ : ∃ z, Hid (z = putC wr yb (k * 21) (oppZ.v (.slice none 0 0)).toList) := ⟨_, rfl⟩
           rw [← Hwz.out] at HM2 ⊢
           clear Hwz HCs HCz c1
           go_wp2
           go_roundw
           case rel => exact ⟨k + 1, by omega, by go_num, HM2.out.mq⟩
           case measure => simp [intOf]; omega
        ·have HI9 : Hid (RI w wr jb first (.slice fa pl fc) fs (.slice ha pl hcp) hs ps) := HFin.out wr HM.out.frm
         have x0 := HXw.out wr HM.out.frm
         clear HFin HXw HYw HM
         go_wp2_with fail
         refine (HLast.out wr HI9.out.j.blk).mono ?_
         rintro e9 wz ⟨rfl, mz, hmz⟩
         have HIz : Hid (RI w wz jb first (.slice fa pl fc) fs (.slice ha pl hcp) hs ps) := HI9.out.below (by rw [hmz]; exact below_draws _ _)
         clear hmz HI9 x0
         go_wp2
         go_roundw
         case rel => exact ⟨q + 1, _, _, fs, hs, ps, rfl, by omega, by go_num, (by rw [← Hpl.out]; first | done | rw [hmx]), (by show _ ≤ _; have := HQ.out; omega), HIz⟩
         case measure => simp [intOf]; omega
      ·have ht2 : first + pl + 1 ≤ 18446744073709551615 := by omega
       have hn2 : (e.i != first + pl + 1) = true := by simp [hnx]
       go_wp2_with fail
       refine HAp.out.mono ?_
       clear HAp z0 z1 z2 u0 u1
       rintro e9 w9 ⟨rfl, hb9⟩
       have HI9 : Hid (RI w w9 jb first (.slice fa pl fc) fs (.slice ha pl hcp) hs ps) := HI8.out.below hb9
       have HX9 : Hid (Blk w9 g5 #[.int .i64 0, .int .u64 e.i, .slice e.a en e.c, .int .u64 ix] 33) := HX8.out.below hb9
       have HY9 : Hid (Blk w9 g7 #[.int .u64 e.i, .slice a6 kn c6] 31) := HY8.out.below hb9
       have HW9 : Hid (OwnO w9 M (.slice a6 l6.length c6) l6) := HW8.out.below hb9
       clear HI8 HX8 HY8 HW8 hb9
       have z1 : w9.cell? ⟨g5, 1, none⟩ = some (.int .u64 e.i) := HX9.out.cell 1 rfl
       have z2 : w9.cell? ⟨g5, 2, none⟩ = some (.slice e.a en e.c) := HX9.out.cell 2 rfl
       have u0 : w9.cell? ⟨g7, 0, none⟩ = some (.int .u64 e.i) := HY9.out.cell 0 rfl
       have u1 : w9.cell? ⟨g7, 1, none⟩ = some (.slice a6 kn c6) := HY9.out.cell 1 rfl
       go_wp2_with fail
       refine (HSm.out w9 HI9.out.bl HW9.out.at).mono ?_
       clear z1 z2 u0 u1
       rintro e9 W0 ⟨rfl, hb0⟩
       have HIs : Hid (RI w W0 jb first (.slice fa pl fc) fs (.slice ha pl hcp) hs ps) := HI9.out.below hb0
       have HXs : Hid (Blk W0 g5 #[.int .i64 0, .int .u64 e.i, .slice e.a en e.c, .int .u64 ix] 33) := HX9.out.below hb0
       have HYs : Hid (Blk W0 g7 #[.int .u64 e.i, .slice a6 kn c6] 31) := HY9.out.below hb0
       have HWs : Hid (OwnO W0 M (.slice a6 l6.length c6) l6) := HW9.out.below hb0
       have HHs : Hid (∀ y ∈ hs, LtO M (.slice y.a y.l.length y.c) y.l ∨ OwnO W0 M' (.slice y.a y.l.length y.c) y.l) := fun y hy => .inl (HHl.out y hy)
       clear hb0 HX9 HY9 HW9
       clear HI9
       obtain ⟨S, HSs⟩ : ∃ z, Hid (z = WrS W0 M M') := ⟨_, rfl⟩
       have HT : Hid (Tys W0 S (fun t => t = 47 ∨ t = 9)) := by rw [HSs.out]; exact wrS_tys _ _ _
       have HMq : Hid (Mq W0 W0 S a6 kn) := by rw [HSs.out, Hkn.out]; exact Mq.ofOwn HWs.out HLt6.out
       have HYw : Hid (∀ W : World, Frm S W0 W → W.cell? ⟨g7, 1, none⟩ = some (.slice a6 kn c6)) := fun W hW => (HT.out.blk hW HYs.out (by decide)).cell 1 rfl
       have HXw : Hid (∀ W : World, Frm S W0 W → W.cell? ⟨g5, 0, none⟩ = some (.int .i64 0)) := fun W hW => (HT.out.blk hW HXs.out (by decide)).cell 0 rfl
       have HFin : Hid (∀ W : World, Frm S W0 W → RI w W jb first (.slice fa pl fc) fs (.slice ha pl hcp) hs ps) := fun W hW => HIs.out.spoil HMs.out.1 (by rw [← HSs.out]; exact hW) HHs.out HMs.out.2
       clear HSs HIs HHs HWs HXs HYs HLt6 HHl HSm HCp
       have c1 := HYw.out W0 (Frm.refl _ _)
       go_wp2
       clear c1
       go_loopw [79] (fun i wm => ∃ k : Nat, k ≤ kn ∧ i = .int .i64 k ∧ Hid (Mq W0 wm S a6 kn)) (fun i _ => kn - (intOf i).toNat)
       case atStart => exact ⟨0, Nat.zero_le _, rfl, HMq⟩
       case round =>
        obtain ⟨k, hk, rfl, HM⟩ := hrel
        clear HMq
        by_cases hkl : k < kn
        ·obtain ⟨yb, rfl, hshp⟩ := HM.out.shp (by omega)
         have HMk : Hid (Mk W0 wr S yb kn) := ⟨hshp, HM.out.frm⟩
         obtain ⟨ta, tn, tc, ct, hts⟩ := hshp.tag hkl
         have c1 := HYw.out wr HM.out.frm
         have HTS : Hid (TagS wr S ta tn) := hts
         have HCT : Hid (wr.cell? ⟨yb, k * 21 + 9, none⟩ = some (.slice ta tn tc)) := ct
         clear hts hshp HM
         go_wp2
         clear c1 ct
         go_loopw [90] (fun i wt => ∃ t : Nat, t ≤ tn ∧ i = .int .i64 t ∧ Hid (Mk W0 wt S yb kn) ∧ Hid (wt.cell? ⟨yb, k * 21 + 9, none⟩ = some (.slice ta tn tc)) ∧ Hid (TagS wt S ta tn)) (fun i _ => tn - (intOf i).toNat)
         case atStart => exact ⟨0, Nat.zero_le _, rfl, HMk, HCT, HTS⟩
         case round =>
          clear HMk HCT HTS
          obtain ⟨t, ht, rfl, HM, HCT, HTS⟩ := hrel
          have c1 := HYw.out _ HM.out.frm
          have ct := HCT.out
          by_cases htl : t < tn
          ·obtain ⟨g, ts, rfl, hsg, hbg, hts, hmx2⟩ := HTS.out.resolve_left (by omega)
           obtain ⟨cv, cg⟩ : ∃ cv, wr.cell? ⟨g, t, none⟩ = some cv := ⟨_, hbg.cell t (Array.getElem?_eq_getElem (by omega))⟩
           have fg := hbg.open t
           have HM2 : Hid (Mk W0 (wr.setCell ⟨g, t, none⟩ (.string ⟨#[115, 112, 111, 105, 108, 116]⟩)) S yb kn) := HM.out.tag hsg hbg _
           have HC2 : Hid (World.cell? (wr.setCell ⟨g, t, none⟩ (.string ⟨#[115, 112, 111, 105, 108, 116]⟩)) ⟨yb, k * 21 + 9, none⟩ = some (.slice (some ⟨g, 0, none⟩) tn tc)) := by
            show _ = _
            obtain ⟨cs, hcs, _, _⟩ := HM.out.shp.blk
            rw [World.cell?_setCell_other _ _ _ _ (fun e => by
             injection e with e
             subst e
             have := blk_type hbg hcs
             revert this
             decide)]
            exact ct
           have HT2 : Hid (TagS (wr.setCell ⟨g, t, none⟩ (.string ⟨#[115, 112, 111, 105, 108, 116]⟩)) S (some ⟨g, 0, none⟩) tn) := HTS.out.setTag hbg _
           clear hbg hts hsg HTS HM HCT
           go_wp2
           go_roundw
           case rel => exact ⟨t + 1, by omega, by go_num, HM2, HC2, HT2⟩
           case measure => simp [intOf]; omega
          ·obtain ⟨cs, hcs, hcz, _⟩ := HM.out.shp.blk
           have HCs : Hid (Blk wr yb cs 47) := hcs
           have HCz : Hid (k * 21 + (oppZ.v (.slice none 0 0)).toList.length ≤ cs.size) := by
            show _ ≤ _
            have h21 : (oppZ.v (.slice none 0 0)).toList.length = 21 := rfl
            rw [h21]
            omega
           have HM2 : Hid (Mk W0 (putC wr yb (k * 21) (oppZ.v (.slice none 0 0)).toList) S yb kn) := HM.out.zero k
           clear HTS HCT HM hcs hcz ct
           go_upto_region 31 with fail
           iterate 17 go_step
           refine wp_put_part (l := (oppZ.v (.slice none 0 0)).toList) rfl HCs.out rfl rfl HCz.out info_op (show (oppZ.v (.slice none 0 0)).toList.toArray.all (·.oneCell') = true from by rw [Array.toArray_toList]; exact ov_one ⟨oppZ, none, 0⟩) ?_
           obtain ⟨wz, Hwz⟩ : ∃ z, Hid (z = putC wr yb (k * 21) (oppZ.v (.slice none 0 0)).toList) := ⟨_, rfl⟩
           rw [← Hwz.out] at HM2 ⊢
           clear Hwz HCs HCz c1
           go_wp2
           go_roundw
           case rel => exact ⟨k + 1, by omega, by go_num, HM2.out.mq⟩
           case measure => simp [intOf]; omega
        ·have HI9 : Hid (RI w wr jb first (.slice fa pl fc) fs (.slice ha pl hcp) hs ps) := HFin.out wr HM.out.frm
         have x0 := HXw.out wr HM.out.frm
         clear HFin HXw HYw HM
         go_wp2_with fail
         refine (HLast.out wr HI9.out.j.blk).mono ?_
         rintro e9 wz ⟨rfl, mz, hmz⟩
         have HIz : Hid (RI w wz jb first (.slice fa pl fc) fs (.slice ha pl hcp) hs ps) := HI9.out.below (by rw [hmz]; exact below_draws _ _)
         clear hmz HI9 x0
         go_wp2
         go_roundw
         case rel => exact ⟨q + 1, _, _, fs, hs, ps, rfl, by omega, by go_num, (by rw [← Hpl.out]; first | done | rw [hmx]), (by show _ ≤ _; have := HQ.out; omega), HIz⟩
         case measure => simp [intOf]; omega
   ·have y3 : w5.cell? ⟨g5, 3, none⟩ = some (.int .u64 ix) := HX5.out.cell 3 rfl
    by_cases hk1 : kd = 1
    ·subst hk1
     have HC := HSin.out _ ix HXi.out.1 HXi.out.2 HI5.out
     clear hk0
     go_wp2_with fail
     refine HC.mono ?_
     clear HC
     rintro e9 w6 ⟨rfl, hb6⟩
     have HI6 : Hid (RI w w6 jb first (.slice fa pl fc) fs (.slice ha pl hcp) hs ps) := HI5.out.below hb6
     clear hb6 HI5 HX5 y0 y3
     go_wp2_with fail
     refine (HLast.out w6 HI6.out.j.blk).mono ?_
     rintro e9 w7 ⟨rfl, m7, hm7⟩
     have HI7 : Hid (RI w w7 jb first (.slice fa pl fc) fs (.slice ha pl hcp) hs ps) := HI6.out.below (by rw [hm7]; exact below_draws _ _)
     clear hm7 HI6
     go_wp2
     go_roundw
     case rel => exact ⟨q + 1, _, _, fs, hs, ps, rfl, by omega, by go_num, by rw [← Hpl.out], by show _ ≤ _; have := HQ.out; omega, HI7⟩
     case measure => simp [intOf]; omega
    ·go_wp2_with fail
     refine (HLast.out w5 HI5.out.j.blk).mono ?_
     rintro e9 w7 ⟨rfl, m7, hm7⟩
     have HI7 : Hid (RI w w7 jb first (.slice fa pl fc) fs (.slice ha pl hcp) hs ps) := HI5.out.below (by rw [hm7]; exact below_draws _ _)
     clear hm7 HI5
     go_wp2
     go_roundw
     case rel => exact ⟨q + 1, _, _, fs, hs, ps, rfl, by omega, by go_num, by rw [← Hpl.out], by show _ ≤ _; have := HQ.out; omega, HI7⟩
     case measure => simp [intOf]; omega
  ·have HC := HSin.out _ 0 (by omega) (by omega) HI.out
   have HBL : Hid (Below w.heap.size w _) := HI.out.bl
   clear HI HLast HSin
   go_wp2_with fail
   refine HC.mono ?_
   clear HC
   rintro e w9 ⟨rfl, hb9⟩
   have HB9 : Hid (Below w.heap.size w w9) := HBL.out.trans (hb9.mono HBL.out.size)
   clear hb9 HBL
   go_wp2
   go_ret
   exact ⟨rfl, HB9.out⟩
end Go.Proofs.YthgcnmilaifkoaaGreatDoor
