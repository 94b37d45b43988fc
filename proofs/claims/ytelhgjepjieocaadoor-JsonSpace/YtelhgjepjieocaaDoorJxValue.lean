/- Layer 18 (json): bareValue, value: every value is read so. -/
import Derived.Test.YtelhgjepjieocaaDoorJxWhole
namespace Go.Proofs.YtelhgjepjieocaaDoor
open Go.RowKit Go.Sort
set_option linter.unusedVariables false

theorem frm_put (w : World) (g : Nat) (vs : List Value) : Frm (fun k => k = g) w (putC w g 0 vs) := ⟨rfl_os _ _ _, rfl_tape _ _ _, rfl_out _ _ _, by rw [putC_size]; exact Nat.le_refl _, fun k hk hn => putC_blk hn _ _ _⟩
theorem plv_vlr {w w' : World} {rb : Nat} {s : ByteArray} {o : Option (Int × Int × List UInt8)} {e : Ending} (h : PlV w rb s o e w') : VlR w rb s (plR o) e w' := by
  cases o with
  | none =>
    obtain ⟨h1, l, ⟨n, h2⟩, h3⟩ := h
    exact ⟨h3, ⟨0, h1⟩, .inl rfl, l, n, h2⟩
  | some p =>
    obtain ⟨k, m, r⟩ := p
    obtain ⟨h1, h2, h3⟩ := h
    refine ⟨h3, _, fun _ => False, h1, h2, ?_, fun k hk => hk.elim⟩
    unfold JAt
    refine ⟨none, 0, none, 0, rfl, VAt.nil _ _, fun a e _ => (by cases e), fun a e _ => (by cases e), ?_⟩
    unfold ItAt
    trivial
theorem getD_ne {l : List UInt8} {c : Nat} (h : ¬ hdN l = some c) (hc : c ≠ 0) : (((hdN l).getD 0 : Nat) : Int) ≠ (c : Int) := by
  intro e
  have e' : (hdN l).getD 0 = c := by omega
  cases l with
  | nil => exact hc e'.symm
  | cons x l => exact h (by show some x.toNat = _; rw [show x.toNat = c from e'])
set_option maxRecDepth 100000 in
set_option maxHeartbeats 8000000 in
theorem bareValue_calls (w0 : World) (K0 : Nat) (s : ByteArray) (IH : VSpec w0 s K0) (w : World) (rb n d : Nat) (l : List UInt8) (hb : Bs w0 w rb) (h : Rd w rb s n l) (hk : 2 * l.length + 1 ≤ K0 + 1) (hd : d ≤ 16) :
    Calls Tryd.prog 43 #[.pointer (some ⟨rb, 0, none⟩), .int .i64 (d : Int)] w (VlR w rb s (bareF (K0 + 1) d l)) := by
  have hrb := lt_of_heapT h.blk
  have HIH : Hid (VSpec w0 s K0) := IH
  have HBs : Hid (Bs w0 w rb) := hb
  obtain ⟨Q, HQ⟩ : ∃ Q, Hid (Q = bareF (K0 + 1) d l) := ⟨_, rfl⟩
  rw [← HQ.out]
  obtain ⟨w1, Hw1⟩ : ∃ w1, Hid (w1 = w.alloc (.cells jZ 26)) := ⟨_, rfl⟩
  obtain ⟨gr, Hg⟩ : ∃ gr, Hid (gr = w.heap.size) := ⟨_, rfl⟩
  have HB1 : Hid (Blk w1 gr jZ 26) := by rw [Hid, Hw1.out, Hg.out]; exact Blk.new _ _ _
  have HF1 : Hid (Frm (fun k => k = rb) w w1) := by rw [Hid, Hw1.out]; exact Frm.ofBelow (below_new _ _) _
  have HR1 : Hid (Rd w1 rb s n l) := by rw [Hid, Hw1.out]; exact h.below (below_new _ _)
  have hgr : w.heap.size ≤ gr := by rw [Hg.out]; exact Nat.le_refl _
  have hrg : rb ≠ gr := by omega
  have HNX := next_calls w1 rb n s l HR1.out
  have HKK : Hid (2 * l.length + 1 ≤ K0 + 1 ∧ d ≤ 16) := ⟨hk, hd⟩
  clear h hb IH hk hd
  unfold jZ jC at Hw1
  go_enter Tryd.func43, Tryd.ntmps43
  go_upto_region 1 with fail
  rw [← Hw1.out, ← Hg.out]
  clear Hw1 Hg
  go_wp2_with fail
  refine HNX.mono ?_
  clear HNX
  rintro e wd ⟨rfl, kd, rfl⟩
  have HB : Hid (Blk (w1.drewN kd) gr jZ 26) := HB1.out.below (below_drawsT _ _)
  have HF : Hid (Frm (fun k => k = rb) w (w1.drewN kd)) := HF1.out.trans (Frm.ofDraws _ _ _)
  have HRd : Hid (Rd (w1.drewN kd) rb s n l) := HR1.out.below (below_drawsT _ _)
  obtain ⟨wa, Hwa⟩ : ∃ wa, Hid (wa = w1.drewN kd) := ⟨_, rfl⟩
  rw [← Hwa.out] at HB HF HRd ⊢
  clear Hwa HB1 HF1 HR1
  have HBa : Hid (Bs w0 wa rb) := HBs.out.frm HF.out
  unfold bareF at HQ
  obtain ⟨x, Hx⟩ : ∃ x, Hid (x = (hdN l).getD 0) := ⟨_, rfl⟩
  rw [← Hx.out]
  by_cases h91 : hdN l = some 91
  · have hl : 0 < l.length := by
      cases l with
      | nil => cases h91
      | cons x l => simp
    have HE : Hid (Q = whR K0 5 93 d l) := by rw [Hid, HQ.out, if_pos h91]; rfl
    have HC := whole5_calls w0 K0 s HIH.out wa rb n d l HBa.out HRd.out hl HKK.out.1 HKK.out.2
    obtain rfl : x = 91 := by rw [Hx.out, h91]; rfl
    clear HQ HIH HKK h91 hl HBs HBa HRd Hx
    cases hr : whR K0 5 93 d l with
    | error c =>
      rw [hr] at HC
      have HE2 : Hid (Q = .error c) := by rw [Hid, HE.out, hr]
      clear hr
      go_wp2_with fail
      refine HC.mono ?_
      clear HC
      rintro e w2 ⟨f2, ⟨kk, rfl⟩, hcm, hr2⟩
      have HR2 : Hid (∃ l n, Rd w2 rb s n l) := hr2
      have HF2 : Hid (Frm (fun k => k = rb) w w2) := HF.out.trans f2
      have HB2 : Hid (Blk w2 gr jZ 26) := HB.out.rd f2 (by omega)
      clear f2 hr2
      obtain ⟨y0, y1, y2, y3, y4, z0, z1, z2, z3, z4⟩ := Blk.five HB2.out
      unfold jC
      go_wp2
      change bodyPost _ _ _ _ _ (putC w2 gr 0 [.int .i64 kk, .int .i64 0, .string ⟨#[]⟩, .slice none 0 0, .slice none 0 0])
      refine ret_cellE rfl rfl rfl rfl (load_js (putC_all HB2.out rfl) rfl) ?_
      rw [HE2.out]
      exact ⟨HF2.out.put _ _ 0 hgr, ⟨kk, rfl⟩, hcm, by
        obtain ⟨l9, n9, h9⟩ := HR2.out
        exact ⟨l9, n9, h9.put hrg _⟩⟩
    | ok p =>
      obtain ⟨v, r⟩ := p
      rw [hr] at HC
      have HE2 : Hid (Q = .ok (v, r)) := by rw [Hid, HE.out, hr]
      clear hr
      have hgl := HB.out.lt
      have hwl := HF.out.size
      go_wp2_with fail
      refine HC.mono ?_
      clear HC
      rintro e w2 ⟨f2, cs, S, rfl, ⟨n2, h2⟩, hj2, hs2⟩
      obtain ⟨xk, xn, xt, xa, xl, xc, ya, yl, yc, hcs⟩ := JAt.cs hj2
      subst hcs
      have HF2 : Hid (Frm (fun k => k = rb) w w2) := HF.out.trans f2
      have HB2 : Hid (Blk w2 gr jZ 26) := HB.out.rd f2 (by omega)
      have HZ : Hid (JAt (putC w2 gr 0 [.int .i64 xk, .int .i64 xn, .string xt, .slice xa xl xc, .slice ya yl yc]) S v #[.int .i64 xk, .int .i64 xn, .string xt, .slice xa xl xc, .slice ya yl yc] ∧ (∀ k, S k → w.heap.size ≤ k ∧ k < w2.heap.size) ∧ Rd w2 rb s n2 r) :=
        ⟨JAt.frm (frm_put w2 gr _) (fun k hk e => by have := (hs2 k hk).1; omega) _ _ hj2, fun k hk => by have := hs2 k hk; omega, h2⟩
      clear f2 h2 hj2 hs2 hgl hwl
      obtain ⟨y0, y1, y2, y3, y4, z0, z1, z2, z3, z4⟩ := Blk.five HB2.out
      go_wp2
      change bodyPost _ _ _ _ _ (putC w2 gr 0 [.int .i64 xk, .int .i64 xn, .string xt, .slice xa xl xc, .slice ya yl yc])
      refine ret_cellE rfl rfl rfl rfl (load_js (putC_all HB2.out rfl) rfl) ?_
      rw [HE2.out]
      exact ⟨HF2.out.put _ _ 0 hgr, _, S, rfl, ⟨n2, HZ.out.2.2.put hrg _⟩, HZ.out.1, fun k hk => by rw [putC_size]; exact HZ.out.2.1 k hk⟩
  · have q91 : ((x : Int) == 91) = false := by have := getD_ne h91 (by decide); rw [← Hx.out] at this; simpa using this
    rw [if_neg h91] at HQ
    by_cases h123 : hdN l = some 123
    · have hl : 0 < l.length := by
        cases l with
        | nil => cases h123
        | cons x l => simp
      have HE : Hid (Q = whR K0 6 125 d l) := by rw [Hid, HQ.out, if_pos h123]; rfl
      have HC := whole6_calls w0 K0 s HIH.out wa rb n d l HBa.out HRd.out hl HKK.out.1 HKK.out.2
      obtain rfl : x = 123 := by rw [Hx.out, h123]; rfl
      clear HQ HIH HKK h91 h123 hl HBs HBa HRd Hx q91
      cases hr : whR K0 6 125 d l with
      | error c =>
        rw [hr] at HC
        have HE2 : Hid (Q = .error c) := by rw [Hid, HE.out, hr]
        clear hr
        go_wp2_with fail
        refine HC.mono ?_
        clear HC
        rintro e w2 ⟨f2, ⟨kk, rfl⟩, hcm, hr2⟩
        have HR2 : Hid (∃ l n, Rd w2 rb s n l) := hr2
        have HF2 : Hid (Frm (fun k => k = rb) w w2) := HF.out.trans f2
        have HB2 : Hid (Blk w2 gr jZ 26) := HB.out.rd f2 (by omega)
        clear f2 hr2
        obtain ⟨y0, y1, y2, y3, y4, z0, z1, z2, z3, z4⟩ := Blk.five HB2.out
        unfold jC
        go_wp2
        change bodyPost _ _ _ _ _ (putC w2 gr 0 [.int .i64 kk, .int .i64 0, .string ⟨#[]⟩, .slice none 0 0, .slice none 0 0])
        refine ret_cellE rfl rfl rfl rfl (load_js (putC_all HB2.out rfl) rfl) ?_
        rw [HE2.out]
        exact ⟨HF2.out.put _ _ 0 hgr, ⟨kk, rfl⟩, hcm, by
          obtain ⟨l9, n9, h9⟩ := HR2.out
          exact ⟨l9, n9, h9.put hrg _⟩⟩
      | ok p =>
        obtain ⟨v, r⟩ := p
        rw [hr] at HC
        have HE2 : Hid (Q = .ok (v, r)) := by rw [Hid, HE.out, hr]
        clear hr
        have hgl := HB.out.lt
        have hwl := HF.out.size
        go_wp2_with fail
        refine HC.mono ?_
        clear HC
        rintro e w2 ⟨f2, cs, S, rfl, ⟨n2, h2⟩, hj2, hs2⟩
        obtain ⟨xk, xn, xt, xa, xl, xc, ya, yl, yc, hcs⟩ := JAt.cs hj2
        subst hcs
        have HF2 : Hid (Frm (fun k => k = rb) w w2) := HF.out.trans f2
        have HB2 : Hid (Blk w2 gr jZ 26) := HB.out.rd f2 (by omega)
        have HZ : Hid (JAt (putC w2 gr 0 [.int .i64 xk, .int .i64 xn, .string xt, .slice xa xl xc, .slice ya yl yc]) S v #[.int .i64 xk, .int .i64 xn, .string xt, .slice xa xl xc, .slice ya yl yc] ∧ (∀ k, S k → w.heap.size ≤ k ∧ k < w2.heap.size) ∧ Rd w2 rb s n2 r) :=
          ⟨JAt.frm (frm_put w2 gr _) (fun k hk e => by have := (hs2 k hk).1; omega) _ _ hj2, fun k hk => by have := hs2 k hk; omega, h2⟩
        clear f2 h2 hj2 hs2 hgl hwl
        obtain ⟨y0, y1, y2, y3, y4, z0, z1, z2, z3, z4⟩ := Blk.five HB2.out
        go_wp2
        change bodyPost _ _ _ _ _ (putC w2 gr 0 [.int .i64 xk, .int .i64 xn, .string xt, .slice xa xl xc, .slice ya yl yc])
        refine ret_cellE rfl rfl rfl rfl (load_js (putC_all HB2.out rfl) rfl) ?_
        rw [HE2.out]
        exact ⟨HF2.out.put _ _ 0 hgr, _, S, rfl, ⟨n2, HZ.out.2.2.put hrg _⟩, HZ.out.1, fun k hk => by rw [putC_size]; exact HZ.out.2.1 k hk⟩
    · have q123 : ((x : Int) == 123) = false := by have := getD_ne h123 (by decide); rw [← Hx.out] at this; simpa using this
      rw [if_neg h123] at HQ
      by_cases h34 : hdN l = some 34
      · have HE : Hid (Q = txR (textP l)) := by rw [Hid, HQ.out, if_pos h34]
        have HC := characters_calls w0 wa rb n s l HBa.out HRd.out
        obtain rfl : x = 34 := by rw [Hx.out, h34]; rfl
        clear HQ HIH HKK h91 h123 h34 HBs HBa HRd Hx q91 q123
        cases hr : textP l with
        | none =>
          rw [hr] at HC
          have HE2 : Hid (Q = .error 181) := by rw [Hid, HE.out, hr]; rfl
          clear hr
          go_wp2_with fail
          refine HC.mono ?_
          clear HC
          rintro e w2 ⟨rfl, l2, ⟨n2, h2⟩, f2⟩
          have HR2 : Hid (Rd w2 rb s n2 l2) := h2
          have HF2 : Hid (Frm (fun k => k = rb) w w2) := HF.out.trans f2
          have HB2 : Hid (Blk w2 gr jZ 26) := HB.out.rd f2 (by omega)
          clear f2 h2
          obtain ⟨y0, y1, y2, y3, y4, z0, z1, z2, z3, z4⟩ := Blk.five HB2.out
          go_wp2
          change bodyPost _ _ _ _ _ (putC w2 gr 0 [.int .i64 4, .int .i64 0, .string ⟨#[]⟩, .slice none 0 0, .slice none 0 0])
          refine ret_cellE rfl rfl rfl rfl (load_js (putC_all HB2.out rfl) rfl) ?_
          rw [HE2.out]
          exact ⟨HF2.out.put _ _ 0 hgr, ⟨4, rfl⟩, .inl rfl, l2, n2, HR2.out.put hrg _⟩
        | some p =>
          obtain ⟨t, r⟩ := p
          rw [hr] at HC
          have HE2 : Hid (Q = .ok (.mk 4 0 t [] [], r)) := by rw [Hid, HE.out, hr]; rfl
          clear hr
          go_wp2_with fail
          refine HC.mono ?_
          clear HC
          rintro e w2 ⟨rfl, ⟨n2, h2⟩, f2⟩
          have HR2 : Hid (Rd w2 rb s n2 r) := h2
          have HF2 : Hid (Frm (fun k => k = rb) w w2) := HF.out.trans f2
          have HB2 : Hid (Blk w2 gr jZ 26) := HB.out.rd f2 (by omega)
          clear f2 h2
          obtain ⟨y0, y1, y2, y3, y4, z0, z1, z2, z3, z4⟩ := Blk.five HB2.out
          go_wp2
          change bodyPost _ _ _ _ _ (putC w2 gr 0 [.int .i64 4, .int .i64 0, .string ⟨t.toArray⟩, .slice none 0 0, .slice none 0 0])
          refine ret_cellE rfl rfl rfl rfl (load_js (putC_all HB2.out rfl) rfl) ?_
          rw [HE2.out]
          refine ⟨HF2.out.put _ _ 0 hgr, _, fun _ => False, rfl, ⟨n2, HR2.out.put hrg _⟩, ?_, fun k hk => hk.elim⟩
          unfold JAt
          refine ⟨none, 0, none, 0, rfl, VAt.nil _ _, fun a e _ => (by cases e), fun a e _ => (by cases e), ?_⟩
          unfold ItAt
          trivial
      · have q34 : ((x : Int) == 34) = false := by have := getD_ne h34 (by decide); rw [← Hx.out] at this; simpa using this
        rw [if_neg h34] at HQ
        have HNu := plv_vlr (e := .returned (.tuple #[])) (w := w) (w' := w) (rb := rb) (s := s) (o := none)
        clear HNu
        have HDG := isDigit_calls wa x
        by_cases h45 : hdN l = some 45
        · have HE : Hid (Q = plR (numP l)) := by rw [Hid, HQ.out, if_pos (.inl h45)]
          have HC := (number_calls w0 wa rb n s l HBa.out HRd.out).mono fun e w' h => plv_vlr h
          obtain rfl : x = 45 := by rw [Hx.out, h45]; rfl
          clear HQ HIH HKK h91 h123 h34 h45 HBs HBa HRd Hx q91 q123 q34 HDG
          cases hr : plR (numP l) with
          | error c =>
            rw [hr] at HC
            have HE2 : Hid (Q = .error c) := by rw [Hid, HE.out, hr]
            clear hr
            go_wp2_with fail
            refine HC.mono ?_
            clear HC
            rintro e w2 ⟨f2, ⟨kk, rfl⟩, hcm, hr2⟩
            have HR2 : Hid (∃ l n, Rd w2 rb s n l) := hr2
            have HF2 : Hid (Frm (fun k => k = rb) w w2) := HF.out.trans f2
            have HB2 : Hid (Blk w2 gr jZ 26) := HB.out.rd f2 (by omega)
            clear f2 hr2
            obtain ⟨y0, y1, y2, y3, y4, z0, z1, z2, z3, z4⟩ := Blk.five HB2.out
            unfold jC
            go_wp2
            change bodyPost _ _ _ _ _ (putC w2 gr 0 [.int .i64 kk, .int .i64 0, .string ⟨#[]⟩, .slice none 0 0, .slice none 0 0])
            refine ret_cellE rfl rfl rfl rfl (load_js (putC_all HB2.out rfl) rfl) ?_
            rw [HE2.out]
            exact ⟨HF2.out.put _ _ 0 hgr, ⟨kk, rfl⟩, hcm, by
              obtain ⟨l9, n9, h9⟩ := HR2.out
              exact ⟨l9, n9, h9.put hrg _⟩⟩
          | ok p =>
            obtain ⟨v, r⟩ := p
            rw [hr] at HC
            have HE2 : Hid (Q = .ok (v, r)) := by rw [Hid, HE.out, hr]
            clear hr
            have hgl := HB.out.lt
            have hwl := HF.out.size
            go_wp2_with fail
            refine HC.mono ?_
            clear HC
            rintro e w2 ⟨f2, cs, S, rfl, ⟨n2, h2⟩, hj2, hs2⟩
            obtain ⟨xk, xn, xt, xa, xl, xc, ya, yl, yc, hcs⟩ := JAt.cs hj2
            subst hcs
            have HF2 : Hid (Frm (fun k => k = rb) w w2) := HF.out.trans f2
            have HB2 : Hid (Blk w2 gr jZ 26) := HB.out.rd f2 (by omega)
            have HZ : Hid (JAt (putC w2 gr 0 [.int .i64 xk, .int .i64 xn, .string xt, .slice xa xl xc, .slice ya yl yc]) S v #[.int .i64 xk, .int .i64 xn, .string xt, .slice xa xl xc, .slice ya yl yc] ∧ (∀ k, S k → w.heap.size ≤ k ∧ k < w2.heap.size) ∧ Rd w2 rb s n2 r) :=
              ⟨JAt.frm (frm_put w2 gr _) (fun k hk e => by have := (hs2 k hk).1; omega) _ _ hj2, fun k hk => by have := hs2 k hk; omega, h2⟩
            clear f2 h2 hj2 hs2 hgl hwl
            obtain ⟨y0, y1, y2, y3, y4, z0, z1, z2, z3, z4⟩ := Blk.five HB2.out
            go_wp2
            change bodyPost _ _ _ _ _ (putC w2 gr 0 [.int .i64 xk, .int .i64 xn, .string xt, .slice xa xl xc, .slice ya yl yc])
            refine ret_cellE rfl rfl rfl rfl (load_js (putC_all HB2.out rfl) rfl) ?_
            rw [HE2.out]
            exact ⟨HF2.out.put _ _ 0 hgr, _, S, rfl, ⟨n2, HZ.out.2.2.put hrg _⟩, HZ.out.1, fun k hk => by rw [putC_size]; exact HZ.out.2.1 k hk⟩
        · have q45 : ((x : Int) == 45) = false := by have := getD_ne h45 (by decide); rw [← Hx.out] at this; simpa using this
          by_cases hdg : dgN x = true
          · have HE : Hid (Q = plR (numP l)) := by rw [Hid, HQ.out, if_pos (.inr (by rw [← Hx.out]; exact hdg))]
            have HC := (number_calls w0 wa rb n s l HBa.out HRd.out).mono fun e w' h => plv_vlr h
            rw [hdg] at HDG
            clear HQ HIH HKK h91 h123 h34 h45 HBs HBa HRd Hx hdg
            go_wp2_with fail
            refine HDG.mono ?_
            clear HDG
            rintro e wb ⟨rfl, rfl⟩
            cases hr : plR (numP l) with
            | error c =>
              rw [hr] at HC
              have HE2 : Hid (Q = .error c) := by rw [Hid, HE.out, hr]
              clear hr
              go_wp2_with fail
              refine HC.mono ?_
              clear HC
              rintro e w2 ⟨f2, ⟨kk, rfl⟩, hcm, hr2⟩
              have HR2 : Hid (∃ l n, Rd w2 rb s n l) := hr2
              have HF2 : Hid (Frm (fun k => k = rb) w w2) := HF.out.trans f2
              have HB2 : Hid (Blk w2 gr jZ 26) := HB.out.rd f2 (by omega)
              clear f2 hr2
              obtain ⟨y0, y1, y2, y3, y4, z0, z1, z2, z3, z4⟩ := Blk.five HB2.out
              unfold jC
              go_wp2
              change bodyPost _ _ _ _ _ (putC w2 gr 0 [.int .i64 kk, .int .i64 0, .string ⟨#[]⟩, .slice none 0 0, .slice none 0 0])
              refine ret_cellE rfl rfl rfl rfl (load_js (putC_all HB2.out rfl) rfl) ?_
              rw [HE2.out]
              exact ⟨HF2.out.put _ _ 0 hgr, ⟨kk, rfl⟩, hcm, by
                obtain ⟨l9, n9, h9⟩ := HR2.out
                exact ⟨l9, n9, h9.put hrg _⟩⟩
            | ok p =>
              obtain ⟨v, r⟩ := p
              rw [hr] at HC
              have HE2 : Hid (Q = .ok (v, r)) := by rw [Hid, HE.out, hr]
              clear hr
              have hgl := HB.out.lt
              have hwl := HF.out.size
              go_wp2_with fail
              refine HC.mono ?_
              clear HC
              rintro e w2 ⟨f2, cs, S, rfl, ⟨n2, h2⟩, hj2, hs2⟩
              obtain ⟨xk, xn, xt, xa, xl, xc, ya, yl, yc, hcs⟩ := JAt.cs hj2
              subst hcs
              have HF2 : Hid (Frm (fun k => k = rb) w w2) := HF.out.trans f2
              have HB2 : Hid (Blk w2 gr jZ 26) := HB.out.rd f2 (by omega)
              have HZ : Hid (JAt (putC w2 gr 0 [.int .i64 xk, .int .i64 xn, .string xt, .slice xa xl xc, .slice ya yl yc]) S v #[.int .i64 xk, .int .i64 xn, .string xt, .slice xa xl xc, .slice ya yl yc] ∧ (∀ k, S k → w.heap.size ≤ k ∧ k < w2.heap.size) ∧ Rd w2 rb s n2 r) :=
                ⟨JAt.frm (frm_put w2 gr _) (fun k hk e => by have := (hs2 k hk).1; omega) _ _ hj2, fun k hk => by have := hs2 k hk; omega, h2⟩
              clear f2 h2 hj2 hs2 hgl hwl
              obtain ⟨y0, y1, y2, y3, y4, z0, z1, z2, z3, z4⟩ := Blk.five HB2.out
              go_wp2
              change bodyPost _ _ _ _ _ (putC w2 gr 0 [.int .i64 xk, .int .i64 xn, .string xt, .slice xa xl xc, .slice ya yl yc])
              refine ret_cellE rfl rfl rfl rfl (load_js (putC_all HB2.out rfl) rfl) ?_
              rw [HE2.out]
              exact ⟨HF2.out.put _ _ 0 hgr, _, S, rfl, ⟨n2, HZ.out.2.2.put hrg _⟩, HZ.out.1, fun k hk => by rw [putC_size]; exact HZ.out.2.1 k hk⟩
          · have HE : Hid (Q = plR (wordP l)) := by rw [Hid, HQ.out, if_neg (fun h => h.elim h45 (fun h => hdg (by rw [Hx.out]; exact h)))]
            have HC := (word_calls wa rb n s l HRd.out).mono fun e w' h => plv_vlr h
            rw [Bool.eq_false_iff.2 hdg] at HDG
            clear HQ HIH HKK h91 h123 h34 h45 HBs HBa HRd Hx hdg
            go_wp2_with fail
            refine HDG.mono ?_
            clear HDG
            rintro e wb ⟨rfl, rfl⟩
            cases hr : plR (wordP l) with
            | error c =>
              rw [hr] at HC
              have HE2 : Hid (Q = .error c) := by rw [Hid, HE.out, hr]
              clear hr
              go_wp2_with fail
              refine HC.mono ?_
              clear HC
              rintro e w2 ⟨f2, ⟨kk, rfl⟩, hcm, hr2⟩
              have HR2 : Hid (∃ l n, Rd w2 rb s n l) := hr2
              have HF2 : Hid (Frm (fun k => k = rb) w w2) := HF.out.trans f2
              have HB2 : Hid (Blk w2 gr jZ 26) := HB.out.rd f2 (by omega)
              clear f2 hr2
              obtain ⟨y0, y1, y2, y3, y4, z0, z1, z2, z3, z4⟩ := Blk.five HB2.out
              unfold jC
              go_wp2
              change bodyPost _ _ _ _ _ (putC w2 gr 0 [.int .i64 kk, .int .i64 0, .string ⟨#[]⟩, .slice none 0 0, .slice none 0 0])
              refine ret_cellE rfl rfl rfl rfl (load_js (putC_all HB2.out rfl) rfl) ?_
              rw [HE2.out]
              exact ⟨HF2.out.put _ _ 0 hgr, ⟨kk, rfl⟩, hcm, by
                obtain ⟨l9, n9, h9⟩ := HR2.out
                exact ⟨l9, n9, h9.put hrg _⟩⟩
            | ok p =>
              obtain ⟨v, r⟩ := p
              rw [hr] at HC
              have HE2 : Hid (Q = .ok (v, r)) := by rw [Hid, HE.out, hr]
              clear hr
              have hgl := HB.out.lt
              have hwl := HF.out.size
              go_wp2_with fail
              refine HC.mono ?_
              clear HC
              rintro e w2 ⟨f2, cs, S, rfl, ⟨n2, h2⟩, hj2, hs2⟩
              obtain ⟨xk, xn, xt, xa, xl, xc, ya, yl, yc, hcs⟩ := JAt.cs hj2
              subst hcs
              have HF2 : Hid (Frm (fun k => k = rb) w w2) := HF.out.trans f2
              have HB2 : Hid (Blk w2 gr jZ 26) := HB.out.rd f2 (by omega)
              have HZ : Hid (JAt (putC w2 gr 0 [.int .i64 xk, .int .i64 xn, .string xt, .slice xa xl xc, .slice ya yl yc]) S v #[.int .i64 xk, .int .i64 xn, .string xt, .slice xa xl xc, .slice ya yl yc] ∧ (∀ k, S k → w.heap.size ≤ k ∧ k < w2.heap.size) ∧ Rd w2 rb s n2 r) :=
                ⟨JAt.frm (frm_put w2 gr _) (fun k hk e => by have := (hs2 k hk).1; omega) _ _ hj2, fun k hk => by have := hs2 k hk; omega, h2⟩
              clear f2 h2 hj2 hs2 hgl hwl
              obtain ⟨y0, y1, y2, y3, y4, z0, z1, z2, z3, z4⟩ := Blk.five HB2.out
              go_wp2
              change bodyPost _ _ _ _ _ (putC w2 gr 0 [.int .i64 xk, .int .i64 xn, .string xt, .slice xa xl xc, .slice ya yl yc])
              refine ret_cellE rfl rfl rfl rfl (load_js (putC_all HB2.out rfl) rfl) ?_
              rw [HE2.out]
              exact ⟨HF2.out.put _ _ 0 hgr, _, S, rfl, ⟨n2, HZ.out.2.2.put hrg _⟩, HZ.out.1, fun k hk => by rw [putC_size]; exact HZ.out.2.1 k hk⟩
end Go.Proofs.YtelhgjepjieocaaDoor
