/- Layer 7 (rows): the document's Probe. -/
import Derived.Test.YtindefkngcelnaaRwProbe
import Derived.Test.YtindefkngcelnaaRwLowL
import Derived.Test.YtindefkngcelnaaKREncode
namespace Go.Proofs.Ytindefkngcelnaa
open Go.RowKit
set_option linter.unusedVariables false
attribute [local go_sem] Oper.semAt_some

def lowIf (l : Bool) (p : Pt) : Pt := if l then lowPt p else p
def goodP (fs : List Fd) (p : Int) (q : Pt) : Bool := vldB q && (q.k == partK (fs.getD p.toNat noF).k)
def goodL (fs : List Fd) : List Int → List Pt → Bool
  | _, [] => true
  | [], _ :: _ => false
  | p :: ov, q :: ps => goodP fs p q && goodL fs ov ps
theorem goodL_eq (fs : List Fd) : ∀ (ov : List Int) (ps : List Pt), goodL fs ov ps = (kindsB fs ov ps && ps.all vldB)
  | [], [] => rfl
  | p :: ov, [] => rfl
  | [], q :: ps => rfl
  | p :: ov, q :: ps => by
    unfold goodL kindsB
    rw [goodL_eq fs ov ps, List.all_cons]
    unfold goodP
    cases vldB q <;> cases (q.k == partK (fs.getD p.toNat noF).k) <;> cases kindsB fs ov ps <;> cases ps.all vldB <;> rfl
theorem canB_good (fs : List Fd) (ov : List Int) (ps : List Pt) : canB fs ov ps = (decide (ps.length ≤ ov.length) && goodL fs ov ps) := by
  unfold canB
  rw [goodL_eq]
theorem map_lowIf (l : Bool) (ps : List Pt) : (if l then ps.map lowPt else ps) = ps.map (lowIf l) := by
  cases l
  · show ps = _
    rw [show lowIf false = id from rfl, List.map_id]
  · rfl

/-- While the document's Probe gathers its parts. -/
structure PrI (w : World) (t : TV) (x : XV) (xk : Nat) (v : Value) (qs : List Pt) (wr : World) : Prop where
  tab : wr.heap[w.heap.size]? = some (.cells #[.string t.n, t.fv, t.xv] 29)
  bx : wr.heap[xk]? = some (.cells #[.string x.x.n, .slice x.va x.x.ov.length x.vc, .bool x.x.u, .bool x.x.l, .bool x.x.s] 59)
  own : OwnP wr w.heap.size v qs
  be : Below w.heap.size w wr
theorem PrI.below {w : World} {t : TV} {x : XV} {xk : Nat} {v : Value} {qs : List Pt} {wr w' : World} (h : PrI w t x xk v qs wr) (hb : Below wr.heap.size wr w') : PrI w t x xk v qs w' :=
  ⟨(hb.block _ (lt_blk h.tab)).trans h.tab, (hb.block _ (lt_blk h.bx)).trans h.bx, h.own.below hb, h.be.trans (hb.mono h.be.size)⟩
theorem PrI.grew {w : World} {t : TV} {x : XV} {xk : Nat} {v v' : Value} {qs qs' : List Pt} {wr w' : World} (h : PrI w t x xk v qs wr) (ho : OwnP w' w.heap.size v' qs') (hg : Grew wr w' v v') : PrI w t x xk v' qs' w' :=
  ⟨(hg.grown.block _ (lt_blk h.tab) (fun e => row_ne h.own h.tab (by decide) e.symm)).trans h.tab, (hg.grown.block _ (lt_blk h.bx) (fun e => row_ne h.own h.bx (by decide) e.symm)).trans h.bx, ho, h.be.trans (h.own.toBelow h.be.size hg)⟩

set_option maxRecDepth 100000 in
set_option maxHeartbeats 4000000 in
theorem refProbe_calls (t : TV) (p : Int) (pa : Option Addr) (pc : Nat) (ps : List Pt) (op : Bool) (w : World) (hp : -9223372036854775808 ≤ p ∧ p ≤ 9223372036854775807) (hpm : ps.length ≤ 4398046511103) (ht : TRd w t) (hps : PartsAt w pa ps)
    (hsum : ∀ l, (enc op (ps.map (lowIf l))).length ≤ 70368744177664) (hts : ∀ q ∈ ps, q.t.size ≤ 70368744177000) :
    Calls Try.prog 18 #[.agg #[.string t.n, t.fv, t.xv], .int .i64 p, .slice pa ps.length pc, .bool op] w fun e w' => e = .returned (.tuple #[.string ⟨(probeP t.tb p ps op).1.toArray⟩, .int .i64 (probeP t.tb p ps op).2]) ∧ Below w.heap.size w w' := by
  have HTR : Hid (TRd w t) := ht
  have HPS : Hid (PartsAt w pa ps) := hps
  have HSM : Hid ((∀ l, (enc op (ps.map (lowIf l))).length ≤ 70368744177664) ∧ ∀ q ∈ ps, q.t.size ≤ 70368744177000) := ⟨hsum, hts⟩
  have HKP : Hid (probeP t.tb p ps op = if placeB t.tb p = false then ([], 75) else if canB t.tb.fs (t.tb.xs.getD p.toNat noX).ov ps = false then ([], 76) else if (encAns op (if (t.tb.xs.getD p.toNat noX).l then ps.map lowPt else ps)).2 ≠ 0 then ([], 74) else ((encAns op (if (t.tb.xs.getD p.toNat noX).l then ps.map lowPt else ps)).1, 0)) := rfl
  have hxm := ht.ok.xmost
  have hfm := ht.ok.fmost
  have hpb : placeB t.tb p = (decide (0 ≤ p) && decide (p < (t.xs.length : Int))) := by unfold placeB; simp [TV.tb]
  clear ht hps hsum hts
  obtain ⟨tn, fs, fa, fc, xs, xa, xc⟩ := t
  dsimp only [TV.fv, TV.xv] at *
  by_cases hpl : 0 ≤ p ∧ p < (xs.length : Int)
  · have hpt : placeB (TV.mk tn fs fa fc xs xa xc).tb p = true := by rw [hpb, decide_eq_true hpl.1, decide_eq_true hpl.2]; rfl
    rw [if_neg (by rw [hpt]; simp)] at HKP
    obtain ⟨k, rfl⟩ : ∃ k : Nat, p = (k : Int) := ⟨p.toNat, by omega⟩
    have hlt : k < xs.length := by omega
    have hxg : (TV.mk tn fs fa fc xs xa xc).tb.xs.getD ((k : Int).toNat) noX = xs[k].x := by
      rw [show ((k : Int).toNat) = k from rfl, List.getD_eq_getElem?_getD]
      show ((xs.map (·.x))[k]?).getD noX = _
      rw [List.getElem?_map, List.getElem?_eq_getElem hlt]
      rfl
    rw [hxg, map_lowIf, canB_good] at HKP
    clear hxg hpt hpb
    have hxo := HTR.out.ok.xok xs[k] (List.getElem_mem hlt)
    have hom := hxo.most
    have HPL : Hid (∀ p ∈ xs[k].x.ov, 0 ≤ p ∧ p < fs.length) := hxo.place
    obtain ⟨xb, xo, rfl, i0, i1, i2, i3, i4⟩ := HTR.out.xs.idx k hlt
    have HOV : Hid (CellsAt w xs[k].va (ics xs[k].x.ov)) := HTR.out.ov _ (List.getElem_mem hlt)
    have HKQ : Hid (probeP (TV.mk tn fs fa fc xs (some ⟨xb, xo, none⟩) xc).tb (k : Int) ps op = if (decide (ps.length ≤ xs[k].x.ov.length) && goodL fs xs[k].x.ov ps) = false then ([], 76) else if (encAns op (ps.map (lowIf xs[k].x.l))).2 ≠ 0 then ([], 74) else ((encAns op (ps.map (lowIf xs[k].x.l))).1, 0)) := HKP.out
    clear HKP hxo
    have hxbl : xb < w.heap.size := World.block_lt_of_cell? w _ i0
    have q0 : ¬ ((k : Int) < 0) := by omega
    have q1 : ¬ ((xs.length : Int) ≤ (k : Int)) := by omega
    generalize xs[k] = X at *
    go_enter Try.func18, Try.ntmps18
    go_upto_region 4 with fail
    obtain ⟨w4, hw4⟩ : ∃ w4, w4 = (w.alloc (.cells #[.string tn, .slice fa fs.length fc, .slice (some ⟨xb, xo, none⟩) xs.length xc] 29)).alloc (.cells #[.string X.x.n, .slice X.va X.x.ov.length X.vc, .bool X.x.u, .bool X.x.l, .bool X.x.s] 59) := ⟨_, rfl⟩
    rw [← hw4]
    have hb4 : Below w.heap.size w w4 := by rw [hw4]; exact ((Below.refl _ _).alloc (Nat.le_refl _) _).alloc (by simp only [World.size_alloc]; omega) _
    have HT4 : Hid (w4.heap[w.heap.size]? = some (.cells #[.string tn, .slice fa fs.length fc, .slice (some ⟨xb, xo, none⟩) xs.length xc] 29)) := by rw [Hid, hw4]; exact old_blk (new_blk _ _) _
    have HX4 : Hid (w4.heap[w.heap.size + 1]? = some (.cells #[.string X.x.n, .slice X.va X.x.ov.length X.vc, .bool X.x.u, .bool X.x.l, .bool X.x.s] 59)) := by
      rw [Hid, hw4]
      have := new_blk (w.alloc (.cells #[.string tn, .slice fa fs.length fc, .slice (some ⟨xb, xo, none⟩) xs.length xc] 29)) (.cells #[.string X.x.n, .slice X.va X.x.ov.length X.vc, .bool X.x.u, .bool X.x.l, .bool X.x.s] 59)
      rw [World.size_alloc] at this
      exact this
    have HB4 : Hid (Below w.heap.size w w4) := hb4
    have y1 : w4.cell? ⟨w.heap.size + 1, 1, none⟩ = some (.slice X.va X.x.ov.length X.vc) := by rw [cell_blk HX4.out]; rfl
    clear hw4 hb4 i0 i1 i2 i3 i4 q0 q1
    obtain ⟨⟨xn, ov, u, l, s⟩, va, vc⟩ := X
    dsimp only at *
    by_cases hlen : ps.length ≤ ov.length
    · have q2 : ¬ ((ov.length : Int) < (ps.length : Int)) := by omega
      have HKR : Hid (probeP (TV.mk tn fs fa fc xs (some ⟨xb, xo, none⟩) xc).tb (k : Int) ps op = if goodL fs ov ps = false then ([], 76) else if (encAns op (ps.map (lowIf l))).2 ≠ 0 then ([], 74) else ((encAns op (ps.map (lowIf l))).1, 0)) := by rw [Hid, HKQ.out, decide_eq_true hlen, Bool.true_and]
      clear HKQ
      have hp4 : ps.length ≤ 4 := by omega
      have HI4 : Hid (PrI w ⟨tn, fs, fa, fc, xs, some ⟨xb, xo, none⟩, xc⟩ ⟨⟨xn, ov, u, l, s⟩, va, vc⟩ (w.heap.size + 1) (.slice (some ⟨w4.heap.size, 0, none⟩) 0 0) [] (w4.alloc (.cells #[] 65))) :=
        ⟨old_blk HT4.out _, old_blk HX4.out _, OwnP.mono (World.ownsRow_lit (base := w4.heap.size) (e := 65) (size := 3) w4 #[] 0 (Nat.le_refl _) (by unfold maxLen; omega) rfl) HB4.out.size, HB4.out.alloc HB4.out.size _⟩
      go_wp2
      go_loopw [11, 12, 13, 14, 40] (fun v11 a12 a13 a14 i wr => ∃ (j : Nat) (a : Option Addr) (c : Nat), j ≤ ps.length ∧ i = .int .i64 j ∧ v11 = .slice a j c ∧ Hid (goodL fs ov ps = goodL fs (ov.drop j) (ps.drop j)) ∧ Hid (PrI w ⟨tn, fs, fa, fc, xs, some ⟨xb, xo, none⟩, xc⟩ ⟨⟨xn, ov, u, l, s⟩, va, vc⟩ (w.heap.size + 1) (.slice a j c) ((ps.take j).map (lowIf l)) wr)) (fun _ _ _ _ i _ => ps.length - (intOf i).toNat)
      case atStart => exact ⟨0, _, _, Nat.zero_le _, rfl, rfl, rfl, HI4⟩
      case round =>
        obtain ⟨j, a, c, hj, rfl, rfl, HE, HI⟩ := hrel
        clear HI4 y1 HT4 HX4
        by_cases hjl : j < ps.length
        · have hjo : j < ov.length := by omega
          obtain ⟨pb, po, rfl, p0, p1, p2, hpw⟩ := (HPS.out.below HI.out.be) j _ (List.getElem?_eq_getElem hjl)
          obtain ⟨ob, oo, rfl, o0⟩ := (HOV.out.below HI.out.be).num j hjo
          have hpl2 := HPL.out ov[j] (List.getElem_mem hjo)
          obtain ⟨f, hf⟩ : ∃ f : Nat, ov[j] = (f : Int) := ⟨ov[j].toNat, by omega⟩
          have hff : f < fs.length := by omega
          obtain ⟨fb, fo, rfl, f0, f1⟩ := (HTR.out.fs.below HI.out.be).fld f hff
          have HS : Hid (goodL fs ov ps = ((vldB ps[j] && (ps[j].k == partK fs[f].k)) && goodL fs (ov.drop (j + 1)) (ps.drop (j + 1)))) := by
            rw [Hid, HE.out, List.drop_eq_getElem_cons hjo, List.drop_eq_getElem_cons hjl, hf]
            show (goodP fs (f : Int) ps[j] && _) = _
            unfold goodP
            rw [show ((f : Int).toNat) = f from rfl, List.getD_eq_getElem?_getD, List.getElem?_eq_getElem hff]
            rfl
          have hkk := (HTR.out.ok.fsize fs[f] (List.getElem_mem hff)).2
          have HTK : Hid ((ps.take (j + 1)).map (lowIf l) = (ps.take j).map (lowIf l) ++ [lowIf l ps[j]]) := by rw [Hid, parts_take ps j hjl, List.map_append]; rfl
          rw [hf] at o0
          clear hpl2 hf
          generalize fs[f].k = kk at *
          have hpw : ps[j].t.size ≤ 140737488351232 := hpw.2.2
          generalize ps[j] = Q at *
          obtain ⟨qk, qt, qn⟩ := Q
          dsimp only at *
          have hk3 : kk = 1 ∨ kk = 2 ∨ kk = 3 := by omega
          rcases hk3 with rfl | rfl | rfl
          · have HS2 : Hid (goodL fs ov ps = ((vldB ⟨qk, qt, qn⟩ && (qk == 1)) && goodL fs (ov.drop (j + 1)) (ps.drop (j + 1)))) := HS.out
            clear HS hkk
            go_upto_region 10 with fail
            obtain ⟨w5, hw5⟩ : ∃ w5, w5 = wr.alloc (.cells #[.int .i64 qk, .string qt, .int .u64 qn] 65) := ⟨_, rfl⟩
            rw [← hw5]
            have hb5 : Below wr.heap.size wr w5 := by rw [hw5]; exact (Below.refl _ _).alloc (Nat.le_refl _) _
            have HP5 : Hid (w5.heap[wr.heap.size]? = some (.cells #[.int .i64 qk, .string qt, .int .u64 qn] 65)) := by rw [Hid, hw5]; exact new_blk _ _
            have HI5 : Hid (PrI w ⟨tn, fs, some ⟨fb, fo, none⟩, fc, xs, some ⟨xb, xo, none⟩, xc⟩ ⟨⟨xn, ov, u, l, s⟩, some ⟨ob, oo, none⟩, vc⟩ (w.heap.size + 1) (.slice a j c) ((ps.take j).map (lowIf l)) w5) := HI.out.below hb5
            have t1 : w5.cell? ⟨w.heap.size, 1, none⟩ = some (.slice (some ⟨fb, fo, none⟩) fs.length fc) := by rw [cell_blk HI5.out.tab]; rfl
            have y1 : w5.cell? ⟨w.heap.size + 1, 1, none⟩ = some (.slice (some ⟨ob, oo, none⟩) ov.length vc) := by rw [cell_blk HI5.out.bx]; rfl
            have o0' : w5.cell? ⟨ob, oo + j, none⟩ = some (.int .i64 f) := by rw [hb5.cell (by exact World.block_lt_of_cell? wr _ o0)]; exact o0
            have f1' : w5.cell? ⟨fb, fo + f * 2 + 1, none⟩ = some (.int .i64 1) := by rw [hb5.cell (by exact World.block_lt_of_cell? wr _ f1)]; exact f1
            have hi1 : (j : Int) < (ov.length : Int) := by omega
            have hi2 : (f : Int) < (fs.length : Int) := by omega
            clear hw5 hb5 o0 f0 f1 p0 p1 p2
            go_quiet (fail)
            obtain ⟨w6, hw6⟩ : ∃ w6, w6 = w5.drewN nq := ⟨_, rfl⟩
            rw [← hw6]
            have HP6 : Hid (w6.heap[wr.heap.size]? = some (.cells #[.int .i64 qk, .string qt, .int .u64 qn] 65)) := by rw [Hid, hw6]; exact HP5.out
            have HI6 : Hid (PrI w ⟨tn, fs, some ⟨fb, fo, none⟩, fc, xs, some ⟨xb, xo, none⟩, xc⟩ ⟨⟨xn, ov, u, l, s⟩, some ⟨ob, oo, none⟩, vc⟩ (w.heap.size + 1) (.slice a j c) ((ps.take j).map (lowIf l)) w6) := by rw [hw6]; exact HI5.out.below (below_draws w5 nq)
            have b0 : w6.cell? ⟨wr.heap.size, 0, none⟩ = some (.int .i64 qk) := by rw [cell_blk HP6.out]; rfl
            have b1 : w6.cell? ⟨wr.heap.size, 1, none⟩ = some (.string qt) := by rw [cell_blk HP6.out]; rfl
            have b2 : w6.cell? ⟨wr.heap.size, 2, none⟩ = some (.int .u64 qn) := by rw [cell_blk HP6.out]; rfl
            have HV : Hid (Calls Try.prog 30 #[.agg #[.int .i64 qk, .string qt, .int .u64 qn]] w6 fun e w' => e = .returned (.bool (vldB ⟨qk, qt, qn⟩)) ∧ Below w6.heap.size w6 w') := rvalid_calls qk qn qt w6
            clear hw6 HP5 HI5 t1 y1 o0' f1'
            go_wp2_with fail
            refine HV.out.mono ?_
            clear HV
            rintro e w7 ⟨rfl, hb7⟩
            have HP7 : Hid (w7.heap[wr.heap.size]? = some (.cells #[.int .i64 qk, .string qt, .int .u64 qn] 65)) := (hb7.block _ (lt_blk HP6.out)).trans HP6.out
            have HI7 : Hid (PrI w ⟨tn, fs, some ⟨fb, fo, none⟩, fc, xs, some ⟨xb, xo, none⟩, xc⟩ ⟨⟨xn, ov, u, l, s⟩, some ⟨ob, oo, none⟩, vc⟩ (w.heap.size + 1) (.slice a j c) ((ps.take j).map (lowIf l)) w7) := HI6.out.below hb7
            clear hb7 b0 b1 b2 HP6 HI6
            have b0 : w7.cell? ⟨wr.heap.size, 0, none⟩ = some (.int .i64 qk) := by rw [cell_blk HP7.out]; rfl
            have b1 : w7.cell? ⟨wr.heap.size, 1, none⟩ = some (.string qt) := by rw [cell_blk HP7.out]; rfl
            have b2 : w7.cell? ⟨wr.heap.size, 2, none⟩ = some (.int .u64 qn) := by rw [cell_blk HP7.out]; rfl
            have z1 : w7.frozen? ⟨wr.heap.size, 1, none⟩ = false := frozen_blk HP7.out
            have x3 : w7.cell? ⟨w.heap.size + 1, 3, none⟩ = some (.bool l) := by rw [cell_blk HI7.out.bx]; rfl
            have hwl : wr.heap.size < w7.heap.size := lt_blk HP7.out
            have hbe := HI7.out.be
            cases hv : vldB ⟨qk, qt, qn⟩ with
            | false =>
              have HQ : Hid (probeP (TV.mk tn fs (some ⟨fb, fo, none⟩) fc xs (some ⟨xb, xo, none⟩) xc).tb (k : Int) ps op = ([], 76)) := by rw [Hid, HKR.out, HS2.out, hv]; rfl
              clear hv
              go_wp2
              go_ret2
              rw [HQ.out]
              exact ⟨rfl, hbe⟩
            | true =>
              rw [hv, Bool.true_and] at HS2
              cases hk1 : (qk == 1) with
              | false =>
                have HQ : Hid (probeP (TV.mk tn fs (some ⟨fb, fo, none⟩) fc xs (some ⟨xb, xo, none⟩) xc).tb (k : Int) ps op = ([], 76)) := by rw [Hid, HKR.out, HS2.out, hk1]; rfl
                clear hv
                go_wp2
                go_ret2
                rw [HQ.out]
                exact ⟨rfl, hbe⟩
              | true =>
                rw [hk1, Bool.true_and] at HS2
                clear hv
                obtain rfl : qk = 1 := by simpa using hk1
                clear hk1
                cases l with
                | false =>
                  go_wp2_with (at_builtin; refine append_part _ rfl (.tmp 82) (.tmp 84) rfl w.heap.size _ ((ps.take j).map (lowIf false)) rfl [⟨1, qt, qn⟩] _ 1 1 _ rfl rfl rfl rfl HI7.out.own (by simp; omega) HI7.out.be.size ?_)
                  intro v8 w8 ho8 hg8
                  have HI8 : Hid (PrI w ⟨tn, fs, some ⟨fb, fo, none⟩, fc, xs, some ⟨xb, xo, none⟩, xc⟩ ⟨⟨xn, ov, u, false, s⟩, some ⟨ob, oo, none⟩, vc⟩ (w.heap.size + 1) v8 ((ps.take (j + 1)).map (lowIf false)) w8) := HI7.out.grew (by rw [HTK.out]; first | exact ho8 | (rw [List.map_take]; exact ho8)) hg8
                  obtain ⟨a8, c8, rfl⟩ := HI8.out.own.shape
                  have hl8 : ((ps.take (j + 1)).map (lowIf false)).length = j + 1 := by rw [List.length_map, List.length_take]; omega
                  rw [hl8] at HI8 ⊢
                  clear ho8 hg8 hl8
                  go_wp2
                  go_roundw
                  case rel => exact ⟨j + 1, a8, c8, by omega, by go_num, rfl, HS2, HI8⟩
                  case measure => simp [intOf]; omega
                | true =>
                  have HLC : Hid (Calls Try.prog 23 #[.string qt] w7 fun e w' => e = .returned (.string (lowS qt)) ∧ Below w7.heap.size w7 w') := refLow_calls qt w7 (by omega)
                  go_wp2_with fail
                  refine HLC.out.mono ?_
                  clear HLC
                  rintro e w8 ⟨rfl, hb8⟩
                  have HP8 : Hid (w8.heap[wr.heap.size]? = some (.cells #[.int .i64 1, .string qt, .int .u64 qn] 65)) := (hb8.block _ (lt_blk HP7.out)).trans HP7.out
                  have HI8 : Hid (PrI w ⟨tn, fs, some ⟨fb, fo, none⟩, fc, xs, some ⟨xb, xo, none⟩, xc⟩ ⟨⟨xn, ov, u, true, s⟩, some ⟨ob, oo, none⟩, vc⟩ (w.heap.size + 1) (.slice a j c) ((ps.take j).map (lowIf true)) w8) := HI7.out.below hb8
                  clear hb8 b0 b1 b2 z1 x3 HP7
                  have b0 : w8.cell? ⟨wr.heap.size, 0, none⟩ = some (.int .i64 1) := by rw [cell_blk HP8.out]; rfl
                  have b1 : w8.cell? ⟨wr.heap.size, 1, none⟩ = some (.string qt) := by rw [cell_blk HP8.out]; rfl
                  have b2 : w8.cell? ⟨wr.heap.size, 2, none⟩ = some (.int .u64 qn) := by rw [cell_blk HP8.out]; rfl
                  have z1 : w8.frozen? ⟨wr.heap.size, 1, none⟩ = false := frozen_blk HP8.out
                  have hne : (Value.slice a j c).ownBlock ≠ some wr.heap.size := fun e => by have := (HI.out.own.lt _ e).2; omega
                  have HI9 : Hid (PrI w ⟨tn, fs, some ⟨fb, fo, none⟩, fc, xs, some ⟨xb, xo, none⟩, xc⟩ ⟨⟨xn, ov, u, true, s⟩, some ⟨ob, oo, none⟩, vc⟩ (w.heap.size + 1) (.slice a j c) ((ps.take j).map (lowIf true)) (w8.setCell ⟨wr.heap.size, 1, none⟩ (.string (lowS qt)))) := by
                    have hn1 : w.heap.size ≠ wr.heap.size := fun e => by have := lt_blk HI.out.tab; omega
                    have hn2 : w.heap.size + 1 ≠ wr.heap.size := fun e => by have := lt_blk HI.out.bx; omega
                    exact ⟨(heap_setCell_other _ _ _ _ (by simpa using hn1)).trans HI8.out.tab, (heap_setCell_other _ _ _ _ (by simpa using hn2)).trans HI8.out.bx, HI8.out.own.storedOther hne _, HI8.out.be.setCell HI.out.be.size _⟩
                  go_upto_region 15 with fail
                  obtain ⟨w9, hw9⟩ : ∃ w9, w9 = w8.setCell ⟨wr.heap.size, 1, none⟩ (.string (lowS qt)) := ⟨_, rfl⟩
                  rw [← hw9] at HI9 ⊢
                  have HP9 : Hid (w9.heap[wr.heap.size]? = some (.cells #[.int .i64 1, .string (lowS qt), .int .u64 qn] 65)) := by rw [Hid, hw9]; exact set_blk (i := 1) HP8.out _
                  have d0 : w9.cell? ⟨wr.heap.size, 0, none⟩ = some (.int .i64 1) := by rw [cell_blk HP9.out]; rfl
                  have d1 : w9.cell? ⟨wr.heap.size, 1, none⟩ = some (.string (lowS qt)) := by rw [cell_blk HP9.out]; rfl
                  have d2 : w9.cell? ⟨wr.heap.size, 2, none⟩ = some (.int .u64 qn) := by rw [cell_blk HP9.out]; rfl
                  clear hw9 b0 b1 b2 z1 HP8 HI8
                  go_wp2_with (at_builtin; refine append_part _ rfl (.tmp 82) (.tmp 84) rfl w.heap.size _ ((ps.take j).map (lowIf true)) rfl [⟨1, lowS qt, qn⟩] _ 1 1 _ rfl rfl rfl rfl HI9.out.own (by simp; omega) HI9.out.be.size ?_)
                  intro v8 w10 ho8 hg8
                  have HI10 : Hid (PrI w ⟨tn, fs, some ⟨fb, fo, none⟩, fc, xs, some ⟨xb, xo, none⟩, xc⟩ ⟨⟨xn, ov, u, true, s⟩, some ⟨ob, oo, none⟩, vc⟩ (w.heap.size + 1) v8 ((ps.take (j + 1)).map (lowIf true)) w10) := HI9.out.grew (by rw [HTK.out]; first | exact ho8 | (rw [List.map_take]; exact ho8)) hg8
                  obtain ⟨a8, c8, rfl⟩ := HI10.out.own.shape
                  have hl8 : ((ps.take (j + 1)).map (lowIf true)).length = j + 1 := by rw [List.length_map, List.length_take]; omega
                  rw [hl8] at HI10 ⊢
                  clear ho8 hg8 hl8
                  go_wp2
                  go_roundw
                  case rel => exact ⟨j + 1, a8, c8, by omega, by go_num, rfl, HS2, HI10⟩
                  case measure => simp [intOf]; omega
          · have HS2 : Hid (goodL fs ov ps = ((vldB ⟨qk, qt, qn⟩ && (qk == 2)) && goodL fs (ov.drop (j + 1)) (ps.drop (j + 1)))) := HS.out
            clear HS hkk
            go_upto_region 10 with fail
            obtain ⟨w5, hw5⟩ : ∃ w5, w5 = wr.alloc (.cells #[.int .i64 qk, .string qt, .int .u64 qn] 65) := ⟨_, rfl⟩
            rw [← hw5]
            have hb5 : Below wr.heap.size wr w5 := by rw [hw5]; exact (Below.refl _ _).alloc (Nat.le_refl _) _
            have HP5 : Hid (w5.heap[wr.heap.size]? = some (.cells #[.int .i64 qk, .string qt, .int .u64 qn] 65)) := by rw [Hid, hw5]; exact new_blk _ _
            have HI5 : Hid (PrI w ⟨tn, fs, some ⟨fb, fo, none⟩, fc, xs, some ⟨xb, xo, none⟩, xc⟩ ⟨⟨xn, ov, u, l, s⟩, some ⟨ob, oo, none⟩, vc⟩ (w.heap.size + 1) (.slice a j c) ((ps.take j).map (lowIf l)) w5) := HI.out.below hb5
            have t1 : w5.cell? ⟨w.heap.size, 1, none⟩ = some (.slice (some ⟨fb, fo, none⟩) fs.length fc) := by rw [cell_blk HI5.out.tab]; rfl
            have y1 : w5.cell? ⟨w.heap.size + 1, 1, none⟩ = some (.slice (some ⟨ob, oo, none⟩) ov.length vc) := by rw [cell_blk HI5.out.bx]; rfl
            have o0' : w5.cell? ⟨ob, oo + j, none⟩ = some (.int .i64 f) := by rw [hb5.cell (by exact World.block_lt_of_cell? wr _ o0)]; exact o0
            have f1' : w5.cell? ⟨fb, fo + f * 2 + 1, none⟩ = some (.int .i64 2) := by rw [hb5.cell (by exact World.block_lt_of_cell? wr _ f1)]; exact f1
            have hi1 : (j : Int) < (ov.length : Int) := by omega
            have hi2 : (f : Int) < (fs.length : Int) := by omega
            clear hw5 hb5 o0 f0 f1 p0 p1 p2
            go_quiet (fail)
            obtain ⟨w6, hw6⟩ : ∃ w6, w6 = w5.drewN nq := ⟨_, rfl⟩
            rw [← hw6]
            have HP6 : Hid (w6.heap[wr.heap.size]? = some (.cells #[.int .i64 qk, .string qt, .int .u64 qn] 65)) := by rw [Hid, hw6]; exact HP5.out
            have HI6 : Hid (PrI w ⟨tn, fs, some ⟨fb, fo, none⟩, fc, xs, some ⟨xb, xo, none⟩, xc⟩ ⟨⟨xn, ov, u, l, s⟩, some ⟨ob, oo, none⟩, vc⟩ (w.heap.size + 1) (.slice a j c) ((ps.take j).map (lowIf l)) w6) := by rw [hw6]; exact HI5.out.below (below_draws w5 nq)
            have b0 : w6.cell? ⟨wr.heap.size, 0, none⟩ = some (.int .i64 qk) := by rw [cell_blk HP6.out]; rfl
            have b1 : w6.cell? ⟨wr.heap.size, 1, none⟩ = some (.string qt) := by rw [cell_blk HP6.out]; rfl
            have b2 : w6.cell? ⟨wr.heap.size, 2, none⟩ = some (.int .u64 qn) := by rw [cell_blk HP6.out]; rfl
            have HV : Hid (Calls Try.prog 30 #[.agg #[.int .i64 qk, .string qt, .int .u64 qn]] w6 fun e w' => e = .returned (.bool (vldB ⟨qk, qt, qn⟩)) ∧ Below w6.heap.size w6 w') := rvalid_calls qk qn qt w6
            clear hw6 HP5 HI5 t1 y1 o0' f1'
            go_wp2_with fail
            refine HV.out.mono ?_
            clear HV
            rintro e w7 ⟨rfl, hb7⟩
            have HP7 : Hid (w7.heap[wr.heap.size]? = some (.cells #[.int .i64 qk, .string qt, .int .u64 qn] 65)) := (hb7.block _ (lt_blk HP6.out)).trans HP6.out
            have HI7 : Hid (PrI w ⟨tn, fs, some ⟨fb, fo, none⟩, fc, xs, some ⟨xb, xo, none⟩, xc⟩ ⟨⟨xn, ov, u, l, s⟩, some ⟨ob, oo, none⟩, vc⟩ (w.heap.size + 1) (.slice a j c) ((ps.take j).map (lowIf l)) w7) := HI6.out.below hb7
            clear hb7 b0 b1 b2 HP6 HI6
            have b0 : w7.cell? ⟨wr.heap.size, 0, none⟩ = some (.int .i64 qk) := by rw [cell_blk HP7.out]; rfl
            have b1 : w7.cell? ⟨wr.heap.size, 1, none⟩ = some (.string qt) := by rw [cell_blk HP7.out]; rfl
            have b2 : w7.cell? ⟨wr.heap.size, 2, none⟩ = some (.int .u64 qn) := by rw [cell_blk HP7.out]; rfl
            have z1 : w7.frozen? ⟨wr.heap.size, 1, none⟩ = false := frozen_blk HP7.out
            have x3 : w7.cell? ⟨w.heap.size + 1, 3, none⟩ = some (.bool l) := by rw [cell_blk HI7.out.bx]; rfl
            have hwl : wr.heap.size < w7.heap.size := lt_blk HP7.out
            have hbe := HI7.out.be
            cases hv : vldB ⟨qk, qt, qn⟩ with
            | false =>
              have HQ : Hid (probeP (TV.mk tn fs (some ⟨fb, fo, none⟩) fc xs (some ⟨xb, xo, none⟩) xc).tb (k : Int) ps op = ([], 76)) := by rw [Hid, HKR.out, HS2.out, hv]; rfl
              clear hv
              go_wp2
              go_ret2
              rw [HQ.out]
              exact ⟨rfl, hbe⟩
            | true =>
              rw [hv, Bool.true_and] at HS2
              cases hk1 : (qk == 2) with
              | false =>
                have HQ : Hid (probeP (TV.mk tn fs (some ⟨fb, fo, none⟩) fc xs (some ⟨xb, xo, none⟩) xc).tb (k : Int) ps op = ([], 76)) := by rw [Hid, HKR.out, HS2.out, hk1]; rfl
                have q9 : (qk != 2) = true := by simp only [bne, hk1, Bool.not_false]
                have q10 : ¬ qk = 2 := by intro h; rw [h] at hk1; cases hk1
                clear hv
                go_wp2
                go_ret2
                rw [HQ.out]
                exact ⟨rfl, hbe⟩
              | true =>
                rw [hk1, Bool.true_and] at HS2
                clear hv
                obtain rfl : qk = 2 := by simpa using hk1
                clear hk1
                cases l with
                | false =>
                  go_wp2_with (at_builtin; refine append_part _ rfl (.tmp 82) (.tmp 84) rfl w.heap.size _ ((ps.take j).map (lowIf false)) rfl [⟨2, qt, qn⟩] _ 1 1 _ rfl rfl rfl rfl HI7.out.own (by simp; omega) HI7.out.be.size ?_)
                  intro v8 w8 ho8 hg8
                  have HI8 : Hid (PrI w ⟨tn, fs, some ⟨fb, fo, none⟩, fc, xs, some ⟨xb, xo, none⟩, xc⟩ ⟨⟨xn, ov, u, false, s⟩, some ⟨ob, oo, none⟩, vc⟩ (w.heap.size + 1) v8 ((ps.take (j + 1)).map (lowIf false)) w8) := HI7.out.grew (by rw [HTK.out]; first | exact ho8 | (rw [List.map_take]; exact ho8)) hg8
                  obtain ⟨a8, c8, rfl⟩ := HI8.out.own.shape
                  have hl8 : ((ps.take (j + 1)).map (lowIf false)).length = j + 1 := by rw [List.length_map, List.length_take]; omega
                  rw [hl8] at HI8 ⊢
                  clear ho8 hg8 hl8
                  go_wp2
                  go_roundw
                  case rel => exact ⟨j + 1, a8, c8, by omega, by go_num, rfl, HS2, HI8⟩
                  case measure => simp [intOf]; omega
                | true =>
                  have HLC : Hid (Calls Try.prog 23 #[.string qt] w7 fun e w' => e = .returned (.string (lowS qt)) ∧ Below w7.heap.size w7 w') := refLow_calls qt w7 (by omega)
                  go_wp2_with fail
                  refine HLC.out.mono ?_
                  clear HLC
                  rintro e w8 ⟨rfl, hb8⟩
                  have HP8 : Hid (w8.heap[wr.heap.size]? = some (.cells #[.int .i64 2, .string qt, .int .u64 qn] 65)) := (hb8.block _ (lt_blk HP7.out)).trans HP7.out
                  have HI8 : Hid (PrI w ⟨tn, fs, some ⟨fb, fo, none⟩, fc, xs, some ⟨xb, xo, none⟩, xc⟩ ⟨⟨xn, ov, u, true, s⟩, some ⟨ob, oo, none⟩, vc⟩ (w.heap.size + 1) (.slice a j c) ((ps.take j).map (lowIf true)) w8) := HI7.out.below hb8
                  clear hb8 b0 b1 b2 z1 x3 HP7
                  have b0 : w8.cell? ⟨wr.heap.size, 0, none⟩ = some (.int .i64 2) := by rw [cell_blk HP8.out]; rfl
                  have b1 : w8.cell? ⟨wr.heap.size, 1, none⟩ = some (.string qt) := by rw [cell_blk HP8.out]; rfl
                  have b2 : w8.cell? ⟨wr.heap.size, 2, none⟩ = some (.int .u64 qn) := by rw [cell_blk HP8.out]; rfl
                  have z1 : w8.frozen? ⟨wr.heap.size, 1, none⟩ = false := frozen_blk HP8.out
                  have hne : (Value.slice a j c).ownBlock ≠ some wr.heap.size := fun e => by have := (HI.out.own.lt _ e).2; omega
                  have HI9 : Hid (PrI w ⟨tn, fs, some ⟨fb, fo, none⟩, fc, xs, some ⟨xb, xo, none⟩, xc⟩ ⟨⟨xn, ov, u, true, s⟩, some ⟨ob, oo, none⟩, vc⟩ (w.heap.size + 1) (.slice a j c) ((ps.take j).map (lowIf true)) (w8.setCell ⟨wr.heap.size, 1, none⟩ (.string (lowS qt)))) := by
                    have hn1 : w.heap.size ≠ wr.heap.size := fun e => by have := lt_blk HI.out.tab; omega
                    have hn2 : w.heap.size + 1 ≠ wr.heap.size := fun e => by have := lt_blk HI.out.bx; omega
                    exact ⟨(heap_setCell_other _ _ _ _ (by simpa using hn1)).trans HI8.out.tab, (heap_setCell_other _ _ _ _ (by simpa using hn2)).trans HI8.out.bx, HI8.out.own.storedOther hne _, HI8.out.be.setCell HI.out.be.size _⟩
                  go_upto_region 15 with fail
                  obtain ⟨w9, hw9⟩ : ∃ w9, w9 = w8.setCell ⟨wr.heap.size, 1, none⟩ (.string (lowS qt)) := ⟨_, rfl⟩
                  rw [← hw9] at HI9 ⊢
                  have HP9 : Hid (w9.heap[wr.heap.size]? = some (.cells #[.int .i64 2, .string (lowS qt), .int .u64 qn] 65)) := by rw [Hid, hw9]; exact set_blk (i := 1) HP8.out _
                  have d0 : w9.cell? ⟨wr.heap.size, 0, none⟩ = some (.int .i64 2) := by rw [cell_blk HP9.out]; rfl
                  have d1 : w9.cell? ⟨wr.heap.size, 1, none⟩ = some (.string (lowS qt)) := by rw [cell_blk HP9.out]; rfl
                  have d2 : w9.cell? ⟨wr.heap.size, 2, none⟩ = some (.int .u64 qn) := by rw [cell_blk HP9.out]; rfl
                  clear hw9 b0 b1 b2 z1 HP8 HI8
                  go_wp2_with (at_builtin; refine append_part _ rfl (.tmp 82) (.tmp 84) rfl w.heap.size _ ((ps.take j).map (lowIf true)) rfl [⟨2, lowS qt, qn⟩] _ 1 1 _ rfl rfl rfl rfl HI9.out.own (by simp; omega) HI9.out.be.size ?_)
                  intro v8 w10 ho8 hg8
                  have HI10 : Hid (PrI w ⟨tn, fs, some ⟨fb, fo, none⟩, fc, xs, some ⟨xb, xo, none⟩, xc⟩ ⟨⟨xn, ov, u, true, s⟩, some ⟨ob, oo, none⟩, vc⟩ (w.heap.size + 1) v8 ((ps.take (j + 1)).map (lowIf true)) w10) := HI9.out.grew (by rw [HTK.out]; first | exact ho8 | (rw [List.map_take]; exact ho8)) hg8
                  obtain ⟨a8, c8, rfl⟩ := HI10.out.own.shape
                  have hl8 : ((ps.take (j + 1)).map (lowIf true)).length = j + 1 := by rw [List.length_map, List.length_take]; omega
                  rw [hl8] at HI10 ⊢
                  clear ho8 hg8 hl8
                  go_wp2
                  go_roundw
                  case rel => exact ⟨j + 1, a8, c8, by omega, by go_num, rfl, HS2, HI10⟩
                  case measure => simp [intOf]; omega
          · have HS2 : Hid (goodL fs ov ps = ((vldB ⟨qk, qt, qn⟩ && (qk == 1)) && goodL fs (ov.drop (j + 1)) (ps.drop (j + 1)))) := HS.out
            clear HS hkk
            go_upto_region 10 with fail
            obtain ⟨w5, hw5⟩ : ∃ w5, w5 = wr.alloc (.cells #[.int .i64 qk, .string qt, .int .u64 qn] 65) := ⟨_, rfl⟩
            rw [← hw5]
            have hb5 : Below wr.heap.size wr w5 := by rw [hw5]; exact (Below.refl _ _).alloc (Nat.le_refl _) _
            have HP5 : Hid (w5.heap[wr.heap.size]? = some (.cells #[.int .i64 qk, .string qt, .int .u64 qn] 65)) := by rw [Hid, hw5]; exact new_blk _ _
            have HI5 : Hid (PrI w ⟨tn, fs, some ⟨fb, fo, none⟩, fc, xs, some ⟨xb, xo, none⟩, xc⟩ ⟨⟨xn, ov, u, l, s⟩, some ⟨ob, oo, none⟩, vc⟩ (w.heap.size + 1) (.slice a j c) ((ps.take j).map (lowIf l)) w5) := HI.out.below hb5
            have t1 : w5.cell? ⟨w.heap.size, 1, none⟩ = some (.slice (some ⟨fb, fo, none⟩) fs.length fc) := by rw [cell_blk HI5.out.tab]; rfl
            have y1 : w5.cell? ⟨w.heap.size + 1, 1, none⟩ = some (.slice (some ⟨ob, oo, none⟩) ov.length vc) := by rw [cell_blk HI5.out.bx]; rfl
            have o0' : w5.cell? ⟨ob, oo + j, none⟩ = some (.int .i64 f) := by rw [hb5.cell (by exact World.block_lt_of_cell? wr _ o0)]; exact o0
            have f1' : w5.cell? ⟨fb, fo + f * 2 + 1, none⟩ = some (.int .i64 3) := by rw [hb5.cell (by exact World.block_lt_of_cell? wr _ f1)]; exact f1
            have hi1 : (j : Int) < (ov.length : Int) := by omega
            have hi2 : (f : Int) < (fs.length : Int) := by omega
            clear hw5 hb5 o0 f0 f1 p0 p1 p2
            go_quiet (fail)
            obtain ⟨w6, hw6⟩ : ∃ w6, w6 = w5.drewN nq := ⟨_, rfl⟩
            rw [← hw6]
            have HP6 : Hid (w6.heap[wr.heap.size]? = some (.cells #[.int .i64 qk, .string qt, .int .u64 qn] 65)) := by rw [Hid, hw6]; exact HP5.out
            have HI6 : Hid (PrI w ⟨tn, fs, some ⟨fb, fo, none⟩, fc, xs, some ⟨xb, xo, none⟩, xc⟩ ⟨⟨xn, ov, u, l, s⟩, some ⟨ob, oo, none⟩, vc⟩ (w.heap.size + 1) (.slice a j c) ((ps.take j).map (lowIf l)) w6) := by rw [hw6]; exact HI5.out.below (below_draws w5 nq)
            have b0 : w6.cell? ⟨wr.heap.size, 0, none⟩ = some (.int .i64 qk) := by rw [cell_blk HP6.out]; rfl
            have b1 : w6.cell? ⟨wr.heap.size, 1, none⟩ = some (.string qt) := by rw [cell_blk HP6.out]; rfl
            have b2 : w6.cell? ⟨wr.heap.size, 2, none⟩ = some (.int .u64 qn) := by rw [cell_blk HP6.out]; rfl
            have HV : Hid (Calls Try.prog 30 #[.agg #[.int .i64 qk, .string qt, .int .u64 qn]] w6 fun e w' => e = .returned (.bool (vldB ⟨qk, qt, qn⟩)) ∧ Below w6.heap.size w6 w') := rvalid_calls qk qn qt w6
            clear hw6 HP5 HI5 t1 y1 o0' f1'
            go_wp2_with fail
            refine HV.out.mono ?_
            clear HV
            rintro e w7 ⟨rfl, hb7⟩
            have HP7 : Hid (w7.heap[wr.heap.size]? = some (.cells #[.int .i64 qk, .string qt, .int .u64 qn] 65)) := (hb7.block _ (lt_blk HP6.out)).trans HP6.out
            have HI7 : Hid (PrI w ⟨tn, fs, some ⟨fb, fo, none⟩, fc, xs, some ⟨xb, xo, none⟩, xc⟩ ⟨⟨xn, ov, u, l, s⟩, some ⟨ob, oo, none⟩, vc⟩ (w.heap.size + 1) (.slice a j c) ((ps.take j).map (lowIf l)) w7) := HI6.out.below hb7
            clear hb7 b0 b1 b2 HP6 HI6
            have b0 : w7.cell? ⟨wr.heap.size, 0, none⟩ = some (.int .i64 qk) := by rw [cell_blk HP7.out]; rfl
            have b1 : w7.cell? ⟨wr.heap.size, 1, none⟩ = some (.string qt) := by rw [cell_blk HP7.out]; rfl
            have b2 : w7.cell? ⟨wr.heap.size, 2, none⟩ = some (.int .u64 qn) := by rw [cell_blk HP7.out]; rfl
            have z1 : w7.frozen? ⟨wr.heap.size, 1, none⟩ = false := frozen_blk HP7.out
            have x3 : w7.cell? ⟨w.heap.size + 1, 3, none⟩ = some (.bool l) := by rw [cell_blk HI7.out.bx]; rfl
            have hwl : wr.heap.size < w7.heap.size := lt_blk HP7.out
            have hbe := HI7.out.be
            cases hv : vldB ⟨qk, qt, qn⟩ with
            | false =>
              have HQ : Hid (probeP (TV.mk tn fs (some ⟨fb, fo, none⟩) fc xs (some ⟨xb, xo, none⟩) xc).tb (k : Int) ps op = ([], 76)) := by rw [Hid, HKR.out, HS2.out, hv]; rfl
              clear hv
              go_wp2
              go_ret2
              rw [HQ.out]
              exact ⟨rfl, hbe⟩
            | true =>
              rw [hv, Bool.true_and] at HS2
              cases hk1 : (qk == 1) with
              | false =>
                have HQ : Hid (probeP (TV.mk tn fs (some ⟨fb, fo, none⟩) fc xs (some ⟨xb, xo, none⟩) xc).tb (k : Int) ps op = ([], 76)) := by rw [Hid, HKR.out, HS2.out, hk1]; rfl
                clear hv
                go_wp2
                go_ret2
                rw [HQ.out]
                exact ⟨rfl, hbe⟩
              | true =>
                rw [hk1, Bool.true_and] at HS2
                clear hv
                obtain rfl : qk = 1 := by simpa using hk1
                clear hk1
                cases l with
                | false =>
                  go_wp2_with (at_builtin; refine append_part _ rfl (.tmp 82) (.tmp 84) rfl w.heap.size _ ((ps.take j).map (lowIf false)) rfl [⟨1, qt, qn⟩] _ 1 1 _ rfl rfl rfl rfl HI7.out.own (by simp; omega) HI7.out.be.size ?_)
                  intro v8 w8 ho8 hg8
                  have HI8 : Hid (PrI w ⟨tn, fs, some ⟨fb, fo, none⟩, fc, xs, some ⟨xb, xo, none⟩, xc⟩ ⟨⟨xn, ov, u, false, s⟩, some ⟨ob, oo, none⟩, vc⟩ (w.heap.size + 1) v8 ((ps.take (j + 1)).map (lowIf false)) w8) := HI7.out.grew (by rw [HTK.out]; first | exact ho8 | (rw [List.map_take]; exact ho8)) hg8
                  obtain ⟨a8, c8, rfl⟩ := HI8.out.own.shape
                  have hl8 : ((ps.take (j + 1)).map (lowIf false)).length = j + 1 := by rw [List.length_map, List.length_take]; omega
                  rw [hl8] at HI8 ⊢
                  clear ho8 hg8 hl8
                  go_wp2
                  go_roundw
                  case rel => exact ⟨j + 1, a8, c8, by omega, by go_num, rfl, HS2, HI8⟩
                  case measure => simp [intOf]; omega
                | true =>
                  have HLC : Hid (Calls Try.prog 23 #[.string qt] w7 fun e w' => e = .returned (.string (lowS qt)) ∧ Below w7.heap.size w7 w') := refLow_calls qt w7 (by omega)
                  go_wp2_with fail
                  refine HLC.out.mono ?_
                  clear HLC
                  rintro e w8 ⟨rfl, hb8⟩
                  have HP8 : Hid (w8.heap[wr.heap.size]? = some (.cells #[.int .i64 1, .string qt, .int .u64 qn] 65)) := (hb8.block _ (lt_blk HP7.out)).trans HP7.out
                  have HI8 : Hid (PrI w ⟨tn, fs, some ⟨fb, fo, none⟩, fc, xs, some ⟨xb, xo, none⟩, xc⟩ ⟨⟨xn, ov, u, true, s⟩, some ⟨ob, oo, none⟩, vc⟩ (w.heap.size + 1) (.slice a j c) ((ps.take j).map (lowIf true)) w8) := HI7.out.below hb8
                  clear hb8 b0 b1 b2 z1 x3 HP7
                  have b0 : w8.cell? ⟨wr.heap.size, 0, none⟩ = some (.int .i64 1) := by rw [cell_blk HP8.out]; rfl
                  have b1 : w8.cell? ⟨wr.heap.size, 1, none⟩ = some (.string qt) := by rw [cell_blk HP8.out]; rfl
                  have b2 : w8.cell? ⟨wr.heap.size, 2, none⟩ = some (.int .u64 qn) := by rw [cell_blk HP8.out]; rfl
                  have z1 : w8.frozen? ⟨wr.heap.size, 1, none⟩ = false := frozen_blk HP8.out
                  have hne : (Value.slice a j c).ownBlock ≠ some wr.heap.size := fun e => by have := (HI.out.own.lt _ e).2; omega
                  have HI9 : Hid (PrI w ⟨tn, fs, some ⟨fb, fo, none⟩, fc, xs, some ⟨xb, xo, none⟩, xc⟩ ⟨⟨xn, ov, u, true, s⟩, some ⟨ob, oo, none⟩, vc⟩ (w.heap.size + 1) (.slice a j c) ((ps.take j).map (lowIf true)) (w8.setCell ⟨wr.heap.size, 1, none⟩ (.string (lowS qt)))) := by
                    have hn1 : w.heap.size ≠ wr.heap.size := fun e => by have := lt_blk HI.out.tab; omega
                    have hn2 : w.heap.size + 1 ≠ wr.heap.size := fun e => by have := lt_blk HI.out.bx; omega
                    exact ⟨(heap_setCell_other _ _ _ _ (by simpa using hn1)).trans HI8.out.tab, (heap_setCell_other _ _ _ _ (by simpa using hn2)).trans HI8.out.bx, HI8.out.own.storedOther hne _, HI8.out.be.setCell HI.out.be.size _⟩
                  go_upto_region 15 with fail
                  obtain ⟨w9, hw9⟩ : ∃ w9, w9 = w8.setCell ⟨wr.heap.size, 1, none⟩ (.string (lowS qt)) := ⟨_, rfl⟩
                  rw [← hw9] at HI9 ⊢
                  have HP9 : Hid (w9.heap[wr.heap.size]? = some (.cells #[.int .i64 1, .string (lowS qt), .int .u64 qn] 65)) := by rw [Hid, hw9]; exact set_blk (i := 1) HP8.out _
                  have d0 : w9.cell? ⟨wr.heap.size, 0, none⟩ = some (.int .i64 1) := by rw [cell_blk HP9.out]; rfl
                  have d1 : w9.cell? ⟨wr.heap.size, 1, none⟩ = some (.string (lowS qt)) := by rw [cell_blk HP9.out]; rfl
                  have d2 : w9.cell? ⟨wr.heap.size, 2, none⟩ = some (.int .u64 qn) := by rw [cell_blk HP9.out]; rfl
                  clear hw9 b0 b1 b2 z1 HP8 HI8
                  go_wp2_with (at_builtin; refine append_part _ rfl (.tmp 82) (.tmp 84) rfl w.heap.size _ ((ps.take j).map (lowIf true)) rfl [⟨1, lowS qt, qn⟩] _ 1 1 _ rfl rfl rfl rfl HI9.out.own (by simp; omega) HI9.out.be.size ?_)
                  intro v8 w10 ho8 hg8
                  have HI10 : Hid (PrI w ⟨tn, fs, some ⟨fb, fo, none⟩, fc, xs, some ⟨xb, xo, none⟩, xc⟩ ⟨⟨xn, ov, u, true, s⟩, some ⟨ob, oo, none⟩, vc⟩ (w.heap.size + 1) v8 ((ps.take (j + 1)).map (lowIf true)) w10) := HI9.out.grew (by rw [HTK.out]; first | exact ho8 | (rw [List.map_take]; exact ho8)) hg8
                  obtain ⟨a8, c8, rfl⟩ := HI10.out.own.shape
                  have hl8 : ((ps.take (j + 1)).map (lowIf true)).length = j + 1 := by rw [List.length_map, List.length_take]; omega
                  rw [hl8] at HI10 ⊢
                  clear ho8 hg8 hl8
                  go_wp2
                  go_roundw
                  case rel => exact ⟨j + 1, a8, c8, by omega, by go_num, rfl, HS2, HI10⟩
                  case measure => simp [intOf]; omega
        · obtain rfl : j = ps.length := by omega
          have HG : Hid (goodL fs ov ps = true) := by
            rw [Hid, HE.out, show ps.drop ps.length = [] from List.drop_length]
            cases ov.drop ps.length <;> rfl
          rw [HG.out, if_neg (by simp)] at HKR
          rw [show ps.take ps.length = ps from List.take_length] at HI
          have hml : (ps.map (lowIf l)).length = ps.length := List.length_map _
          have hqw : ∀ q ∈ ps.map (lowIf l), q.wf := fun q hq => by
            obtain ⟨r, hr, rfl⟩ := List.mem_map.1 hq
            have := parts_wf HPS.out r hr
            cases l
            · exact this
            · exact lowPt_wf this
          have hqs : ∀ q ∈ ps.map (lowIf l), q.t.size ≤ 70368744177000 := fun q hq => by
            obtain ⟨r, hr, rfl⟩ := List.mem_map.1 hq
            have := HSM.out.2 r hr
            cases l
            · exact this
            · show (lowS r.t).size ≤ _
              rw [lowS_size]; exact this
          have HRE := rencode_calls a c (ps.map (lowIf l)) op wr (by rw [hml]; omega) (HI.out.own.parts hqw) (HSM.out.1 l) hqs
          rw [hml] at HRE
          have HRE : Hid (Calls Try.prog 31 #[.slice a ps.length c, .bool op] wr fun e w' => e = .returned (.tuple #[.string ⟨(encAns op (ps.map (lowIf l))).1.toArray⟩, .int .i64 (encAns op (ps.map (lowIf l))).2]) ∧ Below wr.heap.size wr w') := HRE
          clear hml hqw hqs
          go_wp2_with fail
          refine HRE.out.mono ?_
          clear HRE
          rintro e w7 ⟨rfl, hb7⟩
          have HB7 : Hid (Below w.heap.size w w7) := HI.out.be.trans (hb7.mono HI.out.be.size)
          clear hb7
          generalize encAns op (ps.map (lowIf l)) = E at *
          obtain ⟨E1, E2⟩ := E
          dsimp only at *
          by_cases hE : E2 = 0
          · subst hE
            rw [if_neg (by simp)] at HKR
            go_wp2
            go_ret2
            rw [HKR.out]
            exact ⟨rfl, HB7.out⟩
          · have q5 : (E2 == 0) = false := by simpa using hE
            rw [if_pos hE] at HKR
            clear hE
            go_wp2
            go_ret2
            rw [HKR.out]
            exact ⟨rfl, HB7.out⟩
    · have q2 : (ov.length : Int) < (ps.length : Int) := by omega
      rw [decide_eq_false hlen, Bool.false_and, if_pos rfl] at HKQ
      clear hlen
      go_wp2
      go_ret2
      rw [HKQ.out]
      exact ⟨rfl, HB4.out⟩
  · have hpt : placeB (TV.mk tn fs fa fc xs xa xc).tb p = false := by
      rw [hpb]
      by_cases h0 : 0 ≤ p
      · rw [decide_eq_true h0, decide_eq_false (fun h => hpl ⟨h0, h⟩)]; rfl
      · rw [decide_eq_false h0]; rfl
    rw [if_pos hpt] at HKP
    have HB : Hid (Below w.heap.size w (w.alloc (.cells #[.string tn, .slice fa fs.length fc, .slice xa xs.length xc] 29))) := (Below.refl _ _).alloc (Nat.le_refl _) _
    clear hpb hpt
    generalize xs.length = xl at *
    by_cases h0 : 0 ≤ p
    · have q0 : decide (p < 0) = false := decide_eq_false (by omega)
      have q1 : decide ((xl : Int) ≤ p) = true := decide_eq_true (by omega)
      clear hpl
      go_enter Try.func18, Try.ntmps18
      go_wp2
      go_ret2
      rw [HKP.out]
      exact ⟨rfl, HB.out⟩
    · have q0 : decide (p < 0) = true := decide_eq_true (by omega)
      clear hpl
      go_enter Try.func18, Try.ntmps18
      go_wp2
      go_ret2
      rw [HKP.out]
      exact ⟨rfl, HB.out⟩
end Go.Proofs.Ytindefkngcelnaa
