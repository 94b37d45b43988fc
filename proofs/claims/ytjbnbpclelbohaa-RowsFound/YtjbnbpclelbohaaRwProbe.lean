/- Layer 7 (rows): canBegin, Probe. -/
import Derived.Test.YtjbnbpclelbohaaRwLowR
import Derived.Test.YtjbnbpclelbohaaKCompare
import Derived.Test.YtjbnbpclelbohaaKBegin
namespace Go.Proofs.Ytjbnbpclelbohaa
open Go.RowKit
set_option linter.unusedVariables false
attribute [local go_sem] Oper.semAt_some

/-- Are the parts' kinds those of the fields? -/
def kindsB (fs : List Fd) : List Int → List Pt → Bool
  | _, [] => true
  | [], _ :: _ => false
  | p :: ov, q :: ps => (q.k == partK (fs.getD p.toNat noF).k) && kindsB fs ov ps
def canB (fs : List Fd) (ov : List Int) (ps : List Pt) : Bool := decide (ps.length ≤ ov.length) && (kindsB fs ov ps && ps.all vldB)
def probeP (t : Tb) (p : Int) (ps : List Pt) (op : Bool) : List UInt8 × Int :=
  if placeB t p = false then ([], 75) else
  if canB t.fs (t.xs.getD p.toNat noX).ov ps = false then ([], 76) else
  if (encAns op (if (t.xs.getD p.toNat noX).l then ps.map lowPt else ps)).2 ≠ 0 then ([], 74) else ((encAns op (if (t.xs.getD p.toNat noX).l then ps.map lowPt else ps)).1, 0)
theorem cmp_nil (ps : List Pt) : (cmpAns ps []).2 = if ps.all vldB then 0 else 10 := by
  unfold cmpAns
  cases h : ps.all vldB <;> simp

set_option maxRecDepth 100000 in
set_option maxHeartbeats 2000000 in
theorem canBegin_calls (fa : Option Addr) (fc : Nat) (fs : List Fd) (va : Option Addr) (vc : Nat) (ov : List Int) (pa : Option Addr) (pc : Nat) (ps : List Pt) (w : World) (hfm : fs.length ≤ 16) (hom : ov.length ≤ 4) (hpl : ∀ p ∈ ov, 0 ≤ p ∧ p < fs.length) (hpm : ps.length ≤ 4398046511103)
    (hf : CellsAt w fa (fcs fs)) (ho : CellsAt w va (ics ov)) (hp : PartsAt w pa ps) :
    Calls Try.prog 27 #[.slice fa fs.length fc, .slice va ov.length vc, .slice pa ps.length pc] w fun e w' => e = .returned (.bool (canB fs ov ps)) ∧ Below w.heap.size w w' := by
  have HF : Hid (CellsAt w fa (fcs fs)) := hf
  have HO : Hid (CellsAt w va (ics ov)) := ho
  have HP : Hid (PartsAt w pa ps) := hp
  have HPL : Hid (∀ p ∈ ov, 0 ≤ p ∧ p < fs.length) := hpl
  clear hf ho hp hpl
  by_cases hl : ps.length ≤ ov.length
  · have HC : Hid (canB fs ov ps = (kindsB fs ov ps && ps.all vldB)) := by unfold canB; rw [Hid, decide_eq_true hl]; rfl
    have q1 : ¬ ((ov.length : Int) < (ps.length : Int)) := by omega
    have HLE : Hid (ps.length ≤ ov.length) := hl
    clear hl
    go_enter Try.func27, Try.ntmps27
    go_wp2
    go_loopw [7, 8, 18] (fun a7 a8 i wr => ∃ k : Nat, k ≤ ps.length ∧ i = .int .i64 k ∧ Hid (kindsB fs ov ps = kindsB fs (ov.drop k) (ps.drop k)) ∧ Hid (Below w.heap.size w wr)) (fun _ _ i _ => ps.length - (intOf i).toNat)
    case atStart => exact ⟨0, Nat.zero_le _, rfl, rfl, Below.refl _ _⟩
    case round =>
      obtain ⟨k, hk, rfl, HE, HB⟩ := hrel
      by_cases hlt : k < ps.length
      · have hko : k < ov.length := by have := HLE.out; omega
        obtain ⟨ob, oo, rfl, o0⟩ := (HO.out.below HB.out).num k hko
        obtain ⟨pb, po, rfl, p0, p1, p2, -⟩ := (HP.out.below HB.out) k _ (List.getElem?_eq_getElem hlt)
        have hpl := HPL.out ov[k] (List.getElem_mem hko)
        obtain ⟨p, hp⟩ : ∃ p : Nat, ov[k] = (p : Int) := ⟨ov[k].toNat, by omega⟩
        have hpf : p < fs.length := by omega
        have HS : Hid (kindsB fs ov ps = ((ps[k].k == partK fs[p].k) && kindsB fs (ov.drop (k + 1)) (ps.drop (k + 1)))) := by
          rw [Hid, HE.out, List.drop_eq_getElem_cons hko, List.drop_eq_getElem_cons hlt, hp]
          show ((ps[k].k == partK (fs.getD p noF).k) && _) = _
          rw [List.getD_eq_getElem?_getD, List.getElem?_eq_getElem hpf]
          rfl
        rw [hp] at o0
        clear hpl hp
        have HPK := partKind_calls fa fc fs p ((wr.alloc (.cells #[.int .i64 ps[k].k, .string ps[k].t, .int .u64 ps[k].n] 57)).drew) hfm hpf (HF.out.below (by have h := HB.out.alloc HB.out.size (.cells #[.int .i64 ps[k].k, .string ps[k].t, .int .u64 ps[k].n] 57); exact ⟨h.os, h.tape, h.output, h.size, h.block⟩))
        have HPK : Hid (Calls Try.prog 42 #[.slice fa fs.length fc, .int .i64 p] (wr.alloc (.cells #[.int .i64 ps[k].k, .string ps[k].t, .int .u64 ps[k].n] 57)).drew fun e w' => e = .returned (.int .i64 (partK fs[p].k)) ∧ w' = (wr.alloc (.cells #[.int .i64 ps[k].k, .string ps[k].t, .int .u64 ps[k].n] 57)).drew) := HPK
        have hobl : ob < wr.heap.size := World.block_lt_of_cell? wr _ o0
        go_upto_region 6 with fail
        obtain ⟨w3, hw3⟩ : ∃ w3, w3 = wr.alloc (.cells #[.int .i64 ps[k].k, .string ps[k].t, .int .u64 ps[k].n] 57) := ⟨_, rfl⟩
        rw [← hw3] at HPK ⊢
        have hb3 : Below wr.heap.size wr w3 := by rw [hw3]; exact (Below.refl _ _).alloc (Nat.le_refl _) _
        have b0 : w3.cell? ⟨wr.heap.size, 0, none⟩ = some (.int .i64 ps[k].k) := by rw [hw3, cell_blk (new_blk _ _)]; rfl
        have o0' : w3.cell? ⟨ob, oo + k, none⟩ = some (.int .i64 p) := by rw [hb3.cell (by exact hobl)]; exact o0
        have HB3 : Hid (Below w.heap.size w w3) := HB.out.trans (hb3.mono HB.out.size)
        have hi1 : (k : Int) < (ov.length : Int) := by omega
        have hi0 : (0 : Int) ≤ (k : Int) := by omega
        clear hw3 hb3 o0 p0 p1 p2
        go_region_held3 (fun W => W.cell? ⟨wr.heap.size, 0, none⟩ = some (.int .i64 ps[k].k) ∧ W.cell? ⟨ob, oo + k, none⟩ = some (.int .i64 p)) (first | (exact q3) | go_keep)
          (first
            | (go_at_call 42
               refine HPK.out.mono ?_
               rintro e w5 ⟨rfl, hw5⟩
               have q3 : w5.cell? ⟨wr.heap.size, 0, none⟩ = some (.int .i64 ps[k].k) ∧ w5.cell? ⟨ob, oo + k, none⟩ = some (.int .i64 p) := by rw [hw5]; exact ⟨b0, o0'⟩
               have HB5 : Hid (Below w.heap.size w w5) := by rw [hw5]; exact ⟨HB3.out.os, HB3.out.tape, HB3.out.output, HB3.out.size, HB3.out.block⟩
               clear hw5))
        clear q3 b0 o0' HPK
        cases he : (ps[k].k == partK fs[p].k) with
        | true =>
          rw [he, Bool.true_and] at HS
          go_wp2
          go_roundw
          case rel => exact ⟨k + 1, by omega, by go_num, HS, HB5⟩
          case measure => simp [intOf]; omega
        | false =>
          have HQ : Hid (false = canB fs ov ps) := by rw [Hid, HC.out, HS.out, he]; rfl
          go_wp2
          go_ret
          exact ⟨ret_bool HQ.out, HB5.out⟩
      · have HK1 : Hid (kindsB fs ov ps = true) := by
          rw [Hid, HE.out, show ps.drop k = [] from List.drop_of_length_le (by omega)]
          cases ov.drop k <;> rfl
        have HCM := compare_calls pa none pc 0 ps [] wr (by omega) (by simp) (HP.out.below HB.out) (fun i p h => by simp at h)
        have HCM : Hid (Calls Try.prog 43 #[.slice pa ps.length pc, .slice none 0 0] wr fun e w' => e = .returned (.tuple #[.int .i64 (cmpAns ps []).1, .int .i64 (cmpAns ps []).2]) ∧ Below wr.heap.size wr w') := HCM
        go_wp2_with fail
        refine HCM.out.mono ?_
        clear HCM
        rintro e w5 ⟨rfl, hb5⟩
        have HB5 : Hid (Below w.heap.size w w5) := HB.out.trans (hb5.mono HB.out.size)
        have hcn := cmp_nil ps
        generalize cmpAns ps [] = ca at *
        obtain ⟨c1, c2⟩ := ca
        dsimp only at hcn
        cases hv : ps.all vldB with
        | true =>
          rw [hv, if_pos rfl] at hcn
          subst hcn
          have HQ : Hid (true = canB fs ov ps) := by rw [Hid, HC.out, HK1.out, hv]; rfl
          clear hb5 hv
          go_wp2
          go_ret
          exact ⟨ret_bool HQ.out, HB5.out⟩
        | false =>
          rw [hv, if_neg (by simp)] at hcn
          subst hcn
          have HQ : Hid (false = canB fs ov ps) := by rw [Hid, HC.out, HK1.out, hv]; rfl
          clear hb5 hv
          go_wp2
          go_ret
          exact ⟨ret_bool HQ.out, HB5.out⟩
  · have HC : Hid (false = canB fs ov ps) := by unfold canB; rw [Hid, decide_eq_false hl]; rfl
    have q1 : (ov.length : Int) < (ps.length : Int) := by omega
    clear hl
    go_enter Try.func27, Try.ntmps27
    go_wp2
    go_ret
    exact ⟨ret_bool HC.out, Below.refl _ _⟩

set_option maxRecDepth 100000 in
set_option maxHeartbeats 2000000 in
theorem probe_calls (t : TV) (p : Int) (b off pc : Nat) (ps : List Pt) (op : Bool) (w : World) (hp : -9223372036854775808 ≤ p ∧ p ≤ 9223372036854775807) (hpm : ps.length ≤ 4398046511103) (ht : TRd w t) (hps : PartsAt w (some ⟨b, off, none⟩) ps) :
    Calls Try.prog 17 #[.agg #[.string t.n, t.fv, t.xv], .int .i64 p, .slice (some ⟨b, off, none⟩) ps.length pc, .bool op] w fun e w' => e = .returned (.tuple #[.string ⟨(probeP t.tb p ps op).1.toArray⟩, .int .i64 (probeP t.tb p ps op).2]) ∧ Below w.heap.size w w' := by
  have HTR : Hid (TRd w t) := ht
  have HPS : Hid (PartsAt w (some ⟨b, off, none⟩) ps) := hps
  have HKP : Hid (probeP t.tb p ps op = if placeB t.tb p = false then ([], 75) else if canB t.tb.fs (t.tb.xs.getD p.toNat noX).ov ps = false then ([], 76) else if (encAns op (if (t.tb.xs.getD p.toNat noX).l then ps.map lowPt else ps)).2 ≠ 0 then ([], 74) else ((encAns op (if (t.tb.xs.getD p.toNat noX).l then ps.map lowPt else ps)).1, 0)) := rfl
  have hxm := ht.ok.xmost
  have hfm := ht.ok.fmost
  have HHP : Hid (Calls Try.prog 26 #[.agg #[.string t.n, t.fv, t.xv], .int .i64 p] (w.alloc (.cells #[.string t.n, t.fv, t.xv] 29)) fun e w' => e = .returned (.bool (placeB t.tb p)) ∧ Below (w.alloc (.cells #[.string t.n, t.fv, t.xv] 29)).heap.size (w.alloc (.cells #[.string t.n, t.fv, t.xv] 29)) w') := hasPlace_calls t p _ hp hxm
  clear ht hps
  obtain ⟨tn, fs, fa, fc, xs, xa, xc⟩ := t
  dsimp only [TV.fv, TV.xv] at *
  obtain ⟨w2, hw2⟩ : ∃ w2, w2 = w.alloc (.cells #[.string tn, .slice fa fs.length fc, .slice xa xs.length xc] 29) := ⟨_, rfl⟩
  have HB2 : Hid (Below w.heap.size w w2) := by rw [hw2]; exact (Below.refl _ _).alloc (Nat.le_refl _) _
  have HT2 : Hid (w2.heap[w.heap.size]? = some (.cells #[.string tn, .slice fa fs.length fc, .slice xa xs.length xc] 29)) := by rw [Hid, hw2]; exact new_blk _ _
  rw [← hw2] at HHP
  go_enter Try.func17, Try.ntmps17
  go_upto_region 1 with fail
  rw [← hw2]
  clear hw2
  have t0 : w2.cell? ⟨w.heap.size, 0, none⟩ = some (.string tn) := by rw [cell_blk HT2.out]; rfl
  have t1 : w2.cell? ⟨w.heap.size, 1, none⟩ = some (.slice fa fs.length fc) := by rw [cell_blk HT2.out]; rfl
  have t2 : w2.cell? ⟨w.heap.size, 2, none⟩ = some (.slice xa xs.length xc) := by rw [cell_blk HT2.out]; rfl
  go_wp2_with fail
  refine HHP.out.mono ?_
  clear HHP
  rintro e w3 ⟨rfl, hb3⟩
  have HT3 : Hid (w3.heap[w.heap.size]? = some (.cells #[.string tn, .slice fa fs.length fc, .slice xa xs.length xc] 29)) := (hb3.block _ (lt_blk HT2.out)).trans HT2.out
  have HB3 : Hid (Below w.heap.size w w3) := HB2.out.trans (hb3.mono HB2.out.size)
  clear hb3 HT2 HB2 t0 t1 t2
  have t1 : w3.cell? ⟨w.heap.size, 1, none⟩ = some (.slice fa fs.length fc) := by rw [cell_blk HT3.out]; rfl
  have t2 : w3.cell? ⟨w.heap.size, 2, none⟩ = some (.slice xa xs.length xc) := by rw [cell_blk HT3.out]; rfl
  cases hpb : placeB (TV.mk tn fs fa fc xs xa xc).tb p with
  | false =>
    rw [if_pos hpb] at HKP
    clear hpb
    go_wp2
    go_ret2
    rw [HKP.out]
    exact ⟨rfl, HB3.out⟩
  | true =>
  rw [if_neg (by rw [hpb]; simp)] at HKP
  have hpr : 0 ≤ p ∧ p < (xs.length : Int) := by
    unfold placeB at hpb
    simp only [Bool.and_eq_true, decide_eq_true_eq] at hpb
    simpa [TV.tb] using hpb
  clear hpb
  obtain ⟨k, rfl⟩ : ∃ k : Nat, p = (k : Int) := ⟨p.toNat, by omega⟩
  have hlt : k < xs.length := by omega
  have hxg : (TV.mk tn fs fa fc xs xa xc).tb.xs.getD ((k : Int).toNat) noX = xs[k].x := by
    rw [show ((k : Int).toNat) = k from rfl, List.getD_eq_getElem?_getD]
    show ((xs.map (·.x))[k]?).getD noX = _
    rw [List.getElem?_map, List.getElem?_eq_getElem hlt]
    rfl
  rw [hxg] at HKP
  clear hxg
  have hxo := HTR.out.ok.xok xs[k] (List.getElem_mem hlt)
  obtain ⟨xb, xo, rfl, i0, i1, i2, i3, i4⟩ := (HTR.out.xs.below HB3.out).idx k hlt
  have HOV : Hid (CellsAt w3 xs[k].va (ics xs[k].x.ov)) := (HTR.out.below HB3.out).ov _ (List.getElem_mem hlt)
  have HCB : Hid (∀ W, Below w3.heap.size w3 W → Calls Try.prog 27 #[.slice fa fs.length fc, .slice xs[k].va xs[k].x.ov.length xs[k].vc, .slice (some ⟨b, off, none⟩) ps.length pc] W fun e w' => e = .returned (.bool (canB fs xs[k].x.ov ps)) ∧ Below W.heap.size W w') := fun W hW => canBegin_calls fa fc fs xs[k].va xs[k].vc xs[k].x.ov (some ⟨b, off, none⟩) pc ps W hfm hxo.most hxo.place hpm ((HTR.out.below HB3.out).fs.below hW) (HOV.out.below hW) ((HPS.out.below HB3.out).below hW)
  have HKQ : Hid (probeP (TV.mk tn fs fa fc xs (some ⟨xb, xo, none⟩) xc).tb (k : Int) ps op = if canB fs xs[k].x.ov ps = false then ([], 76) else if (encAns op (if xs[k].x.l then ps.map lowPt else ps)).2 ≠ 0 then ([], 74) else ((encAns op (if xs[k].x.l then ps.map lowPt else ps)).1, 0)) := HKP.out
  clear HKP hxo hpr
  have hsl : w.heap.size < w3.heap.size := lt_blk HT3.out
  generalize xs[k] = X at *
  obtain ⟨⟨xn, ov, u, l, s⟩, va, vc⟩ := X
  dsimp only at *
  go_upto_region 4 with fail
  obtain ⟨w4, hw4⟩ : ∃ w4, w4 = w3.alloc (.cells #[.string xn, .slice va ov.length vc, .bool u, .bool l, .bool s] 50) := ⟨_, rfl⟩
  rw [← hw4]
  have hb4 : Below w3.heap.size w3 w4 := by rw [hw4]; exact (Below.refl _ _).alloc (Nat.le_refl _) _
  have HX4 : Hid (w4.heap[w3.heap.size]? = some (.cells #[.string xn, .slice va ov.length vc, .bool u, .bool l, .bool s] 50)) := by rw [Hid, hw4]; exact new_blk _ _
  have s1 : w4.cell? ⟨w.heap.size, 1, none⟩ = some (.slice fa fs.length fc) := by rw [hb4.cell (by exact hsl)]; exact t1
  have y1 : w4.cell? ⟨w3.heap.size, 1, none⟩ = some (.slice va ov.length vc) := by rw [cell_blk HX4.out]; rfl
  have HB4 : Hid (Below w.heap.size w w4) := HB3.out.trans (hb4.mono HB3.out.size)
  clear hw4 i0 i1 i2 i3 i4 t1 t2
  go_wp2_with fail
  refine (HCB.out _ hb4).mono ?_
  clear HCB
  rintro e w5 ⟨rfl, hb5⟩
  have y3 : w5.cell? ⟨w3.heap.size, 3, none⟩ = some (.bool l) := by rw [cell_blk ((hb5.block _ (lt_blk HX4.out)).trans HX4.out)]; rfl
  have HB5 : Hid (Below w.heap.size w w5) := HB4.out.trans (hb5.mono HB4.out.size)
  clear hb5 hb4 HX4 s1 y1
  cases hcb : canB fs ov ps with
  | false =>
    rw [if_pos hcb] at HKQ
    clear hcb
    go_wp2
    go_ret2
    rw [HKQ.out]
    exact ⟨rfl, HB5.out⟩
  | true =>
  rw [if_neg (by rw [hcb]; simp)] at HKQ
  clear hcb
  have HEN : Hid (∀ W a c qs, PartsAt W a qs → qs.length = ps.length → Calls Try.prog 29 #[.slice a ps.length c] W fun e w' => e = .returned (.tuple #[.string ⟨(encAns false qs).1.toArray⟩, .int .i64 (encAns false qs).2]) ∧ Below W.heap.size W w') := fun W a c qs hq hn => by rw [← hn]; exact encode_calls a c qs W (by omega) hq
  have HBG : Hid (∀ W a c qs, PartsAt W a qs → qs.length = ps.length → Calls Try.prog 30 #[.slice a ps.length c] W fun e w' => e = .returned (.tuple #[.string ⟨(encAns true qs).1.toArray⟩, .int .i64 (encAns true qs).2]) ∧ Below W.heap.size W w') := fun W a c qs hq hn => by rw [← hn]; exact begin_calls a c qs W (by omega) hq
  have HLW : Hid (Calls Try.prog 28 #[.slice (some ⟨b, off, none⟩) ps.length pc] w5 fun e w' => (∃ g c, e = .returned (.slice (some ⟨g, 0, none⟩) ps.length c) ∧ OwnP w' w5.heap.size (.slice (some ⟨g, 0, none⟩) ps.length c) (ps.map lowPt)) ∧ Below w5.heap.size w5 w') := lowParts_calls b off pc ps w5 hpm (HPS.out.below HB5.out)
  have HPW : Hid (∀ q ∈ ps.map lowPt, q.wf) := fun q hq => by obtain ⟨r, hr, rfl⟩ := List.mem_map.1 hq; exact lowPt_wf (parts_wf HPS.out r hr)
  cases l with
  | true =>
    rw [if_pos rfl] at HKQ
    go_wp2_with fail
    refine HLW.out.mono ?_
    clear HLW
    rintro e w6 ⟨⟨g, c, rfl, ho6⟩, hb6⟩
    have HB6 : Hid (Below w.heap.size w w6) := HB5.out.trans (hb6.mono HB5.out.size)
    have HP6 : Hid (PartsAt w6 (some ⟨g, 0, none⟩) (ps.map lowPt)) := ho6.parts HPW.out
    clear ho6 hb6
    cases op with
    | true =>
      go_wp2_with fail
      refine (HBG.out _ _ _ _ HP6.out (by simp)).mono ?_
      rintro e w7 ⟨rfl, hb7⟩
      have HB7 : Hid (Below w.heap.size w w7) := HB6.out.trans (hb7.mono HB6.out.size)
      clear hb7 HEN HBG
      generalize encAns true (ps.map lowPt) = E at *
      obtain ⟨E1, E2⟩ := E
      dsimp only at *
      by_cases hE : E2 = 0
      · subst hE
        rw [if_neg (by simp)] at HKQ
        go_wp2
        go_ret2
        rw [HKQ.out]
        exact ⟨rfl, HB7.out⟩
      · have q5 : (E2 == 0) = false := by simpa using hE
        rw [if_pos hE] at HKQ
        clear hE
        go_wp2
        go_ret2
        rw [HKQ.out]
        exact ⟨rfl, HB7.out⟩
    | false =>
      go_wp2_with fail
      refine (HEN.out _ _ _ _ HP6.out (by simp)).mono ?_
      rintro e w7 ⟨rfl, hb7⟩
      have HB7 : Hid (Below w.heap.size w w7) := HB6.out.trans (hb7.mono HB6.out.size)
      clear hb7 HEN HBG
      generalize encAns false (ps.map lowPt) = E at *
      obtain ⟨E1, E2⟩ := E
      dsimp only at *
      by_cases hE : E2 = 0
      · subst hE
        rw [if_neg (by simp)] at HKQ
        go_wp2
        go_ret2
        rw [HKQ.out]
        exact ⟨rfl, HB7.out⟩
      · have q5 : (E2 == 0) = false := by simpa using hE
        rw [if_pos hE] at HKQ
        clear hE
        go_wp2
        go_ret2
        rw [HKQ.out]
        exact ⟨rfl, HB7.out⟩
  | false =>
    rw [show (if false = true then ps.map lowPt else ps) = ps from rfl] at HKQ
    have HP6 : Hid (PartsAt w5 (some ⟨b, off, none⟩) ps) := HPS.out.below HB5.out
    clear HLW HPW
    cases op with
    | true =>
      go_wp2_with fail
      refine (HBG.out _ _ _ _ HP6.out rfl).mono ?_
      rintro e w7 ⟨rfl, hb7⟩
      have HB7 : Hid (Below w.heap.size w w7) := HB5.out.trans (hb7.mono HB5.out.size)
      clear hb7 HEN HBG
      generalize encAns true ps = E at *
      obtain ⟨E1, E2⟩ := E
      dsimp only at *
      by_cases hE : E2 = 0
      · subst hE
        rw [if_neg (by simp)] at HKQ
        go_wp2
        go_ret2
        rw [HKQ.out]
        exact ⟨rfl, HB7.out⟩
      · have q5 : (E2 == 0) = false := by simpa using hE
        rw [if_pos hE] at HKQ
        clear hE
        go_wp2
        go_ret2
        rw [HKQ.out]
        exact ⟨rfl, HB7.out⟩
    | false =>
      go_wp2_with fail
      refine (HEN.out _ _ _ _ HP6.out rfl).mono ?_
      rintro e w7 ⟨rfl, hb7⟩
      have HB7 : Hid (Below w.heap.size w w7) := HB5.out.trans (hb7.mono HB5.out.size)
      clear hb7 HEN HBG
      generalize encAns false ps = E at *
      obtain ⟨E1, E2⟩ := E
      dsimp only at *
      by_cases hE : E2 = 0
      · subst hE
        rw [if_neg (by simp)] at HKQ
        go_wp2
        go_ret2
        rw [HKQ.out]
        exact ⟨rfl, HB7.out⟩
      · have q5 : (E2 == 0) = false := by simpa using hE
        rw [if_pos hE] at HKQ
        clear hE
        go_wp2
        go_ret2
        rw [HKQ.out]
        exact ⟨rfl, HB7.out⟩
end Go.Proofs.Ytjbnbpclelbohaa
