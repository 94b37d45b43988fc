import Derived.Test.YthgcnmilaifkoaaGreatDoorJRn3
/- Layer 13 (journal): Since, Bytes. -/
namespace Go.Proofs.YthgcnmilaifkoaaGreatDoor
open Go.RowKit
set_option linter.unusedVariables false

/-- The frames are those of the entries ps. -/
structure FrsOf (fs : List FV) (ps : List (Int × List Opp)) : Prop where
 len : fs.length = ps.length
 eq : ∀ k (h : k < fs.length) (h2 : k < ps.length), fs[k].l = frmP ps[k]
 ok : ∀ p ∈ ps, PeOk p
theorem FrsOf.drop {fs : List FV} {ps : List (Int × List Opp)} (h : FrsOf fs ps) (n : Nat) : FrsOf (fs.drop n) (ps.drop n) :=
 ⟨by rw [List.length_drop, List.length_drop, h.len], fun k h1 h2 => by
  rw [List.getElem_drop, List.getElem_drop]
  exact h.eq _ _ _, fun p hp => h.ok p (List.mem_of_mem_drop hp)⟩
theorem FrsOf.push {fs : List FV} {ps : List (Int × List Opp)} (h : FrsOf fs ps) {x : FV} {p : Int × List Opp} (hp : PeOk p) (hx : x.l = frmP p) : FrsOf (fs ++ [x]) (ps ++ [p]) :=
 ⟨by simp [h.len], fun k h1 h2 => by
  rcases Nat.lt_or_ge k fs.length with hk | hk
  ·rw [List.getElem_append_left hk, List.getElem_append_left (by rw [← h.len]; exact hk)]
   exact h.eq k hk _
  ·have hk2 : k = fs.length := by simp at h1; omega
   subst hk2
   simp only [List.getElem_concat_length]
   rw [List.getElem_append_right (by rw [h.len]; exact Nat.le_refl _)]
   simp [hx], fun q hq => by
  rcases List.mem_append.1 hq with hq | hq
  ·exact h.ok q hq
  ·rw [List.mem_singleton] at hq; subst hq; exact hp⟩
theorem fbs_of : ∀ {fs : List FV} {ps : List (Int × List Opp)}, FrsOf fs ps → fbs fs = ps.flatMap frmP
 | [], [], _ => rfl
 | [], _ :: _, h => by have := h.len; simp at this
 | _ :: _, [], h => by have := h.len; simp at this
 | x :: fs, p :: ps, h => by
  have h0 : x.l = frmP p := h.eq 0 (by simp) (by simp)
  have ih : fbs fs = ps.flatMap frmP := fbs_of (h.drop 1)
  unfold fbs at ih ⊢
  rw [List.flatMap_cons, List.flatMap_cons, ih, h0]
theorem flat_frm_le : ∀ (ps : List (Int × List Opp)), (∀ p ∈ ps, PeOk p) → (ps.flatMap frmP).length ≤ ps.length * 78802
 | [], _ => by simp
 | p :: ps, h => by
  have h1 := frmP_le (h p (List.mem_cons_self ..))
  have h2 := flat_frm_le ps fun q hq => h q (List.mem_cons_of_mem _ hq)
  rw [List.flatMap_cons, List.length_append, List.length_cons, Nat.succ_mul]
  omega

/-- What Since answers: the entries, in memory of their own. -/
def SinA (w : World) (ps : List (Int × List Opp)) (e : Ending) (w' : World) : Prop := ∃ v es, e = .returned v ∧ es.map EV.p = ps ∧ w'.ownsRow w.heap.size 31 2 v es.length (ecs es) ∧ Up w' w.heap.size es ∧ Below w.heap.size w w'
theorem map_take_snoc {es : List EV} {x : EV} {ps : List (Int × List Opp)} {k : Nat} (h : es.map EV.p = ps.take k) (hk : k < ps.length) (hx : x.p = ps[k]) : (es ++ [x]).map EV.p = ps.take (k + 1) := by
 rw [List.map_append, h, List.take_succ_eq_append_getElem hk, ← hx]
 rfl

set_option maxRecDepth 100000 in
set_option maxHeartbeats 4000000 in
theorem since_calls (B jb : Nat) (first index : Int) (v : Value) (fs : List FV) (ps : List (Int × List Opp)) (w : World) (h0 : 0 ≤ first) (h1 : first ≤ 18446744073709551615) (hi0 : 0 ≤ index) (hi1 : index ≤ 18446744073709551615) (hn : fs.length ≤ 1073741824) (hv : Vs w) (h : JAt w B jb first v fs) (hf : FrsOf fs ps) :
  Calls Tryz.prog 18 #[.pointer (some ⟨jb, 0, none⟩), .int .u64 index] w (SinA w (ps.drop (index - first).toNat)) := by
 have HA := above_calls B jb first index v fs w h0 h1 hi0 hi1 (by omega) h
 have HF : Hid (FrsOf (fs.drop (index - first).toNat) (ps.drop (index - first).toNat)) := hf.drop _
 have HAt : Hid (∀ x ∈ fs.drop (index - first).toNat, FV.At w x) := fun x hx => h.frs x (List.mem_of_mem_drop hx)
 have hS0 : (fs.drop (index - first).toNat).length ≤ 1073741824 := by rw [List.length_drop]; omega
 have HV : Hid (Vs w) := hv
 revert HA HF HAt hS0
 generalize fs.drop (index - first).toNat = S
 generalize ps.drop (index - first).toNat = qs
 intro HA HF HAt hS0
 clear h hf hn hv
 go_enter Tryz.func18, Tryz.ntmps18
 go_wp2_with fail
 refine HA.mono ?_
 clear HA
 rintro e w1 ⟨ao, c, rfl, hc, m, hm⟩
 have HB1 : Hid (Below w.heap.size w w1) := by rw [hm]; exact below_draws _ _
 have HC : Hid (CellsAt w ao (S.map FV.v)) := hc
 clear hc hm
 obtain ⟨n, Hn⟩ : ∃ x, Hid (x = S.length) := ⟨_, rfl⟩
 rw [← Hn.out] at hS0 ⊢
 go_wp2
 go_loopw [5, 15] (fun x i wr => ∃ (k : Nat) (es : List EV), k ≤ n ∧ i = .int .i64 k ∧ es.length = k ∧ Hid (es.map EV.p = qs.take k) ∧ Hid (wr.ownsRow w.heap.size 31 2 x k (ecs es)) ∧ Hid (Up wr w.heap.size es) ∧ Hid (Below w.heap.size w wr)) (fun _ i _ => n - (intOf i).toNat)
 case atStart => exact ⟨0, [], Nat.zero_le _, rfl, rfl, rfl, ⟨by simp [ecs], .inl ⟨rfl, rfl⟩⟩, trivial, HB1⟩
 case round =>
  obtain ⟨k, es, hk, rfl, hel, HM, HR, HU, HB⟩ := hrel
  clear HB1
  by_cases hlt : k < n
  ·have hkS : k < S.length := by rw [← Hn.out]; exact hlt
   have hkq : k < qs.length := by rw [← HF.out.len]; exact hkS
   obtain ⟨b, off, rfl, hck⟩ := frames_at (HC.out.below HB.out) k hkS
   obtain ⟨y, Hy⟩ : ∃ y, Hid (y = S[k]'hkS) := ⟨_, rfl⟩
   obtain ⟨p, Hp⟩ : ∃ p, Hid (p = qs[k]'hkq) := ⟨_, rfl⟩
   have HD : Hid (Calls Tryz.prog 33 #[.slice y.a y.l.length y.c] wr (DecP wr p)) := by
    rw [Hy.out, Hp.out]
    exact decodeP_calls _ _ wr (HF.out.ok _ (List.getElem_mem hkq)) (HF.out.eq k hkS hkq) ((HAt.out _ (List.getElem_mem hkS)).below HB.out) (HV.out.stay HB.out)
   have HMs : Hid (∀ x : EV, x.p = p → (es ++ [x]).map EV.p = qs.take (k + 1)) := fun x hx => map_take_snoc HM.out hkq (hx.trans Hp.out)
   rw [← Hy.out] at hck
   clear Hy Hp hkS hkq HM
   obtain ⟨yl, Hyl⟩ : ∃ x, Hid (x = y.l.length) := ⟨_, rfl⟩
   rw [← Hyl.out] at hck HD
   clear Hyl
   go_wp2_with fail
   refine HD.out.mono ?_
   clear HD hck
   rintro e w4 ⟨a4, c4, l4, N4, rfl, hop, how, hb4⟩
   have hB0 := HB.out.size
   have HB4 : Hid (Below w.heap.size w w4) := HB.out.trans (hb4.mono hB0)
   obtain ⟨z, Hz⟩ : ∃ z : EV, Hid (z = ⟨p.1, a4, c4, l4⟩) := ⟨_, rfl⟩
   have HMz : Hid ((es ++ [z]).map EV.p = qs.take (k + 1)) := HMs.out z (by rw [Hz.out]; simp [EV.p, hop])
   have HU4 : Hid (Up w4 w.heap.size (es ++ [z])) := Up.snoc hb4 (by rw [Hz.out]; exact how) hB0 HU.out HU.out.lt
   have HR4 : Hid (w4.ownsRow w.heap.size 31 2 _ k (ecs es)) := row_below HR.out hb4
   have hB4 := HB4.out.size
   obtain ⟨k4, Hk4⟩ : ∃ x, Hid (x = l4.length) := ⟨_, rfl⟩
   have HZC : Hid (z.cs = [.int .u64 p.1, .slice a4 k4 c4]) := by rw [Hz.out, Hk4.out]; rfl
   rw [← Hk4.out]
   clear HB HU HR HMs hop how Hz Hk4 hb4
   obtain ⟨pi, Hpi⟩ : ∃ x, Hid (x = p.1) := ⟨_, rfl⟩
   rw [← Hpi.out] at HZC ⊢
   clear Hpi
   obtain ⟨w5, Hw5⟩ : ∃ x, Hid (x = w4.alloc (.cells #[.int .u64 pi, .slice a4 k4 c4] 31)) := ⟨_, rfl⟩
   have hb5 : Below w4.heap.size w4 w5 := by rw [Hw5.out]; exact below_new _ _
   have HX5 : Hid (Blk w5 w4.heap.size #[.int .u64 pi, .slice a4 k4 c4] 31) := by rw [Hw5.out]; exact Blk.new _ _ _
   have HB5 : Hid (Below w.heap.size w w5) := HB4.out.trans (hb5.mono hB4)
   have HU5 : Hid (Up w5 w.heap.size (es ++ [z])) := HU4.out.below hb5
   have HR5 := row_below HR4.out hb5
   have HR5 : Hid (w5.ownsRow w.heap.size 31 2 _ k (ecs es)) := HR5
   go_upto_region 6 with fail
   rw [← Hw5.out]
   obtain ⟨g5, Hg5⟩ : ∃ x, Hid (x = w4.heap.size) := ⟨_, rfl⟩
   rw [← Hg5.out] at HX5 ⊢
   clear Hw5 Hg5 hb5 HB4 HU4 HR4 hB4
   have hB5 := HB5.out.size
   have x0 : w5.cell? ⟨g5, 0, none⟩ = some (.int .u64 pi) := HX5.out.cell 0 rfl
   have x1 : w5.cell? ⟨g5, 1, none⟩ = some (.slice a4 k4 c4) := HX5.out.cell 1 rfl
   have HR6 : Hid (∀ u, w5.ownsRow w.heap.size 31 2 u k (ecs es) → (w5.alloc (.cells #[.int .u64 pi, .slice a4 k4 c4] 31)).ownsRow w.heap.size 31 2 u k (ecs es)) := fun u hu => row_below hu (below_new _ _)
   have HC6 : Hid (CellsAt (w5.alloc (.cells #[.int .u64 pi, .slice a4 k4 c4] 31)) (some ⟨w5.heap.size, 0, none⟩) z.cs) := by
    intro _
    refine ⟨w5.heap.size, 0, rfl, fun j u hj => ?_⟩
    rw [Nat.zero_add, World.cell?_alloc_mark]
    rw [HZC.out] at hj
    simpa using hj
   have HZL : Hid (z.cs.length = 1 * 2) := rfl
   go_wp2_with (at_builtin; refine append_src _ rfl (.tmp 25) (.tmp 27) 28 31 _ 2 32 Tryz.underlying28 info_ent rfl (by decide) rfl w.heap.size _ k (ecs es) rfl (HR6.out _ HR5.out) (some ⟨w5.heap.size, 0, none⟩) 1 1 z.cs rfl HZL.out HC6.out (ecs_one z) (by unfold maxLen; omega) (by omega) (by simp; omega) ?_)
   intro v7 w7 ho7 hg7
   have hg7' := hg7.ofAlloc
   have HB7 : Hid (Below w.heap.size w w7) := HB5.out.trans (hg7'.toBelow hB5 fun q hq => (World.ownsRow.lt HR5.out q hq).1)
   have HU7 : Hid (Up w7 w.heap.size (es ++ [z])) := HU5.out.tys (P := fun t => t = 31) (fun q hq => by
    obtain ⟨cs, hc⟩ := row_typed HR5.out q hq
    exact ⟨cs, _, hc, rfl⟩) (Frm.ofGrew hg7') (by decide) (by decide)
   have HR7 : Hid (w7.ownsRow w.heap.size 31 2 v7 (k + 1) (ecs (es ++ [z]))) := by rw [ecs_snoc]; exact ho7
   have hel2 : (es ++ [z]).length = k + 1 := by simp [hel]
   clear hg7 hg7' ho7 HR5 HB5 HU5 HX5 HR6 HC6 HZL x0 x1 hB5
   go_wp2
   go_roundw
   case rel => exact ⟨k + 1, es ++ [z], by omega, by go_num, hel2, HMz, HR7, HU7, HB7⟩
   case measure => simp [intOf]; omega
  ·have HF2 : Hid (es.map EV.p = qs) := by
    show _ = _
    rw [HM.out, List.take_of_length_le (by rw [← HF.out.len, ← Hn.out]; omega)]
   subst hel
   go_wp2
   go_ret
   exact ⟨_, es, rfl, HF2.out, HR.out, HU.out, HB.out⟩

set_option maxRecDepth 100000 in
theorem bytesJ_calls (B jb : Nat) (first index : Int) (v : Value) (fs : List FV) (ps : List (Int × List Opp)) (w : World) (h0 : 0 ≤ first) (h1 : first ≤ 18446744073709551615) (hi0 : 0 ≤ index) (hi1 : index ≤ 18446744073709551615) (hn : fs.length ≤ 8388608) (h : JAt w B jb first v fs) (hf : FrsOf fs ps) :
  Calls Tryz.prog 19 #[.pointer (some ⟨jb, 0, none⟩), .int .u64 index] w fun e w' => ∃ v', e = .returned v' ∧ Own w' w.heap.size v' ((ps.drop (index - first).toNat).flatMap frmP) ∧ Below w.heap.size w w' := by
 have HA := above_calls B jb first index v fs w h0 h1 hi0 hi1 (by omega) h
 have HF : FrsOf (fs.drop (index - first).toNat) (ps.drop (index - first).toNat) := hf.drop _
 have HAt : Hid (∀ x ∈ fs.drop (index - first).toNat, FV.At w x) := fun x hx => h.frs x (List.mem_of_mem_drop hx)
 have hS0 : (fs.drop (index - first).toNat).length ≤ 8388608 := by rw [List.length_drop]; omega
 revert HA HF HAt hS0
 generalize fs.drop (index - first).toNat = S
 generalize ps.drop (index - first).toNat = qs
 intro HA HF HAt hS0
 have HE : Hid (fbs S = qs.flatMap frmP) := fbs_of HF
 have HL : Hid ((fbs S).length ≤ 1099511627776) := by
  show _ ≤ _
  rw [HE.out]
  have h5 := flat_frm_le qs HF.ok
  have h6 : qs.length * 78802 ≤ 8388608 * 78802 := Nat.mul_le_mul_right _ (by rw [← HF.len]; exact hS0)
  omega
 clear h hf hn HF
 go_enter Tryz.func19, Tryz.ntmps19
 go_wp2_with fail
 refine HA.mono ?_
 clear HA
 rintro e w1 ⟨ao, c, rfl, hc, m, hm⟩
 have HB1 : Hid (Below w.heap.size w w1) := by rw [hm]; exact below_draws _ _
 have HC : Hid (Calls Tryz.prog 34 #[.slice ao S.length c] w1 fun e w' => ∃ v, e = .returned v ∧ Own w' w1.heap.size v (fbs S) ∧ Below w1.heap.size w1 w') :=
  concatB_calls ao c S w1 (hc.below HB1.out) (fun x hx => (HAt.out x hx).below HB1.out) HL.out (by omega)
 clear hc hm HL HAt
 generalize S.length = n at *
 go_wp2_with fail
 refine HC.out.mono ?_
 clear HC
 rintro e w2 ⟨v2, rfl, ho, hb⟩
 have HO : Hid (Own w2 w.heap.size v2 (qs.flatMap frmP)) := by rw [← HE.out]; exact row_weak HB1.out.size ho
 have HB2 : Hid (Below w.heap.size w w2) := HB1.out.trans (hb.mono HB1.out.size)
 clear ho hb HE HB1
 go_wp2
 go_ret
 exact ⟨_, rfl, HO.out, HB2.out⟩
end Go.Proofs.YthgcnmilaifkoaaGreatDoor

/- Layer 13 (journal): Append. -/
namespace Go.Proofs.YthgcnmilaifkoaaGreatDoor
open Go.RowKit
set_option linter.unusedVariables false

theorem info_frs : (Tryz.prog.info? 50).map (fun i => (i.zero, i.size, i.bytes)) = some (some (.slice none 0 0), 1, 24) := by kernel_rfl
theorem encE_odd {os : List Opp} (h : soundB os = false) : encE os = 130 := by unfold encE; rw [h]; rfl
theorem encE_ok {os : List Opp} (h : soundB os = true) : encE os = 0 := by unfold encE; rw [h]; rfl
theorem encB_ok {i : Int} {os : List Opp} (h : soundB os = true) : encB i os = frmP (i, os) := by unfold encB; rw [h]; rfl

set_option maxRecDepth 100000 in
set_option maxHeartbeats 2000000 in
theorem appendJ_odd (jb : Nat) (i : Int) (ao : Option Addr) (c : Nat) (l : List OV) (w : World) (hi0 : 0 ≤ i) (hi1 : i ≤ 18446744073709551615) (hv : Vs w) (hl : l.length ≤ 140737488355328) (hok : ∀ x ∈ l, x.ok) (hr : ∀ x ∈ l, x.o.rng) (hat : OpsAt w ao l) (hs : soundB (ops l) = false) :
  Calls Tryz.prog 9 #[.pointer (some ⟨jb, 0, none⟩), .agg #[.int .u64 i, .slice ao l.length c]] w fun e w' => e = .returned (.int .i64 130) ∧ Below w.heap.size w w' := by
 obtain ⟨w1, Hw1⟩ : ∃ x, Hid (x = w.alloc (.cells #[.int .u64 i, .slice ao l.length c] 31)) := ⟨_, rfl⟩
 have hb1 : Below w.heap.size w w1 := by rw [Hw1.out]; exact below_new _ _
 have HX : Hid (Blk w1 w.heap.size #[.int .u64 i, .slice ao l.length c] 31) := by rw [Hw1.out]; exact Blk.new _ _ _
 have HC : Hid (Calls Tryz.prog 12 #[.agg #[.int .u64 i, .slice ao l.length c]] w1 fun e w' => ∃ v', e = .returned (.tuple #[v', .int .i64 130]) ∧ Below w1.heap.size w1 w') :=
  (jencode_calls i ao c l w1 hi0 hi1 (hv.stay hb1) hl hok hr (hat.below hb1)).mono fun e w' ⟨v', he, _, hb⟩ => ⟨v', by rw [he, encE_odd hs], hb⟩
 clear hok hr hat hs hv
 generalize l.length = n at *
 have x0 : w1.cell? ⟨w.heap.size, 0, none⟩ = some (.int .u64 i) := HX.out.cell 0 rfl
 have x1 : w1.cell? ⟨w.heap.size, 1, none⟩ = some (.slice ao n c) := HX.out.cell 1 rfl
 go_enter Tryz.func9, Tryz.ntmps9
 go_upto_region 1 with fail
 rw [← Hw1.out]
 clear Hw1
 go_wp2_with fail
 refine HC.out.mono ?_
 clear HC
 rintro e w2 ⟨v2, rfl, hb2⟩
 have HB2 : Hid (Below w.heap.size w w2) := hb1.trans (hb2.mono hb1.size)
 clear hb1 hb2
 go_wp2
 go_ret
 exact ⟨rfl, HB2.out⟩

/-- What Append answers where the next entry is put in. -/
def AppA (w : World) (B jb : Nat) (first : Int) (v : Value) (fs : List FV) (p : Int × List Opp) (e : Ending) (w' : World) : Prop :=
 e = .returned (.int .i64 0) ∧ Frm (fun k => k = jb ∨ v.ownBlock = some k) w w' ∧ ∃ v' x, x.l = frmP p ∧ JAt w' B jb first v' (fs ++ [x])

set_option maxRecDepth 100000 in
set_option maxHeartbeats 4000000 in
theorem appendJ_snd (B jb : Nat) (first : Int) (v : Value) (fs : List FV) (i : Int) (ao : Option Addr) (c : Nat) (l : List OV) (w : World) (hi0 : 0 ≤ i) (hi1 : i ≤ 18446744073709551615) (h0 : 0 ≤ first) (h1 : first + fs.length ≤ 18446744073709551615) (hn : fs.length ≤ 1073741824) (hBw : B ≤ w.heap.size) (hJ : JAt w B jb first v fs) (hv : Vs w) (hl : l.length ≤ 140737488355328) (hok : ∀ x ∈ l, x.ok) (hr : ∀ x ∈ l, x.o.rng) (hat : OpsAt w ao l) (hs : soundB (ops l) = true) :
  Calls Tryz.prog 9 #[.pointer (some ⟨jb, 0, none⟩), .agg #[.int .u64 i, .slice ao l.length c]] w fun e w' =>
   (i ≠ first + fs.length + 1 → e = .returned (.int .i64 134) ∧ Below w.heap.size w w') ∧ (i = first + fs.length + 1 → AppA w B jb first v fs (i, ops l) e w') := by
 obtain ⟨w1, Hw1⟩ : ∃ x, Hid (x = w.alloc (.cells #[.int .u64 i, .slice ao l.length c] 31)) := ⟨_, rfl⟩
 have hb1 : Below w.heap.size w w1 := by rw [Hw1.out]; exact below_new _ _
 have HX : Hid (Blk w1 w.heap.size #[.int .u64 i, .slice ao l.length c] 31) := by rw [Hw1.out]; exact Blk.new _ _ _
 have HC : Hid (Calls Tryz.prog 12 #[.agg #[.int .u64 i, .slice ao l.length c]] w1 fun e w' => ∃ v', e = .returned (.tuple #[v', .int .i64 0]) ∧ Own w' w1.heap.size v' (frmP (i, ops l)) ∧ Below w1.heap.size w1 w') :=
  (jencode_calls i ao c l w1 hi0 hi1 (hv.stay hb1) hl hok hr (hat.below hb1)).mono fun e w' ⟨v', he, ho, hb⟩ => ⟨v', by rw [he, encE_ok hs], by rw [← encB_ok hs]; exact ho, hb⟩
 have HJ : Hid (JAt w B jb first v fs) := hJ
 clear hok hr hat hs hv hJ
 generalize ops l = os at *
 generalize l.length = n at *
 have x0 : w1.cell? ⟨w.heap.size, 0, none⟩ = some (.int .u64 i) := HX.out.cell 0 rfl
 have x1 : w1.cell? ⟨w.heap.size, 1, none⟩ = some (.slice ao n c) := HX.out.cell 1 rfl
 go_enter Tryz.func9, Tryz.ntmps9
 go_upto_region 1 with fail
 rw [← Hw1.out]
 clear Hw1
 go_wp2_with fail
 refine HC.out.mono ?_
 clear HC x0 x1
 rintro e w2 ⟨v2, rfl, ho2, hb2⟩
 have HB2 : Hid (Below w.heap.size w w2) := hb1.trans (hb2.mono hb1.size)
 have HX2 : Hid (Blk w2 w.heap.size #[.int .u64 i, .slice ao n c] 31) := HX.out.below hb2
 have HO2 : Hid (Own w2 B v2 (frmP (i, os))) := row_weak (Nat.le_trans hBw hb1.size) ho2
 have HJ2 : Hid (JAt w2 B jb first v fs) := HJ.out.below HB2.out
 clear hb1 hb2 ho2 HX
 obtain ⟨g, Hg⟩ : ∃ x, Hid (x = w.heap.size) := ⟨_, rfl⟩
 rw [← Hg.out] at HX2 ⊢
 obtain ⟨fa, fc, hvf⟩ : ∃ fa fc, v = .slice fa fs.length fc := by
  obtain ⟨a, b, e, -⟩ := row_forms HJ.out.row
  exact ⟨a, b, e⟩
 have HLast : Hid (∀ m, Calls Tryz.prog 6 #[.pointer (some ⟨jb, 0, none⟩)] (w2.drewN m) fun e w' => e = .returned (.int .u64 (first + fs.length)) ∧ ∃ k, w' = (w2.drewN m).drewN k) := fun m => by
  refine lastJ_calls jb first fa fs.length fc (w2.drewN m) h0 h1 (by omega) ?_
  rw [← hvf]
  exact HJ2.out.blk.below (below_draws _ _)
 have HNext : Hid (∀ m, Calls Tryz.prog 17 #[.int .u64 i, .int .u64 (first + fs.length)] (w2.drewN m) fun e w' => e = .returned (.bool (decide (i = first + fs.length + 1))) ∧ w' = w2.drewN m) := fun m => isNext_calls i _ _ hi0 hi1 (by omega) h1
 have y0 : w2.cell? ⟨g, 0, none⟩ = some (.int .u64 i) := HX2.out.cell 0 rfl
 obtain ⟨fl, Hfl⟩ : ∃ x, Hid (x = fs.length) := ⟨_, rfl⟩
 rw [← Hfl.out] at HLast HNext hvf h1 hn
 clear HX2 Hg HJ
 go_upto_region 4 with fail
 go_quiet ((first | (go_at_call 6; exact Calls.quiet_of (HLast.out _)) | (go_at_call 17; exact Calls.quiet_of_same (HNext.out _))))
 obtain ⟨w3, Hw3⟩ : ∃ x, Hid (x = w2.drewN nq) := ⟨_, rfl⟩
 have hb3 : Below w2.heap.size w2 w3 := by rw [Hw3.out]; exact below_draws _ _
 have HB3 : Hid (Below w.heap.size w w3) := HB2.out.trans (hb3.mono HB2.out.size)
 have HJ3 : Hid (JAt w3 B jb first v fs) := HJ2.out.below hb3
 have HO3 : Hid (Own w3 B v2 (frmP (i, os))) := row_below HO2.out hb3
 rw [← Hw3.out]
 clear Hw3 hb3 HB2 HJ2 HO2 HLast HNext y0
 by_cases hx : i = first + fl + 1
 ·have hd : decide (i = first + fl + 1) = true := decide_eq_true hx
  have HX1 : Hid (i = first + fs.length + 1) := by rw [← Hfl.out]; exact hx
  rw [hd]
  clear hd hx
  obtain ⟨x, rfl, hxl, -⟩ := own_fv HO3.out
  have hBs : B ≤ w3.heap.size := Nat.le_trans hBw HB3.out.size
  have HXL : Hid (x.l = frmP (i, os)) := hxl
  obtain ⟨w4, Hw4⟩ : ∃ x', Hid (x' = w3.alloc (.cells #[x.v] 50)) := ⟨_, rfl⟩
  have hb4 : Below w3.heap.size w3 w4 := by rw [Hw4.out]; exact below_new _ _
  have HJ4 : Hid (JAt w4 B jb first v fs) := HJ3.out.below hb4
  have HO4 : Hid (Own w4 B x.v x.l) := by rw [HXL.out]; exact row_below HO3.out hb4
  have HB4 : Hid (Below w.heap.size w w4) := HB3.out.trans (hb4.mono HB3.out.size)
  have hBs4 : B ≤ w4.heap.size := Nat.le_trans hBw HB4.out.size
  have HC4 : Hid (CellsAt w4 (some ⟨w3.heap.size, 0, none⟩) [x.v]) := by
   intro _
   refine ⟨w3.heap.size, 0, rfl, fun j u hj => ?_⟩
   rw [Nat.zero_add, Hw4.out, World.cell?_alloc_mark]
   simpa using hj
  have HR4 : Hid (w4.ownsRow B 50 1 (.slice fa fl fc) fl (fs.map FV.v)) := by
   have := HJ4.out.row
   rw [hvf, ← Hfl.out] at this
   exact this
  have z1 : w3.cell? ⟨jb, 1, none⟩ = some (.slice fa fl fc) := by rw [← hvf]; exact HJ3.out.blk.cell 1 rfl
  obtain ⟨g3, Hg3⟩ : ∃ x, Hid (x = w3.heap.size) := ⟨_, rfl⟩
  have Hw4' : Hid (w4 = w3.alloc (.cells #[.slice x.a x.l.length x.c] 50)) := Hw4.out
  have hxv : x.v = .slice x.a x.l.length x.c := rfl
  rw [← Hg3.out] at HC4
  rw [hxv]
  obtain ⟨xl, Hxl⟩ : ∃ y, Hid (y = x.l.length) := ⟨_, rfl⟩
  rw [← Hxl.out] at Hw4' ⊢
  clear hb4 HJ3 HO3 HB3 hxl hBs hxv Hw4
  go_wp2_with (at_builtin; rw [← Hg3.out, ← Hw4'.out]; clear Hw4' z1 Hg3; refine append_src _ rfl (.tmp 25) (.tmp 27) 55 50 (.slice none 0 0) 1 24 Tryz.underlying55 info_frs rfl (by decide) rfl B _ fl (fs.map FV.v) rfl HR4.out (some ⟨g3, 0, none⟩) 1 1 [x.v] rfl rfl HC4.out (fun u hu => by rw [List.mem_singleton] at hu; subst hu; rfl) (by unfold maxLen; omega) (by omega) hBs4 ?_)
  intro v5 w5 ho5 hg5
  obtain ⟨va, vc, rfl, -⟩ := row_forms ho5
  have hT : Tys w4 (fun k => (Value.slice fa fl fc).ownBlock = some k) (fun t => t = 50) := fun k hk => by
   obtain ⟨cs, hc⟩ := row_typed HR4.out k hk
   exact ⟨cs, _, hc, rfl⟩
  have hF5 := Frm.ofGrew hg5
  have HK5 : Hid (Blk w5 jb #[.int .u64 first, v] 57) := hT.blk hF5 HJ4.out.blk (by decide)
  have HW5 : Hid (∀ y ∈ fs ++ [x], Own w5 B y.v y.l) := fun y hy => by
   rcases List.mem_append.1 hy with hy | hy
   ·exact hT.row hF5 (HJ4.out.own y hy) (by decide)
   ·rw [List.mem_singleton] at hy
    subst hy
    exact hT.row hF5 HO4.out (by decide)
  have HR5 : Hid (w5.ownsRow B 50 1 (.slice va (fl + 1) vc) (fs ++ [x]).length ((fs ++ [x]).map FV.v)) := by
   show World.ownsRow _ _ _ _ _ _ _
   rw [List.length_append, List.map_append, ← Hfl.out]
   exact ho5
  have HF5 : Hid (Frm (fun k => k = jb ∨ v.ownBlock = some k) w w5) := (Frm.ofBelow HB4.out _).trans (hF5.weaken fun k _ hk => .inr (by rw [hvf]; exact hk))
  have c5 : w5.cell? ⟨jb, 1, none⟩ = some v := HK5.out.cell 1 rfl
  have f5 : w5.frozen? ⟨jb, 1, none⟩ = false := HK5.out.open 1
  have HLow := HJ4.out.low
  rw [hvf] at c5
  clear ho5 hg5 hT hF5 HR4 HC4 HO4 HB4 HJ4
  go_wp2
  go_ret
  refine ⟨fun h => absurd HX1.out h, fun _ => ⟨rfl, HF5.out.setCell _ _ (.inl (.inl rfl)), .slice va (fl + 1) vc, x, HXL.out, ?_, ?_, ?_, HLow⟩⟩
  ·have := Lib.heap_setCell_same (i := 1) HK5.out (.slice va (fl + 1) vc)
   simpa [Blk] using this
  ·exact row_set (a := ⟨jb, 1, none⟩) HR5.out (row_ne (b := jb) HR5.out HK5.out (by decide)) _
  ·exact fun y hy => row_set (a := ⟨jb, 1, none⟩) (HW5.out y hy) (row_ne (b := jb) (HW5.out y hy) HK5.out (by decide)) _
 ·have hd : decide (i = first + fl + 1) = false := decide_eq_false hx
  have HX1 : Hid (¬ i = first + fs.length + 1) := by rw [← Hfl.out]; exact hx
  rw [hd]
  clear hd hx
  go_wp2
  go_ret
  exact ⟨fun _ => ⟨rfl, HB3.out⟩, fun h => absurd h HX1.out⟩
end Go.Proofs.YthgcnmilaifkoaaGreatDoor
