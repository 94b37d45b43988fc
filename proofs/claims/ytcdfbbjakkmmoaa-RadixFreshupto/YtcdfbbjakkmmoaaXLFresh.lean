/- RadixFresh: the whole walk. -/
import Derived.Test.YtcdfbbjakkmmoaaXFr
import Derived.Test.YtcdfbbjakkmmoaaXGrown
import Derived.Test.YtcdfbbjakkmmoaaXGetD
import Derived.Test.YtcdfbbjakkmmoaaXShown
import Derived.Test.YtcdfbbjakkmmoaaRgInv
import Derived.Test.YtcdfbbjakkmmoaaXLShape
namespace Go.Proofs.Ytcdfbbjakkmmoaa
open Go.RowKit Go.Shelf
set_option linter.unusedVariables false

theorem pths_of {w W : World} {tb : Nat} {T : Tr} {ne : Int} {n : Nat} {es : List En} (h : Held w W tb T ne n es) (hC : Canon T) : pths (n + 1) T = pathsOf es := pths_paths h.good.wf hC h.good.root h.good.dep h.has h.sorted
theorem root_nd {T : Tr} (h : T.p = kE) (k : ByteArray) : T.path <+: k.data.toList := root_pre h _

set_option maxRecDepth 100000 in
set_option maxHeartbeats 4000000 in
theorem radixFresh_ins (ao : Option Addr) (cap : Nat) (ks : List ByteArray) (k : ByteArray) (w : World) (hk : StrsAt w ao ks) (hl : ks.length ≤ 2097152) (hks : k.size ≤ 140737488351296) :
    Calls Try.prog 4 #[.slice ao ks.length cap, .string k, .bool false] w fun e w' => e = .returned (.bool true) ∧ Below w.heap.size w w' := by
  have hnot : ∀ (x : Bool) (w : World), (Op.unary .not (.bool x)).run Try.prog w = .ok (.bool (!x)) w := fun _ _ => rfl
  go_enter Try.func4, Try.ntmps4
  go_wp2_with fail
  refine (alive3_calls w).mono ?_
  rintro e w1 ⟨rfl, hb1⟩
  have HBU := built3h_calls ao cap ks w1 (hk.below hb1) (by omega)
  have HB1 : Hid (Below w.heap.size w w1) := hb1
  have HSK : Hid (StrsAt w ao ks) := hk
  clear hb1 hk
  go_wp2_with fail
  refine HBU.mono ?_
  clear HBU
  rintro e w2 ⟨tA, A, nA, rfl, hH2, hC2⟩
  have HB2 : Hid (Below w.heap.size w w2) := HB1.out.trans (hH2.good.below.mono HB1.out.size)
  have HH2 : Hid (Held w w2 tA A nA ks.length (docK ks ks.length) ∧ Canon A) := ⟨hH2.rebase HB2.out, hC2⟩
  have HMO := modelled_calls ao cap ks w2 (HSK.out.below HB2.out) (by omega)
  clear hH2 hC2 HB1
  go_wp2_with fail
  refine HMO.mono ?_
  clear HMO
  rintro e w3 ⟨d, rfl, hd3, hb3⟩
  obtain ⟨E0, hE0⟩ : ∃ E, E = docK ks ks.length := ⟨_, rfl⟩
  have hel : E0.length ≤ ks.length := by rw [hE0]; exact docK_len _ _
  have hpl := pathsOf_len E0
  rw [← hE0] at hd3 HH2 ⊢
  clear hE0
  obtain ⟨q, hq⟩ : ∃ q, q = (pathsOf E0).length := ⟨_, rfl⟩
  have HQ : Hid (q = (pathsOf E0).length) := hq
  rw [← hq] at hpl ⊢
  obtain ⟨w4, HW4⟩ : ∃ w4, Hid (w4 = w3.alloc (.cells (d.cells E0.length q) 28)) := ⟨_, rfl⟩
  have HI4 : Hid (SpI w w3.heap.size d E0 tA A nA ks.length w4) := by
    have b4 : Below w3.heap.size w3 w4 := by rw [HW4.out]; exact (Below.refl _ _).alloc (Nat.le_refl _) _
    have b24 : Below w2.heap.size w2 w4 := hb3.trans (b4.mono hb3.size)
    refine ⟨HH2.out.1.keep b24, HH2.out.2, hd3.keep b4, ?_, Nat.le_trans HB2.out.size hb3.size⟩
    rw [HW4.out, ← hq]; exact heap_alloc_new _ _
  have HPL : Hid ((pths (ks.length + 1) A).length = q) := by show _ = _; rw [pths_of HI4.out.held HI4.out.canon, hq]
  clear hd3 hb3 HH2 HB2 hq
  unfold Dv.cells at HW4
  unfold Dv.cells
  go_wp2_with fail
  rw [← HW4.out]
  clear HW4
  obtain ⟨mb, hmb⟩ : ∃ mb, mb = w3.heap.size := ⟨_, rfl⟩
  rw [← hmb] at HI4 ⊢
  clear hmb
  go_wp2_with fail
  refine wp_region_invG 16 (fun i v W => match i with
  | 0 => v = .pointer (some ⟨tA, 0, none⟩)
  | 1 => v = .bool false
  | 2 => v = .bool false
  | 3 => v = .pointer (some ⟨tA, 0, none⟩)
  | 4 => v = .pointer (some ⟨tA, 0, none⟩)
  | 5 => v = .int .i64 0
  | 6 => v = .bool false
  | 7 => v = .bool false
  | 8 => v = .bool false
  | 9 => ∃ tb0 a g, v = .pointer (some ⟨tb0, 0, none⟩) ∧ TreeAt W tb0 (.nd a kE none [] g) 0 ∧ w4.heap.size ≤ a
  | 10 => v = .pointer (some ⟨tA, 0, none⟩)
  | 11 => v = .int .i64 (q : Int)
  | 12 => v = .pointer (some ⟨mb, 3, none⟩)
  | 13 => v = .slice d.p.ao q d.p.cap
  | 14 => v = .int .i64 (q : Int)
  | 15 => v = .bool false
  | _ => False) (fun _ => false) (by kernel_rfl) (by kernel_rfl) (by kernel_rfl) [some 23, some 24, some 25, some 26, some 27, some 28, some 29, some 30, some 31, some 32, some 33, some 34, some 35, some 36, some 37, some 38] (by kernel_rfl) ?mono ?hop ?tail
  case mono =>
    intro i v W W' h hb
    match i, h with
    | 0, h => exact h
    | 1, h => exact h
    | 2, h => exact h
    | 3, h => exact h
    | 4, h => exact h
    | 5, h => exact h
    | 6, h => exact h
    | 7, h => exact h
    | 8, h => exact h
    | 9, h => exact h.elim fun tb0 h => h.elim fun a0 h => h.elim fun g0 h => ⟨tb0, a0, g0, h.1, h.2.1.keep hb, h.2.2⟩
    | 10, h => exact h
    | 11, h => exact h
    | 12, h => exact h
    | 13, h => exact h
    | 14, h => exact h
    | 15, h => exact h
  case hop =>
    intro i o hi ho a W hB0 hs hd
    have hW := HI4.out.keep hB0
    match i, hi, ho, hd with
    | 0, _, ho, hd =>
      obtain rfl := Option.some.inj ho
      refine ⟨.inl rfl, ?_⟩
      exact f_move rfl ((hs 7 (by kernel_rfl)).trans rfl) ⟨_, rfl, rfl, Below.refl _ _, fun e => by cases e⟩
    | 1, _, ho, hd =>
      obtain rfl := Option.some.inj ho
      refine ⟨.inl rfl, ?_⟩
      have e0 : a.eval (.tmp 23) = .pointer (some ⟨tA, 0, none⟩) := hd 0 23 (by kernel_rfl) (by kernel_rfl)
      exact wp_valF (v := .bool false) (by unfold execOp; dsimp only; simp only [e0]; go_simp) ⟨_, rfl, rfl, Below.refl _ _, fun e => by cases e⟩
    | 2, _, ho, hd =>
      obtain rfl := Option.some.inj ho
      refine ⟨.inl rfl, ?_⟩
      exact f_move rfl (hd 1 24 (by kernel_rfl) (by kernel_rfl)) ⟨_, rfl, rfl, Below.refl _ _, fun e => by cases e⟩
    | 3, _, ho, hd =>
      obtain rfl := Option.some.inj ho
      have hg : a.eval (.tmp 25) = .bool false := hd 2 25 (by kernel_rfl) (by kernel_rfl)
      refine ⟨.inr ⟨2, false, 25, rfl, by kernel_rfl, hg⟩, ?_⟩
      exact f_move rfl ((hs 7 (by kernel_rfl)).trans rfl) ⟨_, rfl, rfl, Below.refl _ _, fun e => by cases e⟩
    | 4, _, ho, hd =>
      obtain rfl := Option.some.inj ho
      have hg : a.eval (.tmp 25) = .bool false := hd 2 25 (by kernel_rfl) (by kernel_rfl)
      refine ⟨.inr ⟨2, false, 25, rfl, by kernel_rfl, hg⟩, ?_⟩
      exact f_move rfl ((hs 7 (by kernel_rfl)).trans rfl) ⟨_, rfl, rfl, Below.refl _ _, fun e => by cases e⟩
    | 5, _, ho, hd =>
      obtain rfl := Option.some.inj ho
      have hg : a.eval (.tmp 25) = .bool false := hd 2 25 (by kernel_rfl) (by kernel_rfl)
      refine ⟨.inr ⟨2, false, 25, rfl, by kernel_rfl, hg⟩, ?_⟩
      have h1 : a.eval (.tmp 26) = .pointer (some ⟨tA, 0, none⟩) := hd 3 26 (by kernel_rfl) (by kernel_rfl)
      have h2 : a.eval (.tmp 27) = .pointer (some ⟨tA, 0, none⟩) := hd 4 27 (by kernel_rfl) (by kernel_rfl)
      refine wp_callF (f := 13) (vals := #[.pointer (some ⟨tA, 0, none⟩), .pointer (some ⟨tA, 0, none⟩)]) rfl (map2 h1 h2) (by go_simp) ?_
      refine (freshT_calls (fun _ => true) A A tA tA nA nA (ks.length + 1) W hW.held.good.tree hW.held.good.tree hW.held.good.wf hW.held.good.wf hW.held.good.root hW.held.good.dep (Cov.same hW.held.good.wf _) (by rw [HPL.out]; omega)).mono ?_
      rintro e w' ⟨rfl, hb⟩
      rw [show fr (fun _ => true) (ks.length + 1) A = 0 by unfold fr; simp]
      exact ⟨_, rfl, _, rfl, rfl, hb, fun e => by cases e⟩
    | 6, _, ho, hd =>
      obtain rfl := Option.some.inj ho
      have hg : a.eval (.tmp 25) = .bool false := hd 2 25 (by kernel_rfl) (by kernel_rfl)
      refine ⟨.inr ⟨2, false, 25, rfl, by kernel_rfl, hg⟩, ?_⟩
      have e0 : a.eval (.tmp 28) = .int .i64 0 := hd 5 28 (by kernel_rfl) (by kernel_rfl)
      exact wp_valF (v := .bool false) (by unfold execOp; dsimp only; simp only [e0]; go_simp) ⟨_, rfl, rfl, Below.refl _ _, fun e => by cases e⟩
    | 7, _, ho, hd =>
      obtain rfl := Option.some.inj ho
      refine ⟨.inl rfl, ?_⟩
      have h1 : a.eval (.tmp 25) = .bool false := hd 2 25 (by kernel_rfl) (by kernel_rfl)
      have h2 : a.eval (.tmp 29) = .bool false := hd 6 29 (by kernel_rfl) (by kernel_rfl)
      exact f_pickF rfl h1 h2 ⟨_, rfl, rfl, Below.refl _ _, fun e => by cases e⟩
    | 8, _, ho, hd =>
      obtain rfl := Option.some.inj ho
      refine ⟨.inl rfl, ?_⟩
      exact f_move rfl (hd 7 30 (by kernel_rfl) (by kernel_rfl)) ⟨_, rfl, rfl, Below.refl _ _, fun e => by cases e⟩
    | 9, _, ho, hd =>
      obtain rfl := Option.some.inj ho
      have hg : a.eval (.tmp 31) = .bool false := hd 8 31 (by kernel_rfl) (by kernel_rfl)
      refine ⟨.inr ⟨8, false, 31, rfl, by kernel_rfl, hg⟩, ?_⟩
      refine wp_callF (f := 14) (vals := #[]) rfl (by simp) (by go_simp) ?_
      refine (newTree_calls W).mono ?_
      rintro e w' ⟨tb0, a0, g0, rfl, hb, ht, -, ha, -⟩
      exact ⟨_, rfl, _, rfl, ⟨tb0, a0, g0, rfl, ht, Nat.le_trans hB0.size ha⟩, hb, fun e => by cases e⟩
    | 10, _, ho, hd =>
      obtain rfl := Option.some.inj ho
      have hg : a.eval (.tmp 31) = .bool false := hd 8 31 (by kernel_rfl) (by kernel_rfl)
      refine ⟨.inr ⟨8, false, 31, rfl, by kernel_rfl, hg⟩, ?_⟩
      exact f_move rfl ((hs 7 (by kernel_rfl)).trans rfl) ⟨_, rfl, rfl, Below.refl _ _, fun e => by cases e⟩
    | 11, _, ho, hd =>
      obtain rfl := Option.some.inj ho
      have hg : a.eval (.tmp 31) = .bool false := hd 8 31 (by kernel_rfl) (by kernel_rfl)
      refine ⟨.inr ⟨8, false, 31, rfl, by kernel_rfl, hg⟩, ?_⟩
      obtain ⟨tb0, a0, g0, h1, ht, ha⟩ : ∃ tb0 a0 g0, a.eval (.tmp 32) = .pointer (some ⟨tb0, 0, none⟩) ∧ TreeAt W tb0 (.nd a0 kE none [] g0) 0 ∧ w4.heap.size ≤ a0 := hd 9 32 (by kernel_rfl) (by kernel_rfl)
      have h2 : a.eval (.tmp 33) = .pointer (some ⟨tA, 0, none⟩) := hd 10 33 (by kernel_rfl) (by kernel_rfl)
      refine wp_callF (f := 13) (vals := #[.pointer (some ⟨tb0, 0, none⟩), .pointer (some ⟨tA, 0, none⟩)]) rfl (map2 h1 h2) (by go_simp) ?_
      refine (freshT_calls (fun _ => false) (.nd a0 kE none [] g0) A tb0 tA 0 nA (ks.length + 1) W ht hW.held.good.tree (leaf_wf _ _ _ _) hW.held.good.wf rfl hW.held.good.dep (Cov.none rfl _ _ (fun x hx e => by have h3 := (HI4.out.held.good.tree.tat.allLt (Nat.le_refl _)) x hx; have e2 : x.a = a0 := e; omega)) (by rw [HPL.out]; omega)).mono ?_
      rintro e w' ⟨rfl, hb⟩
      rw [fr_none, HPL.out]
      exact ⟨_, rfl, _, rfl, rfl, hb, fun e => by cases e⟩
    | 12, _, ho, hd =>
      obtain rfl := Option.some.inj ho
      have hg : a.eval (.tmp 31) = .bool false := hd 8 31 (by kernel_rfl) (by kernel_rfl)
      refine ⟨.inr ⟨8, false, 31, rfl, by kernel_rfl, hg⟩, ?_⟩
      have e0 : a.eval (.tmp 8) = .pointer (some ⟨mb, 0, none⟩) := (hs 8 (by kernel_rfl)).trans rfl
      exact wp_valF (v := .pointer (some ⟨mb, 3, none⟩)) (by unfold execOp; dsimp only; simp only [e0]; go_simp) ⟨_, rfl, rfl, Below.refl _ _, fun e => by cases e⟩
    | 13, _, ho, hd =>
      obtain rfl := Option.some.inj ho
      have hg : a.eval (.tmp 31) = .bool false := hd 8 31 (by kernel_rfl) (by kernel_rfl)
      refine ⟨.inr ⟨8, false, 31, rfl, by kernel_rfl, hg⟩, ?_⟩
      have h1 : a.eval (.tmp 35) = .pointer (some ⟨mb, 3, none⟩) := hd 12 35 (by kernel_rfl) (by kernel_rfl)
      exact f_loadLS rfl h1 (by rw [cell_of_blk hW.mblk, ← HQ.out]; rfl) ⟨_, rfl, rfl, Below.refl _ _, fun e => by cases e⟩
    | 14, _, ho, hd =>
      obtain rfl := Option.some.inj ho
      have hg : a.eval (.tmp 31) = .bool false := hd 8 31 (by kernel_rfl) (by kernel_rfl)
      refine ⟨.inr ⟨8, false, 31, rfl, by kernel_rfl, hg⟩, ?_⟩
      have e0 : a.eval (.tmp 36) = .slice d.p.ao q d.p.cap := hd 13 36 (by kernel_rfl) (by kernel_rfl)
      exact wp_valF (v := .int .i64 (q : Int)) (by unfold execOp; dsimp only; simp only [resolve, invoke, builtin, List.map_toArray, List.map_cons, List.map_nil, e0]; go_simp) ⟨_, rfl, rfl, Below.refl _ _, fun e => by cases e⟩
    | 15, _, ho, hd =>
      obtain rfl := Option.some.inj ho
      have hg : a.eval (.tmp 31) = .bool false := hd 8 31 (by kernel_rfl) (by kernel_rfl)
      refine ⟨.inr ⟨8, false, 31, rfl, by kernel_rfl, hg⟩, ?_⟩
      have e0 : a.eval (.tmp 34) = .int .i64 (q : Int) := hd 11 34 (by kernel_rfl) (by kernel_rfl)
      have e1 : a.eval (.tmp 37) = .int .i64 (q : Int) := hd 14 37 (by kernel_rfl) (by kernel_rfl)
      exact wp_valF (v := .bool false) (by unfold execOp; dsimp only; simp only [e0, e1]; go_simp) ⟨_, rfl, rfl, Below.refl _ _, fun e => by cases e⟩
    | n + 16, hi, _, _ => exact absurd hi (by omega)
  case tail =>
    intro vs W hB hR _
    have r8 : vs 8 = .bool false := hR 8 (by decide)
    have r15 : vs 15 = .bool false := hR 15 (by decide)
    have HI5 : Hid (SpI w mb d E0 tA A nA ks.length W) := HI4.out.keep hB
    clear hR hB
    simp only [putL, put_lit, List.setIfInBounds_toArray, List.set_cons_succ, List.set_cons_zero, List.drop_succ_cons, List.drop_zero]
    rw [r8, r15]
    clear r8 r15
    obtain ⟨w7, HW7⟩ : ∃ w7, Hid (w7 = W.alloc (.cells #[.int .i64 0, .int .i64 0, .string k, .int .i64 1] 43)) := ⟨_, rfl⟩
    have b7 : Below W.heap.size W w7 := by rw [HW7.out]; exact (Below.refl _ _).alloc (Nat.le_refl _) _
    have HI7 : Hid (SpI w mb d E0 tA A nA ks.length w7) := HI5.out.keep b7
    have HWW : Hid (w.heap.size ≤ w7.heap.size) := HI7.out.held.good.below.size
    have HGR := grownI_calls tA A nA ks.length E0 d w w7 ⟨HI7.out.held, HI7.out.canon, HI7.out.doc⟩ 0 0 rfl k 1 0 hks (by omega) (by omega) HWW.out
    rw [← HQ.out] at HGR
    have HOLT := (HI7.out.held.good.tree.tat.allLt (Nat.le_refl _))
    have HL7 : Hid (AllLt w7.heap.size A) := HOLT
    have b8 := HI7.out.mblk
    rw [← HQ.out] at b8
    have k0 : w7.cell? ⟨mb, 0, none⟩ = some (.slice d.k.ao E0.length d.k.cap) := by rw [cell_of_blk b8]; rfl
    have k1 : w7.cell? ⟨mb, 1, none⟩ = some (.slice d.v.ao E0.length d.v.cap) := by rw [cell_of_blk b8]; rfl
    have k2 : w7.cell? ⟨mb, 2, none⟩ = some (.slice d.l.ao E0.length d.l.cap) := by rw [cell_of_blk b8]; rfl
    have k3 : w7.cell? ⟨mb, 3, none⟩ = some (.slice d.p.ao q d.p.cap) := by rw [cell_of_blk b8]; rfl
    have k4 : w7.cell? ⟨mb, 4, none⟩ = some (.slice d.m.ao q d.m.cap) := by rw [cell_of_blk b8]; rfl
    rw [HW7.out] at k0 k1 k2 k3 k4
    clear HOLT b8 b7 HI5
    unfold Dv.cells at HGR
    go_wp2_with fail
    rw [← HW7.out]
    rw [← HW7.out] at k0 k1 k2 k3 k4
    clear HW7
    refine HGR.mono ?_
    clear HGR
    rintro e w8 ⟨tB, B, nB, d2, z, rfl, hb8, hP8, hR8⟩
    obtain ⟨es2, hes2⟩ : ∃ e, e = insE E0 k 1 := ⟨_, rfl⟩
    rw [← hes2] at hP8 ⊢
    have hn2 := hP8.held.cnt
    have hnn2 := hP8.held.good.hi
    have he2 : es2.length ≤ 2097153 := by omega
    have hpl2 := pathsOf_len es2
    have HP8 : Hid (GrP w w8 tB B nB (ks.length + 1) es2 d2) := hP8
    have HI8 : Hid (SpI w mb d E0 tA A nA ks.length w8) := HI7.out.keep hb8
    obtain ⟨q2, hq2⟩ : ∃ q, q = (pathsOf es2).length := ⟨_, rfl⟩
    have HQ2 : Hid (q2 = (pathsOf es2).length) := hq2
    rw [← hq2] at hpl2 ⊢
    clear hn2 hnn2 hes2 hP8
    obtain ⟨fv, hfv⟩ : ∃ f, f = onW (kyb k) (pathsOf es2) := ⟨_, rfl⟩
    have hfle : fv ≤ 8388608 := by rw [hfv]; have := onW_le (kyb k) (pathsOf es2) (pathsOf es2).length; rw [List.take_length] at this; omega
    have HF8 : Hid (∀ W, Below w8.heap.size w8 W → Calls Try.prog 13 #[.pointer (some ⟨tA, 0, none⟩), .pointer (some ⟨tB, 0, none⟩)] W fun e w' => e = .returned (.int .i64 (fv : Int)) ∧ Below W.heap.size W w') := by
      obtain ⟨N, va, vg, hN, hi⟩ := hR8
      have hpo := pths_of HP8.out.held HP8.out.canon
      have hmx := hi.mx HI8.out.held.good.wf (root_nd HI8.out.held.good.root k) .top (fun x hx => Nat.lt_of_lt_of_le (HL7.out x hx) hN) (ks.length + 1 + 1)
      have hc := hmx.count HP8.out.held.good.wf
      rw [hpo] at hc
      intro W hW
      have := freshT_calls (fun a => decide (a < N)) A B tA tB nA nB (ks.length + 1 + 1) W (HI8.out.held.good.tree.keep hW) (HP8.out.held.good.tree.keep hW) HI8.out.held.good.wf HP8.out.held.good.wf HI8.out.held.good.root HP8.out.held.good.dep (hmx.cov HI8.out.held.good.wf (fun x hx => Nat.lt_of_lt_of_le (HL7.out x hx) hN)) (by rw [hpo]; omega)
      rw [hc] at this
      rw [hfv]; exact this
    clear hR8
    have HFV : Hid (fv = onW (kyb k) (pathsOf es2)) := hfv
    clear hfv hq2 hb8
    obtain ⟨w9, HW9⟩ : ∃ w9, Hid (w9 = w8.alloc (.cells (d2.cells es2.length q2) 28)) := ⟨_, rfl⟩
    have b9 : Below w8.heap.size w8 w9 := by rw [HW9.out]; exact (Below.refl _ _).alloc (Nat.le_refl _) _
    have HI9 : Hid (SpI w mb d E0 tA A nA ks.length w9) := HI8.out.keep b9
    have HP9 : Hid (GrP w w9 tB B nB (ks.length + 1) es2 d2) := HP8.out.keep b9
    have HM9 : Hid (w9.heap[w8.heap.size]? = some (.cells (d2.cells es2.length q2) 28)) := by rw [HW9.out]; exact heap_alloc_new _ _
    have HF9 := HF8.out w9 b9
    obtain ⟨mc, hmc⟩ : ∃ mc, mc = w8.heap.size := ⟨_, rfl⟩
    rw [← hmc] at HM9
    clear b9 HF8 HI8 HP8 HI7 k0 k1 k2 k3 k4
    unfold Dv.cells at HW9
    unfold Dv.cells
    go_wp2_with fail
    rw [← HW9.out, ← hmc]
    clear HW9 hmc
    go_wp2_with fail
    refine HF9.mono ?_
    clear HF9
    rintro e w10 ⟨rfl, hb10⟩
    have HI10 : Hid (SpI w mb d E0 tA A nA ks.length w10) := HI9.out.keep hb10
    have HP10 : Hid (GrP w w10 tB B nB (ks.length + 1) es2 d2) := HP9.out.keep hb10
    have HM10 : Hid (w10.heap[mc]? = some (.cells (d2.cells es2.length q2) 28)) := (hb10.block _ (lt_of_heap HM9.out)).trans HM9.out
    clear hb10 HI9 HP9 HM9
    have HG10 := getD_calls d E0 (pathsOf E0) k w10 HI10.out.doc hks (by omega)
    rw [← HQ.out] at HG10
    have b8 := HI10.out.mblk
    rw [← HQ.out] at b8
    have k0 : w10.cell? ⟨mb, 0, none⟩ = some (.slice d.k.ao E0.length d.k.cap) := by rw [cell_of_blk b8]; rfl
    have k1 : w10.cell? ⟨mb, 1, none⟩ = some (.slice d.v.ao E0.length d.v.cap) := by rw [cell_of_blk b8]; rfl
    have k2 : w10.cell? ⟨mb, 2, none⟩ = some (.slice d.l.ao E0.length d.l.cap) := by rw [cell_of_blk b8]; rfl
    have k3 : w10.cell? ⟨mb, 3, none⟩ = some (.slice d.p.ao q d.p.cap) := by rw [cell_of_blk b8]; rfl
    have k4 : w10.cell? ⟨mb, 4, none⟩ = some (.slice d.m.ao q d.m.cap) := by rw [cell_of_blk b8]; rfl
    obtain ⟨ov, hov⟩ : ∃ o, o = oldV E0 k := ⟨_, rfl⟩
    rw [← hov] at HG10
    unfold Dv.cells at HG10
    clear b8 hov
    obtain ⟨bk, hbk⟩ : ∃ b, b = decide (k ∈ keysOf E0) := ⟨_, rfl⟩
    rw [← hbk] at HG10
    clear hbk
    go_wp2_with fail
    refine HG10.mono ?_
    clear HG10
    rintro e w11 ⟨rfl, hb11⟩
    have HP11 : Hid (GrP w w11 tB B nB (ks.length + 1) es2 d2) := HP10.out.keep hb11
    have HM11 : Hid (w11.heap[mc]? = some (.cells (d2.cells es2.length q2) 28)) := (hb11.block _ (lt_of_heap HM10.out)).trans HM10.out
    clear hb11 HI10 HP10 HM10 k0 k1 k2 k3 k4
    have HO := fun (W : World) (hW : Below w11.heap.size w11 W) => onWay_calls d2 es2 (pathsOf es2) k W (HP11.out.doc.keep hW) hks (by rw [← HQ2.out]; omega)
    rw [← HQ2.out, ← HFV.out] at HO
    unfold Dv.cells at HO
    have HHO : Hid _ := HO
    have k0 : w11.cell? ⟨mc, 0, none⟩ = some (.slice d2.k.ao es2.length d2.k.cap) := by rw [cell_of_blk HM11.out]; rfl
    have k1 : w11.cell? ⟨mc, 1, none⟩ = some (.slice d2.v.ao es2.length d2.v.cap) := by rw [cell_of_blk HM11.out]; rfl
    have k2 : w11.cell? ⟨mc, 2, none⟩ = some (.slice d2.l.ao es2.length d2.l.cap) := by rw [cell_of_blk HM11.out]; rfl
    have k3 : w11.cell? ⟨mc, 3, none⟩ = some (.slice d2.p.ao q2 d2.p.cap) := by rw [cell_of_blk HM11.out]; rfl
    have k4 : w11.cell? ⟨mc, 4, none⟩ = some (.slice d2.m.ao q2 d2.m.cap) := by rw [cell_of_blk HM11.out]; rfl
    have HO1 := HO w11 (Below.refl _ _)
    clear HO
    go_wp2_with fail
    refine HO1.mono ?_
    clear HO1
    rintro e w12 ⟨rfl, hb12⟩
    have HB12 : Hid (Below w.heap.size w w12) := HP11.out.held.good.below.trans (hb12.mono HP11.out.held.good.below.size)
    have HO2 := HHO.out w12 hb12
    have m12 : w12.heap[mc]? = some (.cells (d2.cells es2.length q2) 28) := (hb12.block _ (lt_of_heap HM11.out)).trans HM11.out
    have j0 : w12.cell? ⟨mc, 0, none⟩ = some (.slice d2.k.ao es2.length d2.k.cap) := by rw [cell_of_blk m12]; rfl
    have j1 : w12.cell? ⟨mc, 1, none⟩ = some (.slice d2.v.ao es2.length d2.v.cap) := by rw [cell_of_blk m12]; rfl
    have j2 : w12.cell? ⟨mc, 2, none⟩ = some (.slice d2.l.ao es2.length d2.l.cap) := by rw [cell_of_blk m12]; rfl
    have j3 : w12.cell? ⟨mc, 3, none⟩ = some (.slice d2.p.ao q2 d2.p.cap) := by rw [cell_of_blk m12]; rfl
    have j4 : w12.cell? ⟨mc, 4, none⟩ = some (.slice d2.m.ao q2 d2.m.cap) := by rw [cell_of_blk m12]; rfl
    have d1 : decide ((fv : Int) ≤ (fv : Int)) = true := by simp
    have d3 : decide ((fv : Int) ≤ (fv : Int) + 1) = true := by simp; omega
    clear hb12 m12 k0 k1 k2 k3 k4
    go_wp2_with fail
    refine HO2.mono ?_
    clear HO2
    rintro e w13 ⟨rfl, hb13⟩
    have HB13 : Hid (Below w.heap.size w w13) := HB12.out.trans (hb13.mono HB12.out.size)
    clear hb13
    go_wp2_with fail
    go_ret
    exact ⟨rfl, HB13.out⟩

set_option maxRecDepth 100000 in
set_option maxHeartbeats 4000000 in
theorem radixFresh_del (ao : Option Addr) (cap : Nat) (ks : List ByteArray) (k : ByteArray) (w : World) (hk : StrsAt w ao ks) (hl : ks.length ≤ 2097152) (hks : k.size ≤ 140737488351296) (hin : k ∈ keysOf (docK ks ks.length)) :
    Calls Try.prog 4 #[.slice ao ks.length cap, .string k, .bool true] w fun e w' => e = .returned (.bool true) ∧ Below w.heap.size w w' := by
  have hnot : ∀ (x : Bool) (w : World), (Op.unary .not (.bool x)).run Try.prog w = .ok (.bool (!x)) w := fun _ _ => rfl
  go_enter Try.func4, Try.ntmps4
  go_wp2_with fail
  refine (alive3_calls w).mono ?_
  rintro e w1 ⟨rfl, hb1⟩
  have HBU := built3h_calls ao cap ks w1 (hk.below hb1) (by omega)
  have HB1 : Hid (Below w.heap.size w w1) := hb1
  have HSK : Hid (StrsAt w ao ks) := hk
  clear hb1 hk
  go_wp2_with fail
  refine HBU.mono ?_
  clear HBU
  rintro e w2 ⟨tA, A, nA, rfl, hH2, hC2⟩
  have HB2 : Hid (Below w.heap.size w w2) := HB1.out.trans (hH2.good.below.mono HB1.out.size)
  have HH2 : Hid (Held w w2 tA A nA ks.length (docK ks ks.length) ∧ Canon A) := ⟨hH2.rebase HB2.out, hC2⟩
  have HMO := modelled_calls ao cap ks w2 (HSK.out.below HB2.out) (by omega)
  clear hH2 hC2 HB1
  go_wp2_with fail
  refine HMO.mono ?_
  clear HMO
  rintro e w3 ⟨d, rfl, hd3, hb3⟩
  obtain ⟨E0, hE0⟩ : ∃ E, E = docK ks ks.length := ⟨_, rfl⟩
  have hel : E0.length ≤ ks.length := by rw [hE0]; exact docK_len _ _
  have hpl := pathsOf_len E0
  rw [← hE0] at hd3 HH2 hin ⊢
  clear hE0
  obtain ⟨q, hq⟩ : ∃ q, q = (pathsOf E0).length := ⟨_, rfl⟩
  have HQ : Hid (q = (pathsOf E0).length) := hq
  rw [← hq] at hpl ⊢
  obtain ⟨w4, HW4⟩ : ∃ w4, Hid (w4 = w3.alloc (.cells (d.cells E0.length q) 28)) := ⟨_, rfl⟩
  have HI4 : Hid (SpI w w3.heap.size d E0 tA A nA ks.length w4) := by
    have b4 : Below w3.heap.size w3 w4 := by rw [HW4.out]; exact (Below.refl _ _).alloc (Nat.le_refl _) _
    have b24 : Below w2.heap.size w2 w4 := hb3.trans (b4.mono hb3.size)
    refine ⟨HH2.out.1.keep b24, HH2.out.2, hd3.keep b4, ?_, Nat.le_trans HB2.out.size hb3.size⟩
    rw [HW4.out, ← hq]; exact heap_alloc_new _ _
  have HPL : Hid ((pths (ks.length + 1) A).length = q) := by show _ = _; rw [pths_of HI4.out.held HI4.out.canon, hq]
  clear hd3 hb3 HH2 HB2 hq
  unfold Dv.cells at HW4
  unfold Dv.cells
  go_wp2_with fail
  rw [← HW4.out]
  clear HW4
  obtain ⟨mb, hmb⟩ : ∃ mb, mb = w3.heap.size := ⟨_, rfl⟩
  rw [← hmb] at HI4 ⊢
  clear hmb
  go_wp2_with fail
  refine wp_region_invG 16 (fun i v W => match i with
  | 0 => v = .pointer (some ⟨tA, 0, none⟩)
  | 1 => v = .bool false
  | 2 => v = .bool false
  | 3 => v = .pointer (some ⟨tA, 0, none⟩)
  | 4 => v = .pointer (some ⟨tA, 0, none⟩)
  | 5 => v = .int .i64 0
  | 6 => v = .bool false
  | 7 => v = .bool false
  | 8 => v = .bool false
  | 9 => ∃ tb0 a g, v = .pointer (some ⟨tb0, 0, none⟩) ∧ TreeAt W tb0 (.nd a kE none [] g) 0 ∧ w4.heap.size ≤ a
  | 10 => v = .pointer (some ⟨tA, 0, none⟩)
  | 11 => v = .int .i64 (q : Int)
  | 12 => v = .pointer (some ⟨mb, 3, none⟩)
  | 13 => v = .slice d.p.ao q d.p.cap
  | 14 => v = .int .i64 (q : Int)
  | 15 => v = .bool false
  | _ => False) (fun _ => false) (by kernel_rfl) (by kernel_rfl) (by kernel_rfl) [some 23, some 24, some 25, some 26, some 27, some 28, some 29, some 30, some 31, some 32, some 33, some 34, some 35, some 36, some 37, some 38] (by kernel_rfl) ?mono ?hop ?tail
  case mono =>
    intro i v W W' h hb
    match i, h with
    | 0, h => exact h
    | 1, h => exact h
    | 2, h => exact h
    | 3, h => exact h
    | 4, h => exact h
    | 5, h => exact h
    | 6, h => exact h
    | 7, h => exact h
    | 8, h => exact h
    | 9, h => exact h.elim fun tb0 h => h.elim fun a0 h => h.elim fun g0 h => ⟨tb0, a0, g0, h.1, h.2.1.keep hb, h.2.2⟩
    | 10, h => exact h
    | 11, h => exact h
    | 12, h => exact h
    | 13, h => exact h
    | 14, h => exact h
    | 15, h => exact h
  case hop =>
    intro i o hi ho a W hB0 hs hd
    have hW := HI4.out.keep hB0
    match i, hi, ho, hd with
    | 0, _, ho, hd =>
      obtain rfl := Option.some.inj ho
      refine ⟨.inl rfl, ?_⟩
      exact f_move rfl ((hs 7 (by kernel_rfl)).trans rfl) ⟨_, rfl, rfl, Below.refl _ _, fun e => by cases e⟩
    | 1, _, ho, hd =>
      obtain rfl := Option.some.inj ho
      refine ⟨.inl rfl, ?_⟩
      have e0 : a.eval (.tmp 23) = .pointer (some ⟨tA, 0, none⟩) := hd 0 23 (by kernel_rfl) (by kernel_rfl)
      exact wp_valF (v := .bool false) (by unfold execOp; dsimp only; simp only [e0]; go_simp) ⟨_, rfl, rfl, Below.refl _ _, fun e => by cases e⟩
    | 2, _, ho, hd =>
      obtain rfl := Option.some.inj ho
      refine ⟨.inl rfl, ?_⟩
      exact f_move rfl (hd 1 24 (by kernel_rfl) (by kernel_rfl)) ⟨_, rfl, rfl, Below.refl _ _, fun e => by cases e⟩
    | 3, _, ho, hd =>
      obtain rfl := Option.some.inj ho
      have hg : a.eval (.tmp 25) = .bool false := hd 2 25 (by kernel_rfl) (by kernel_rfl)
      refine ⟨.inr ⟨2, false, 25, rfl, by kernel_rfl, hg⟩, ?_⟩
      exact f_move rfl ((hs 7 (by kernel_rfl)).trans rfl) ⟨_, rfl, rfl, Below.refl _ _, fun e => by cases e⟩
    | 4, _, ho, hd =>
      obtain rfl := Option.some.inj ho
      have hg : a.eval (.tmp 25) = .bool false := hd 2 25 (by kernel_rfl) (by kernel_rfl)
      refine ⟨.inr ⟨2, false, 25, rfl, by kernel_rfl, hg⟩, ?_⟩
      exact f_move rfl ((hs 7 (by kernel_rfl)).trans rfl) ⟨_, rfl, rfl, Below.refl _ _, fun e => by cases e⟩
    | 5, _, ho, hd =>
      obtain rfl := Option.some.inj ho
      have hg : a.eval (.tmp 25) = .bool false := hd 2 25 (by kernel_rfl) (by kernel_rfl)
      refine ⟨.inr ⟨2, false, 25, rfl, by kernel_rfl, hg⟩, ?_⟩
      have h1 : a.eval (.tmp 26) = .pointer (some ⟨tA, 0, none⟩) := hd 3 26 (by kernel_rfl) (by kernel_rfl)
      have h2 : a.eval (.tmp 27) = .pointer (some ⟨tA, 0, none⟩) := hd 4 27 (by kernel_rfl) (by kernel_rfl)
      refine wp_callF (f := 13) (vals := #[.pointer (some ⟨tA, 0, none⟩), .pointer (some ⟨tA, 0, none⟩)]) rfl (map2 h1 h2) (by go_simp) ?_
      refine (freshT_calls (fun _ => true) A A tA tA nA nA (ks.length + 1) W hW.held.good.tree hW.held.good.tree hW.held.good.wf hW.held.good.wf hW.held.good.root hW.held.good.dep (Cov.same hW.held.good.wf _) (by rw [HPL.out]; omega)).mono ?_
      rintro e w' ⟨rfl, hb⟩
      rw [show fr (fun _ => true) (ks.length + 1) A = 0 by unfold fr; simp]
      exact ⟨_, rfl, _, rfl, rfl, hb, fun e => by cases e⟩
    | 6, _, ho, hd =>
      obtain rfl := Option.some.inj ho
      have hg : a.eval (.tmp 25) = .bool false := hd 2 25 (by kernel_rfl) (by kernel_rfl)
      refine ⟨.inr ⟨2, false, 25, rfl, by kernel_rfl, hg⟩, ?_⟩
      have e0 : a.eval (.tmp 28) = .int .i64 0 := hd 5 28 (by kernel_rfl) (by kernel_rfl)
      exact wp_valF (v := .bool false) (by unfold execOp; dsimp only; simp only [e0]; go_simp) ⟨_, rfl, rfl, Below.refl _ _, fun e => by cases e⟩
    | 7, _, ho, hd =>
      obtain rfl := Option.some.inj ho
      refine ⟨.inl rfl, ?_⟩
      have h1 : a.eval (.tmp 25) = .bool false := hd 2 25 (by kernel_rfl) (by kernel_rfl)
      have h2 : a.eval (.tmp 29) = .bool false := hd 6 29 (by kernel_rfl) (by kernel_rfl)
      exact f_pickF rfl h1 h2 ⟨_, rfl, rfl, Below.refl _ _, fun e => by cases e⟩
    | 8, _, ho, hd =>
      obtain rfl := Option.some.inj ho
      refine ⟨.inl rfl, ?_⟩
      exact f_move rfl (hd 7 30 (by kernel_rfl) (by kernel_rfl)) ⟨_, rfl, rfl, Below.refl _ _, fun e => by cases e⟩
    | 9, _, ho, hd =>
      obtain rfl := Option.some.inj ho
      have hg : a.eval (.tmp 31) = .bool false := hd 8 31 (by kernel_rfl) (by kernel_rfl)
      refine ⟨.inr ⟨8, false, 31, rfl, by kernel_rfl, hg⟩, ?_⟩
      refine wp_callF (f := 14) (vals := #[]) rfl (by simp) (by go_simp) ?_
      refine (newTree_calls W).mono ?_
      rintro e w' ⟨tb0, a0, g0, rfl, hb, ht, -, ha, -⟩
      exact ⟨_, rfl, _, rfl, ⟨tb0, a0, g0, rfl, ht, Nat.le_trans hB0.size ha⟩, hb, fun e => by cases e⟩
    | 10, _, ho, hd =>
      obtain rfl := Option.some.inj ho
      have hg : a.eval (.tmp 31) = .bool false := hd 8 31 (by kernel_rfl) (by kernel_rfl)
      refine ⟨.inr ⟨8, false, 31, rfl, by kernel_rfl, hg⟩, ?_⟩
      exact f_move rfl ((hs 7 (by kernel_rfl)).trans rfl) ⟨_, rfl, rfl, Below.refl _ _, fun e => by cases e⟩
    | 11, _, ho, hd =>
      obtain rfl := Option.some.inj ho
      have hg : a.eval (.tmp 31) = .bool false := hd 8 31 (by kernel_rfl) (by kernel_rfl)
      refine ⟨.inr ⟨8, false, 31, rfl, by kernel_rfl, hg⟩, ?_⟩
      obtain ⟨tb0, a0, g0, h1, ht, ha⟩ : ∃ tb0 a0 g0, a.eval (.tmp 32) = .pointer (some ⟨tb0, 0, none⟩) ∧ TreeAt W tb0 (.nd a0 kE none [] g0) 0 ∧ w4.heap.size ≤ a0 := hd 9 32 (by kernel_rfl) (by kernel_rfl)
      have h2 : a.eval (.tmp 33) = .pointer (some ⟨tA, 0, none⟩) := hd 10 33 (by kernel_rfl) (by kernel_rfl)
      refine wp_callF (f := 13) (vals := #[.pointer (some ⟨tb0, 0, none⟩), .pointer (some ⟨tA, 0, none⟩)]) rfl (map2 h1 h2) (by go_simp) ?_
      refine (freshT_calls (fun _ => false) (.nd a0 kE none [] g0) A tb0 tA 0 nA (ks.length + 1) W ht hW.held.good.tree (leaf_wf _ _ _ _) hW.held.good.wf rfl hW.held.good.dep (Cov.none rfl _ _ (fun x hx e => by have h3 := (HI4.out.held.good.tree.tat.allLt (Nat.le_refl _)) x hx; have e2 : x.a = a0 := e; omega)) (by rw [HPL.out]; omega)).mono ?_
      rintro e w' ⟨rfl, hb⟩
      rw [fr_none, HPL.out]
      exact ⟨_, rfl, _, rfl, rfl, hb, fun e => by cases e⟩
    | 12, _, ho, hd =>
      obtain rfl := Option.some.inj ho
      have hg : a.eval (.tmp 31) = .bool false := hd 8 31 (by kernel_rfl) (by kernel_rfl)
      refine ⟨.inr ⟨8, false, 31, rfl, by kernel_rfl, hg⟩, ?_⟩
      have e0 : a.eval (.tmp 8) = .pointer (some ⟨mb, 0, none⟩) := (hs 8 (by kernel_rfl)).trans rfl
      exact wp_valF (v := .pointer (some ⟨mb, 3, none⟩)) (by unfold execOp; dsimp only; simp only [e0]; go_simp) ⟨_, rfl, rfl, Below.refl _ _, fun e => by cases e⟩
    | 13, _, ho, hd =>
      obtain rfl := Option.some.inj ho
      have hg : a.eval (.tmp 31) = .bool false := hd 8 31 (by kernel_rfl) (by kernel_rfl)
      refine ⟨.inr ⟨8, false, 31, rfl, by kernel_rfl, hg⟩, ?_⟩
      have h1 : a.eval (.tmp 35) = .pointer (some ⟨mb, 3, none⟩) := hd 12 35 (by kernel_rfl) (by kernel_rfl)
      exact f_loadLS rfl h1 (by rw [cell_of_blk hW.mblk, ← HQ.out]; rfl) ⟨_, rfl, rfl, Below.refl _ _, fun e => by cases e⟩
    | 14, _, ho, hd =>
      obtain rfl := Option.some.inj ho
      have hg : a.eval (.tmp 31) = .bool false := hd 8 31 (by kernel_rfl) (by kernel_rfl)
      refine ⟨.inr ⟨8, false, 31, rfl, by kernel_rfl, hg⟩, ?_⟩
      have e0 : a.eval (.tmp 36) = .slice d.p.ao q d.p.cap := hd 13 36 (by kernel_rfl) (by kernel_rfl)
      exact wp_valF (v := .int .i64 (q : Int)) (by unfold execOp; dsimp only; simp only [resolve, invoke, builtin, List.map_toArray, List.map_cons, List.map_nil, e0]; go_simp) ⟨_, rfl, rfl, Below.refl _ _, fun e => by cases e⟩
    | 15, _, ho, hd =>
      obtain rfl := Option.some.inj ho
      have hg : a.eval (.tmp 31) = .bool false := hd 8 31 (by kernel_rfl) (by kernel_rfl)
      refine ⟨.inr ⟨8, false, 31, rfl, by kernel_rfl, hg⟩, ?_⟩
      have e0 : a.eval (.tmp 34) = .int .i64 (q : Int) := hd 11 34 (by kernel_rfl) (by kernel_rfl)
      have e1 : a.eval (.tmp 37) = .int .i64 (q : Int) := hd 14 37 (by kernel_rfl) (by kernel_rfl)
      exact wp_valF (v := .bool false) (by unfold execOp; dsimp only; simp only [e0, e1]; go_simp) ⟨_, rfl, rfl, Below.refl _ _, fun e => by cases e⟩
    | n + 16, hi, _, _ => exact absurd hi (by omega)
  case tail =>
    intro vs W hB hR _
    have r8 : vs 8 = .bool false := hR 8 (by decide)
    have r15 : vs 15 = .bool false := hR 15 (by decide)
    have HI5 : Hid (SpI w mb d E0 tA A nA ks.length W) := HI4.out.keep hB
    clear hR hB
    simp only [putL, put_lit, List.setIfInBounds_toArray, List.set_cons_succ, List.set_cons_zero, List.drop_succ_cons, List.drop_zero]
    rw [r8, r15]
    clear r8 r15
    obtain ⟨w7, HW7⟩ : ∃ w7, Hid (w7 = W.alloc (.cells #[.int .i64 1, .int .i64 0, .string k, .int .i64 1] 43)) := ⟨_, rfl⟩
    have b7 : Below W.heap.size W w7 := by rw [HW7.out]; exact (Below.refl _ _).alloc (Nat.le_refl _) _
    have HI7 : Hid (SpI w mb d E0 tA A nA ks.length w7) := HI5.out.keep b7
    have HWW : Hid (w.heap.size ≤ w7.heap.size) := HI7.out.held.good.below.size
    have HGR := grownD_calls tA A nA ks.length E0 d w w7 ⟨HI7.out.held, HI7.out.canon, HI7.out.doc⟩ 1 0 (by decide) k 1 0 hks (by omega) (by omega) HWW.out
    rw [← HQ.out] at HGR
    have HOLT := (HI7.out.held.good.tree.tat.allLt (Nat.le_refl _))
    have HL7 : Hid (AllLt w7.heap.size A) := HOLT
    have b8 := HI7.out.mblk
    rw [← HQ.out] at b8
    have k0 : w7.cell? ⟨mb, 0, none⟩ = some (.slice d.k.ao E0.length d.k.cap) := by rw [cell_of_blk b8]; rfl
    have k1 : w7.cell? ⟨mb, 1, none⟩ = some (.slice d.v.ao E0.length d.v.cap) := by rw [cell_of_blk b8]; rfl
    have k2 : w7.cell? ⟨mb, 2, none⟩ = some (.slice d.l.ao E0.length d.l.cap) := by rw [cell_of_blk b8]; rfl
    have k3 : w7.cell? ⟨mb, 3, none⟩ = some (.slice d.p.ao q d.p.cap) := by rw [cell_of_blk b8]; rfl
    have k4 : w7.cell? ⟨mb, 4, none⟩ = some (.slice d.m.ao q d.m.cap) := by rw [cell_of_blk b8]; rfl
    rw [HW7.out] at k0 k1 k2 k3 k4
    clear HOLT b8 b7 HI5
    unfold Dv.cells at HGR
    go_wp2_with fail
    rw [← HW7.out]
    rw [← HW7.out] at k0 k1 k2 k3 k4
    clear HW7
    refine HGR.mono ?_
    clear HGR
    rintro e w8 ⟨tB, B, nB, d2, z, rfl, hb8, hP8, hR8⟩
    obtain ⟨es2, hes2⟩ : ∃ e, e = delE E0 k := ⟨_, rfl⟩
    rw [← hes2] at hP8 ⊢
    have hn2 := hP8.held.cnt
    have hnn2 := hP8.held.good.hi
    have he2 : es2.length ≤ 2097153 := by omega
    have hpl2 := pathsOf_len es2
    have HP8 : Hid (GrP w w8 tB B nB ks.length es2 d2) := hP8
    have HI8 : Hid (SpI w mb d E0 tA A nA ks.length w8) := HI7.out.keep hb8
    obtain ⟨q2, hq2⟩ : ∃ q, q = (pathsOf es2).length := ⟨_, rfl⟩
    have HQ2 : Hid (q2 = (pathsOf es2).length) := hq2
    rw [← hq2] at hpl2 ⊢
    clear hn2 hnn2 hes2 hP8
    obtain ⟨fv, hfv⟩ : ∃ f, f = onW (kyb k) (pathsOf es2) := ⟨_, rfl⟩
    have hfle : fv ≤ 8388608 := by rw [hfv]; have := onW_le (kyb k) (pathsOf es2) (pathsOf es2).length; rw [List.take_length] at this; omega
    have HF8 : Hid (∀ W, Below w8.heap.size w8 W → Calls Try.prog 13 #[.pointer (some ⟨tA, 0, none⟩), .pointer (some ⟨tB, 0, none⟩)] W fun e w' => e = .returned (.int .i64 (fv : Int)) ∧ Below W.heap.size W w') := by
      obtain ⟨-, N, hN, hi⟩ := hR8.resolve_right (fun h => h.1 hin)
      have hpo := pths_of HP8.out.held HP8.out.canon
      have hmx := hi.mx HI8.out.held.good.wf (root_nd HI8.out.held.good.root k) .top (fun x hx => Nat.lt_of_lt_of_le (HL7.out x hx) hN) (ks.length + 1)
      have hc := hmx.count HP8.out.held.good.wf
      rw [hpo] at hc
      intro W hW
      have := freshT_calls (fun a => decide (a < N)) A B tA tB nA nB (ks.length + 1) W (HI8.out.held.good.tree.keep hW) (HP8.out.held.good.tree.keep hW) HI8.out.held.good.wf HP8.out.held.good.wf HI8.out.held.good.root HP8.out.held.good.dep (hmx.cov HI8.out.held.good.wf (fun x hx => Nat.lt_of_lt_of_le (HL7.out x hx) hN)) (by rw [hpo]; omega)
      rw [hc] at this
      rw [hfv]; exact this
    clear hR8
    have HFV : Hid (fv = onW (kyb k) (pathsOf es2)) := hfv
    clear hfv hq2 hb8
    obtain ⟨w9, HW9⟩ : ∃ w9, Hid (w9 = w8.alloc (.cells (d2.cells es2.length q2) 28)) := ⟨_, rfl⟩
    have b9 : Below w8.heap.size w8 w9 := by rw [HW9.out]; exact (Below.refl _ _).alloc (Nat.le_refl _) _
    have HI9 : Hid (SpI w mb d E0 tA A nA ks.length w9) := HI8.out.keep b9
    have HP9 : Hid (GrP w w9 tB B nB ks.length es2 d2) := HP8.out.keep b9
    have HM9 : Hid (w9.heap[w8.heap.size]? = some (.cells (d2.cells es2.length q2) 28)) := by rw [HW9.out]; exact heap_alloc_new _ _
    have HF9 := HF8.out w9 b9
    obtain ⟨mc, hmc⟩ : ∃ mc, mc = w8.heap.size := ⟨_, rfl⟩
    rw [← hmc] at HM9
    clear b9 HF8 HI8 HP8 HI7 k0 k1 k2 k3 k4
    unfold Dv.cells at HW9
    unfold Dv.cells
    go_wp2_with fail
    rw [← HW9.out, ← hmc]
    clear HW9 hmc
    go_wp2_with fail
    refine HF9.mono ?_
    clear HF9
    rintro e w10 ⟨rfl, hb10⟩
    have HI10 : Hid (SpI w mb d E0 tA A nA ks.length w10) := HI9.out.keep hb10
    have HP10 : Hid (GrP w w10 tB B nB ks.length es2 d2) := HP9.out.keep hb10
    have HM10 : Hid (w10.heap[mc]? = some (.cells (d2.cells es2.length q2) 28)) := (hb10.block _ (lt_of_heap HM9.out)).trans HM9.out
    clear hb10 HI9 HP9 HM9
    have HG10 := getD_calls d E0 (pathsOf E0) k w10 HI10.out.doc hks (by omega)
    rw [← HQ.out] at HG10
    have b8 := HI10.out.mblk
    rw [← HQ.out] at b8
    have k0 : w10.cell? ⟨mb, 0, none⟩ = some (.slice d.k.ao E0.length d.k.cap) := by rw [cell_of_blk b8]; rfl
    have k1 : w10.cell? ⟨mb, 1, none⟩ = some (.slice d.v.ao E0.length d.v.cap) := by rw [cell_of_blk b8]; rfl
    have k2 : w10.cell? ⟨mb, 2, none⟩ = some (.slice d.l.ao E0.length d.l.cap) := by rw [cell_of_blk b8]; rfl
    have k3 : w10.cell? ⟨mb, 3, none⟩ = some (.slice d.p.ao q d.p.cap) := by rw [cell_of_blk b8]; rfl
    have k4 : w10.cell? ⟨mb, 4, none⟩ = some (.slice d.m.ao q d.m.cap) := by rw [cell_of_blk b8]; rfl
    obtain ⟨ov, hov⟩ : ∃ o, o = oldV E0 k := ⟨_, rfl⟩
    rw [← hov, decide_eq_true hin] at HG10
    unfold Dv.cells at HG10
    clear b8 hov
    go_wp2_with fail
    refine HG10.mono ?_
    clear HG10
    rintro e w11 ⟨rfl, hb11⟩
    have HP11 : Hid (GrP w w11 tB B nB ks.length es2 d2) := HP10.out.keep hb11
    have HM11 : Hid (w11.heap[mc]? = some (.cells (d2.cells es2.length q2) 28)) := (hb11.block _ (lt_of_heap HM10.out)).trans HM10.out
    clear hb11 HI10 HP10 HM10 k0 k1 k2 k3 k4
    have HO := fun (W : World) (hW : Below w11.heap.size w11 W) => onWay_calls d2 es2 (pathsOf es2) k W (HP11.out.doc.keep hW) hks (by rw [← HQ2.out]; omega)
    rw [← HQ2.out, ← HFV.out] at HO
    unfold Dv.cells at HO
    have HHO : Hid _ := HO
    have k0 : w11.cell? ⟨mc, 0, none⟩ = some (.slice d2.k.ao es2.length d2.k.cap) := by rw [cell_of_blk HM11.out]; rfl
    have k1 : w11.cell? ⟨mc, 1, none⟩ = some (.slice d2.v.ao es2.length d2.v.cap) := by rw [cell_of_blk HM11.out]; rfl
    have k2 : w11.cell? ⟨mc, 2, none⟩ = some (.slice d2.l.ao es2.length d2.l.cap) := by rw [cell_of_blk HM11.out]; rfl
    have k3 : w11.cell? ⟨mc, 3, none⟩ = some (.slice d2.p.ao q2 d2.p.cap) := by rw [cell_of_blk HM11.out]; rfl
    have k4 : w11.cell? ⟨mc, 4, none⟩ = some (.slice d2.m.ao q2 d2.m.cap) := by rw [cell_of_blk HM11.out]; rfl
    have HO1 := HO w11 (Below.refl _ _)
    clear HO
    go_wp2_with fail
    refine HO1.mono ?_
    clear HO1
    rintro e w12 ⟨rfl, hb12⟩
    have HB12 : Hid (Below w.heap.size w w12) := HP11.out.held.good.below.trans (hb12.mono HP11.out.held.good.below.size)
    have HO2 := HHO.out w12 hb12
    have m12 : w12.heap[mc]? = some (.cells (d2.cells es2.length q2) 28) := (hb12.block _ (lt_of_heap HM11.out)).trans HM11.out
    have j0 : w12.cell? ⟨mc, 0, none⟩ = some (.slice d2.k.ao es2.length d2.k.cap) := by rw [cell_of_blk m12]; rfl
    have j1 : w12.cell? ⟨mc, 1, none⟩ = some (.slice d2.v.ao es2.length d2.v.cap) := by rw [cell_of_blk m12]; rfl
    have j2 : w12.cell? ⟨mc, 2, none⟩ = some (.slice d2.l.ao es2.length d2.l.cap) := by rw [cell_of_blk m12]; rfl
    have j3 : w12.cell? ⟨mc, 3, none⟩ = some (.slice d2.p.ao q2 d2.p.cap) := by rw [cell_of_blk m12]; rfl
    have j4 : w12.cell? ⟨mc, 4, none⟩ = some (.slice d2.m.ao q2 d2.m.cap) := by rw [cell_of_blk m12]; rfl
    have d1 : decide ((fv : Int) ≤ (fv : Int)) = true := by simp
    have d3 : decide ((fv : Int) ≤ (fv : Int) + 1) = true := by simp; omega
    clear hb12 m12 k0 k1 k2 k3 k4
    go_wp2_with fail
    refine HO2.mono ?_
    clear HO2
    rintro e w13 ⟨rfl, hb13⟩
    have HB13 : Hid (Below w.heap.size w w13) := HB12.out.trans (hb13.mono HB12.out.size)
    clear hb13
    go_wp2_with fail
    go_ret
    exact ⟨rfl, HB13.out⟩

set_option maxRecDepth 100000 in
set_option maxHeartbeats 4000000 in
theorem radixFresh_none (ao : Option Addr) (cap : Nat) (ks : List ByteArray) (k : ByteArray) (w : World) (hk : StrsAt w ao ks) (hl : ks.length ≤ 2097152) (hks : k.size ≤ 140737488351296) (hin : k ∉ keysOf (docK ks ks.length)) :
    Calls Try.prog 4 #[.slice ao ks.length cap, .string k, .bool true] w fun e w' => e = .returned (.bool true) ∧ Below w.heap.size w w' := by
  have hnot : ∀ (x : Bool) (w : World), (Op.unary .not (.bool x)).run Try.prog w = .ok (.bool (!x)) w := fun _ _ => rfl
  go_enter Try.func4, Try.ntmps4
  go_wp2_with fail
  refine (alive3_calls w).mono ?_
  rintro e w1 ⟨rfl, hb1⟩
  have HBU := built3h_calls ao cap ks w1 (hk.below hb1) (by omega)
  have HB1 : Hid (Below w.heap.size w w1) := hb1
  have HSK : Hid (StrsAt w ao ks) := hk
  clear hb1 hk
  go_wp2_with fail
  refine HBU.mono ?_
  clear HBU
  rintro e w2 ⟨tA, A, nA, rfl, hH2, hC2⟩
  have HB2 : Hid (Below w.heap.size w w2) := HB1.out.trans (hH2.good.below.mono HB1.out.size)
  have HH2 : Hid (Held w w2 tA A nA ks.length (docK ks ks.length) ∧ Canon A) := ⟨hH2.rebase HB2.out, hC2⟩
  have HMO := modelled_calls ao cap ks w2 (HSK.out.below HB2.out) (by omega)
  clear hH2 hC2 HB1
  go_wp2_with fail
  refine HMO.mono ?_
  clear HMO
  rintro e w3 ⟨d, rfl, hd3, hb3⟩
  obtain ⟨E0, hE0⟩ : ∃ E, E = docK ks ks.length := ⟨_, rfl⟩
  have hel : E0.length ≤ ks.length := by rw [hE0]; exact docK_len _ _
  have hpl := pathsOf_len E0
  rw [← hE0] at hd3 HH2 hin ⊢
  clear hE0
  obtain ⟨q, hq⟩ : ∃ q, q = (pathsOf E0).length := ⟨_, rfl⟩
  have HQ : Hid (q = (pathsOf E0).length) := hq
  rw [← hq] at hpl ⊢
  obtain ⟨w4, HW4⟩ : ∃ w4, Hid (w4 = w3.alloc (.cells (d.cells E0.length q) 28)) := ⟨_, rfl⟩
  have HI4 : Hid (SpI w w3.heap.size d E0 tA A nA ks.length w4) := by
    have b4 : Below w3.heap.size w3 w4 := by rw [HW4.out]; exact (Below.refl _ _).alloc (Nat.le_refl _) _
    have b24 : Below w2.heap.size w2 w4 := hb3.trans (b4.mono hb3.size)
    refine ⟨HH2.out.1.keep b24, HH2.out.2, hd3.keep b4, ?_, Nat.le_trans HB2.out.size hb3.size⟩
    rw [HW4.out, ← hq]; exact heap_alloc_new _ _
  have HPL : Hid ((pths (ks.length + 1) A).length = q) := by show _ = _; rw [pths_of HI4.out.held HI4.out.canon, hq]
  clear hd3 hb3 HH2 HB2 hq
  unfold Dv.cells at HW4
  unfold Dv.cells
  go_wp2_with fail
  rw [← HW4.out]
  clear HW4
  obtain ⟨mb, hmb⟩ : ∃ mb, mb = w3.heap.size := ⟨_, rfl⟩
  rw [← hmb] at HI4 ⊢
  clear hmb
  go_wp2_with fail
  refine wp_region_invG 16 (fun i v W => match i with
  | 0 => v = .pointer (some ⟨tA, 0, none⟩)
  | 1 => v = .bool false
  | 2 => v = .bool false
  | 3 => v = .pointer (some ⟨tA, 0, none⟩)
  | 4 => v = .pointer (some ⟨tA, 0, none⟩)
  | 5 => v = .int .i64 0
  | 6 => v = .bool false
  | 7 => v = .bool false
  | 8 => v = .bool false
  | 9 => ∃ tb0 a g, v = .pointer (some ⟨tb0, 0, none⟩) ∧ TreeAt W tb0 (.nd a kE none [] g) 0 ∧ w4.heap.size ≤ a
  | 10 => v = .pointer (some ⟨tA, 0, none⟩)
  | 11 => v = .int .i64 (q : Int)
  | 12 => v = .pointer (some ⟨mb, 3, none⟩)
  | 13 => v = .slice d.p.ao q d.p.cap
  | 14 => v = .int .i64 (q : Int)
  | 15 => v = .bool false
  | _ => False) (fun _ => false) (by kernel_rfl) (by kernel_rfl) (by kernel_rfl) [some 23, some 24, some 25, some 26, some 27, some 28, some 29, some 30, some 31, some 32, some 33, some 34, some 35, some 36, some 37, some 38] (by kernel_rfl) ?mono ?hop ?tail
  case mono =>
    intro i v W W' h hb
    match i, h with
    | 0, h => exact h
    | 1, h => exact h
    | 2, h => exact h
    | 3, h => exact h
    | 4, h => exact h
    | 5, h => exact h
    | 6, h => exact h
    | 7, h => exact h
    | 8, h => exact h
    | 9, h => exact h.elim fun tb0 h => h.elim fun a0 h => h.elim fun g0 h => ⟨tb0, a0, g0, h.1, h.2.1.keep hb, h.2.2⟩
    | 10, h => exact h
    | 11, h => exact h
    | 12, h => exact h
    | 13, h => exact h
    | 14, h => exact h
    | 15, h => exact h
  case hop =>
    intro i o hi ho a W hB0 hs hd
    have hW := HI4.out.keep hB0
    match i, hi, ho, hd with
    | 0, _, ho, hd =>
      obtain rfl := Option.some.inj ho
      refine ⟨.inl rfl, ?_⟩
      exact f_move rfl ((hs 7 (by kernel_rfl)).trans rfl) ⟨_, rfl, rfl, Below.refl _ _, fun e => by cases e⟩
    | 1, _, ho, hd =>
      obtain rfl := Option.some.inj ho
      refine ⟨.inl rfl, ?_⟩
      have e0 : a.eval (.tmp 23) = .pointer (some ⟨tA, 0, none⟩) := hd 0 23 (by kernel_rfl) (by kernel_rfl)
      exact wp_valF (v := .bool false) (by unfold execOp; dsimp only; simp only [e0]; go_simp) ⟨_, rfl, rfl, Below.refl _ _, fun e => by cases e⟩
    | 2, _, ho, hd =>
      obtain rfl := Option.some.inj ho
      refine ⟨.inl rfl, ?_⟩
      exact f_move rfl (hd 1 24 (by kernel_rfl) (by kernel_rfl)) ⟨_, rfl, rfl, Below.refl _ _, fun e => by cases e⟩
    | 3, _, ho, hd =>
      obtain rfl := Option.some.inj ho
      have hg : a.eval (.tmp 25) = .bool false := hd 2 25 (by kernel_rfl) (by kernel_rfl)
      refine ⟨.inr ⟨2, false, 25, rfl, by kernel_rfl, hg⟩, ?_⟩
      exact f_move rfl ((hs 7 (by kernel_rfl)).trans rfl) ⟨_, rfl, rfl, Below.refl _ _, fun e => by cases e⟩
    | 4, _, ho, hd =>
      obtain rfl := Option.some.inj ho
      have hg : a.eval (.tmp 25) = .bool false := hd 2 25 (by kernel_rfl) (by kernel_rfl)
      refine ⟨.inr ⟨2, false, 25, rfl, by kernel_rfl, hg⟩, ?_⟩
      exact f_move rfl ((hs 7 (by kernel_rfl)).trans rfl) ⟨_, rfl, rfl, Below.refl _ _, fun e => by cases e⟩
    | 5, _, ho, hd =>
      obtain rfl := Option.some.inj ho
      have hg : a.eval (.tmp 25) = .bool false := hd 2 25 (by kernel_rfl) (by kernel_rfl)
      refine ⟨.inr ⟨2, false, 25, rfl, by kernel_rfl, hg⟩, ?_⟩
      have h1 : a.eval (.tmp 26) = .pointer (some ⟨tA, 0, none⟩) := hd 3 26 (by kernel_rfl) (by kernel_rfl)
      have h2 : a.eval (.tmp 27) = .pointer (some ⟨tA, 0, none⟩) := hd 4 27 (by kernel_rfl) (by kernel_rfl)
      refine wp_callF (f := 13) (vals := #[.pointer (some ⟨tA, 0, none⟩), .pointer (some ⟨tA, 0, none⟩)]) rfl (map2 h1 h2) (by go_simp) ?_
      refine (freshT_calls (fun _ => true) A A tA tA nA nA (ks.length + 1) W hW.held.good.tree hW.held.good.tree hW.held.good.wf hW.held.good.wf hW.held.good.root hW.held.good.dep (Cov.same hW.held.good.wf _) (by rw [HPL.out]; omega)).mono ?_
      rintro e w' ⟨rfl, hb⟩
      rw [show fr (fun _ => true) (ks.length + 1) A = 0 by unfold fr; simp]
      exact ⟨_, rfl, _, rfl, rfl, hb, fun e => by cases e⟩
    | 6, _, ho, hd =>
      obtain rfl := Option.some.inj ho
      have hg : a.eval (.tmp 25) = .bool false := hd 2 25 (by kernel_rfl) (by kernel_rfl)
      refine ⟨.inr ⟨2, false, 25, rfl, by kernel_rfl, hg⟩, ?_⟩
      have e0 : a.eval (.tmp 28) = .int .i64 0 := hd 5 28 (by kernel_rfl) (by kernel_rfl)
      exact wp_valF (v := .bool false) (by unfold execOp; dsimp only; simp only [e0]; go_simp) ⟨_, rfl, rfl, Below.refl _ _, fun e => by cases e⟩
    | 7, _, ho, hd =>
      obtain rfl := Option.some.inj ho
      refine ⟨.inl rfl, ?_⟩
      have h1 : a.eval (.tmp 25) = .bool false := hd 2 25 (by kernel_rfl) (by kernel_rfl)
      have h2 : a.eval (.tmp 29) = .bool false := hd 6 29 (by kernel_rfl) (by kernel_rfl)
      exact f_pickF rfl h1 h2 ⟨_, rfl, rfl, Below.refl _ _, fun e => by cases e⟩
    | 8, _, ho, hd =>
      obtain rfl := Option.some.inj ho
      refine ⟨.inl rfl, ?_⟩
      exact f_move rfl (hd 7 30 (by kernel_rfl) (by kernel_rfl)) ⟨_, rfl, rfl, Below.refl _ _, fun e => by cases e⟩
    | 9, _, ho, hd =>
      obtain rfl := Option.some.inj ho
      have hg : a.eval (.tmp 31) = .bool false := hd 8 31 (by kernel_rfl) (by kernel_rfl)
      refine ⟨.inr ⟨8, false, 31, rfl, by kernel_rfl, hg⟩, ?_⟩
      refine wp_callF (f := 14) (vals := #[]) rfl (by simp) (by go_simp) ?_
      refine (newTree_calls W).mono ?_
      rintro e w' ⟨tb0, a0, g0, rfl, hb, ht, -, ha, -⟩
      exact ⟨_, rfl, _, rfl, ⟨tb0, a0, g0, rfl, ht, Nat.le_trans hB0.size ha⟩, hb, fun e => by cases e⟩
    | 10, _, ho, hd =>
      obtain rfl := Option.some.inj ho
      have hg : a.eval (.tmp 31) = .bool false := hd 8 31 (by kernel_rfl) (by kernel_rfl)
      refine ⟨.inr ⟨8, false, 31, rfl, by kernel_rfl, hg⟩, ?_⟩
      exact f_move rfl ((hs 7 (by kernel_rfl)).trans rfl) ⟨_, rfl, rfl, Below.refl _ _, fun e => by cases e⟩
    | 11, _, ho, hd =>
      obtain rfl := Option.some.inj ho
      have hg : a.eval (.tmp 31) = .bool false := hd 8 31 (by kernel_rfl) (by kernel_rfl)
      refine ⟨.inr ⟨8, false, 31, rfl, by kernel_rfl, hg⟩, ?_⟩
      obtain ⟨tb0, a0, g0, h1, ht, ha⟩ : ∃ tb0 a0 g0, a.eval (.tmp 32) = .pointer (some ⟨tb0, 0, none⟩) ∧ TreeAt W tb0 (.nd a0 kE none [] g0) 0 ∧ w4.heap.size ≤ a0 := hd 9 32 (by kernel_rfl) (by kernel_rfl)
      have h2 : a.eval (.tmp 33) = .pointer (some ⟨tA, 0, none⟩) := hd 10 33 (by kernel_rfl) (by kernel_rfl)
      refine wp_callF (f := 13) (vals := #[.pointer (some ⟨tb0, 0, none⟩), .pointer (some ⟨tA, 0, none⟩)]) rfl (map2 h1 h2) (by go_simp) ?_
      refine (freshT_calls (fun _ => false) (.nd a0 kE none [] g0) A tb0 tA 0 nA (ks.length + 1) W ht hW.held.good.tree (leaf_wf _ _ _ _) hW.held.good.wf rfl hW.held.good.dep (Cov.none rfl _ _ (fun x hx e => by have h3 := (HI4.out.held.good.tree.tat.allLt (Nat.le_refl _)) x hx; have e2 : x.a = a0 := e; omega)) (by rw [HPL.out]; omega)).mono ?_
      rintro e w' ⟨rfl, hb⟩
      rw [fr_none, HPL.out]
      exact ⟨_, rfl, _, rfl, rfl, hb, fun e => by cases e⟩
    | 12, _, ho, hd =>
      obtain rfl := Option.some.inj ho
      have hg : a.eval (.tmp 31) = .bool false := hd 8 31 (by kernel_rfl) (by kernel_rfl)
      refine ⟨.inr ⟨8, false, 31, rfl, by kernel_rfl, hg⟩, ?_⟩
      have e0 : a.eval (.tmp 8) = .pointer (some ⟨mb, 0, none⟩) := (hs 8 (by kernel_rfl)).trans rfl
      exact wp_valF (v := .pointer (some ⟨mb, 3, none⟩)) (by unfold execOp; dsimp only; simp only [e0]; go_simp) ⟨_, rfl, rfl, Below.refl _ _, fun e => by cases e⟩
    | 13, _, ho, hd =>
      obtain rfl := Option.some.inj ho
      have hg : a.eval (.tmp 31) = .bool false := hd 8 31 (by kernel_rfl) (by kernel_rfl)
      refine ⟨.inr ⟨8, false, 31, rfl, by kernel_rfl, hg⟩, ?_⟩
      have h1 : a.eval (.tmp 35) = .pointer (some ⟨mb, 3, none⟩) := hd 12 35 (by kernel_rfl) (by kernel_rfl)
      exact f_loadLS rfl h1 (by rw [cell_of_blk hW.mblk, ← HQ.out]; rfl) ⟨_, rfl, rfl, Below.refl _ _, fun e => by cases e⟩
    | 14, _, ho, hd =>
      obtain rfl := Option.some.inj ho
      have hg : a.eval (.tmp 31) = .bool false := hd 8 31 (by kernel_rfl) (by kernel_rfl)
      refine ⟨.inr ⟨8, false, 31, rfl, by kernel_rfl, hg⟩, ?_⟩
      have e0 : a.eval (.tmp 36) = .slice d.p.ao q d.p.cap := hd 13 36 (by kernel_rfl) (by kernel_rfl)
      exact wp_valF (v := .int .i64 (q : Int)) (by unfold execOp; dsimp only; simp only [resolve, invoke, builtin, List.map_toArray, List.map_cons, List.map_nil, e0]; go_simp) ⟨_, rfl, rfl, Below.refl _ _, fun e => by cases e⟩
    | 15, _, ho, hd =>
      obtain rfl := Option.some.inj ho
      have hg : a.eval (.tmp 31) = .bool false := hd 8 31 (by kernel_rfl) (by kernel_rfl)
      refine ⟨.inr ⟨8, false, 31, rfl, by kernel_rfl, hg⟩, ?_⟩
      have e0 : a.eval (.tmp 34) = .int .i64 (q : Int) := hd 11 34 (by kernel_rfl) (by kernel_rfl)
      have e1 : a.eval (.tmp 37) = .int .i64 (q : Int) := hd 14 37 (by kernel_rfl) (by kernel_rfl)
      exact wp_valF (v := .bool false) (by unfold execOp; dsimp only; simp only [e0, e1]; go_simp) ⟨_, rfl, rfl, Below.refl _ _, fun e => by cases e⟩
    | n + 16, hi, _, _ => exact absurd hi (by omega)
  case tail =>
    intro vs W hB hR _
    have r8 : vs 8 = .bool false := hR 8 (by decide)
    have r15 : vs 15 = .bool false := hR 15 (by decide)
    have HI5 : Hid (SpI w mb d E0 tA A nA ks.length W) := HI4.out.keep hB
    clear hR hB
    simp only [putL, put_lit, List.setIfInBounds_toArray, List.set_cons_succ, List.set_cons_zero, List.drop_succ_cons, List.drop_zero]
    rw [r8, r15]
    clear r8 r15
    obtain ⟨w7, HW7⟩ : ∃ w7, Hid (w7 = W.alloc (.cells #[.int .i64 1, .int .i64 0, .string k, .int .i64 1] 43)) := ⟨_, rfl⟩
    have b7 : Below W.heap.size W w7 := by rw [HW7.out]; exact (Below.refl _ _).alloc (Nat.le_refl _) _
    have HI7 : Hid (SpI w mb d E0 tA A nA ks.length w7) := HI5.out.keep b7
    have HWW : Hid (w.heap.size ≤ w7.heap.size) := HI7.out.held.good.below.size
    have HGR := grownD_calls tA A nA ks.length E0 d w w7 ⟨HI7.out.held, HI7.out.canon, HI7.out.doc⟩ 1 0 (by decide) k 1 0 hks (by omega) (by omega) HWW.out
    rw [← HQ.out] at HGR
    have HOLT := (HI7.out.held.good.tree.tat.allLt (Nat.le_refl _))
    have HL7 : Hid (AllLt w7.heap.size A) := HOLT
    have b8 := HI7.out.mblk
    rw [← HQ.out] at b8
    have k0 : w7.cell? ⟨mb, 0, none⟩ = some (.slice d.k.ao E0.length d.k.cap) := by rw [cell_of_blk b8]; rfl
    have k1 : w7.cell? ⟨mb, 1, none⟩ = some (.slice d.v.ao E0.length d.v.cap) := by rw [cell_of_blk b8]; rfl
    have k2 : w7.cell? ⟨mb, 2, none⟩ = some (.slice d.l.ao E0.length d.l.cap) := by rw [cell_of_blk b8]; rfl
    have k3 : w7.cell? ⟨mb, 3, none⟩ = some (.slice d.p.ao q d.p.cap) := by rw [cell_of_blk b8]; rfl
    have k4 : w7.cell? ⟨mb, 4, none⟩ = some (.slice d.m.ao q d.m.cap) := by rw [cell_of_blk b8]; rfl
    rw [HW7.out] at k0 k1 k2 k3 k4
    clear HOLT b8 b7 HI5
    unfold Dv.cells at HGR
    go_wp2_with fail
    rw [← HW7.out]
    rw [← HW7.out] at k0 k1 k2 k3 k4
    clear HW7
    refine HGR.mono ?_
    clear HGR
    rintro e w8 ⟨tB, B, nB, d2, z, rfl, hb8, hP8, hR8⟩
    obtain ⟨es2, hes2⟩ : ∃ e, e = delE E0 k := ⟨_, rfl⟩
    rw [← hes2] at hP8 ⊢
    have hn2 := hP8.held.cnt
    have hnn2 := hP8.held.good.hi
    have he2 : es2.length ≤ 2097153 := by omega
    have hpl2 := pathsOf_len es2
    have HP8 : Hid (GrP w w8 tB B nB ks.length es2 d2) := hP8
    have HI8 : Hid (SpI w mb d E0 tA A nA ks.length w8) := HI7.out.keep hb8
    obtain ⟨q2, hq2⟩ : ∃ q, q = (pathsOf es2).length := ⟨_, rfl⟩
    have HQ2 : Hid (q2 = (pathsOf es2).length) := hq2
    rw [← hq2] at hpl2 ⊢
    clear hn2 hnn2 hes2 hP8
    obtain ⟨fv, hfv⟩ : ∃ f, f = 0 := ⟨_, rfl⟩
    have hfle : fv ≤ 8388608 := by rw [hfv]; omega
    have HF8 : Hid (∀ W, Below w8.heap.size w8 W → Calls Try.prog 13 #[.pointer (some ⟨tA, 0, none⟩), .pointer (some ⟨tB, 0, none⟩)] W fun e w' => e = .returned (.int .i64 (fv : Int)) ∧ Below W.heap.size W w') := by
      obtain ⟨-, rfl, rfl⟩ := hR8.resolve_left (fun h => hin h.1)
      have hpo := pths_of HI8.out.held HI8.out.canon
      intro W hW
      have := freshT_calls (fun _ => true) B B tB tB nA nA (ks.length + 1) W (HI8.out.held.good.tree.keep hW) (HI8.out.held.good.tree.keep hW) HI8.out.held.good.wf HI8.out.held.good.wf HI8.out.held.good.root HI8.out.held.good.dep (Cov.same HI8.out.held.good.wf _) (by rw [hpo, ← HQ.out]; omega)
      rw [show fr (fun _ => true) (ks.length + 1) B = 0 by unfold fr; simp] at this
      rw [hfv]; exact this
    clear hR8
    have HFV : Hid (fv = 0) := hfv
    clear hfv hq2 hb8
    obtain ⟨w9, HW9⟩ : ∃ w9, Hid (w9 = w8.alloc (.cells (d2.cells es2.length q2) 28)) := ⟨_, rfl⟩
    have b9 : Below w8.heap.size w8 w9 := by rw [HW9.out]; exact (Below.refl _ _).alloc (Nat.le_refl _) _
    have HI9 : Hid (SpI w mb d E0 tA A nA ks.length w9) := HI8.out.keep b9
    have HP9 : Hid (GrP w w9 tB B nB ks.length es2 d2) := HP8.out.keep b9
    have HM9 : Hid (w9.heap[w8.heap.size]? = some (.cells (d2.cells es2.length q2) 28)) := by rw [HW9.out]; exact heap_alloc_new _ _
    have HF9 := HF8.out w9 b9
    obtain ⟨mc, hmc⟩ : ∃ mc, mc = w8.heap.size := ⟨_, rfl⟩
    rw [← hmc] at HM9
    clear b9 HF8 HI8 HP8 HI7 k0 k1 k2 k3 k4
    unfold Dv.cells at HW9
    unfold Dv.cells
    go_wp2_with fail
    rw [← HW9.out, ← hmc]
    clear HW9 hmc
    go_wp2_with fail
    refine HF9.mono ?_
    clear HF9
    rintro e w10 ⟨rfl, hb10⟩
    have HI10 : Hid (SpI w mb d E0 tA A nA ks.length w10) := HI9.out.keep hb10
    have HP10 : Hid (GrP w w10 tB B nB ks.length es2 d2) := HP9.out.keep hb10
    have HM10 : Hid (w10.heap[mc]? = some (.cells (d2.cells es2.length q2) 28)) := (hb10.block _ (lt_of_heap HM9.out)).trans HM9.out
    clear hb10 HI9 HP9 HM9
    have HG10 := getD_calls d E0 (pathsOf E0) k w10 HI10.out.doc hks (by omega)
    rw [← HQ.out] at HG10
    have b8 := HI10.out.mblk
    rw [← HQ.out] at b8
    have k0 : w10.cell? ⟨mb, 0, none⟩ = some (.slice d.k.ao E0.length d.k.cap) := by rw [cell_of_blk b8]; rfl
    have k1 : w10.cell? ⟨mb, 1, none⟩ = some (.slice d.v.ao E0.length d.v.cap) := by rw [cell_of_blk b8]; rfl
    have k2 : w10.cell? ⟨mb, 2, none⟩ = some (.slice d.l.ao E0.length d.l.cap) := by rw [cell_of_blk b8]; rfl
    have k3 : w10.cell? ⟨mb, 3, none⟩ = some (.slice d.p.ao q d.p.cap) := by rw [cell_of_blk b8]; rfl
    have k4 : w10.cell? ⟨mb, 4, none⟩ = some (.slice d.m.ao q d.m.cap) := by rw [cell_of_blk b8]; rfl
    obtain ⟨ov, hov⟩ : ∃ o, o = oldV E0 k := ⟨_, rfl⟩
    rw [← hov, decide_eq_false hin] at HG10
    unfold Dv.cells at HG10
    clear b8 hov
    go_wp2_with fail
    refine HG10.mono ?_
    clear HG10
    rintro e w11 ⟨rfl, hb11⟩
    have HB11 : Hid (Below w.heap.size w w11) := HI10.out.held.good.below.trans (hb11.mono HI10.out.held.good.below.size)
    have hf0 := HFV.out
    subst hf0
    clear hb11
    go_wp2_with fail
    go_ret
    exact ⟨rfl, HB11.out⟩

theorem radixFresh_calls (ao : Option Addr) (cap : Nat) (ks : List ByteArray) (k : ByteArray) (drop : Bool) (w : World) (hk : StrsAt w ao ks) (hl : ks.length ≤ 2097152) (hks : k.size ≤ 140737488351296) :
    Calls Try.prog 4 #[.slice ao ks.length cap, .string k, .bool drop] w fun e w' => e = .returned (.bool true) ∧ Below w.heap.size w w' := by
  cases drop with
  | false => exact radixFresh_ins ao cap ks k w hk hl hks
  | true =>
    by_cases hin : k ∈ keysOf (docK ks ks.length)
    · exact radixFresh_del ao cap ks k w hk hl hks hin
    · exact radixFresh_none ao cap ks k w hk hl hks hin
end Go.Proofs.Ytcdfbbjakkmmoaa
