/- RadixShape: the whole walk. -/
import Derived.Test.YtcdfbbjakkmmoaaXShown
import Derived.Test.YtcdfbbjakkmmoaaXDelN
import Derived.Test.YtcdfbbjakkmmoaaRAlive
namespace Go.Proofs.Ytcdfbbjakkmmoaa
open Go.RowKit Go.Shelf
open Go.Sort (grow)
set_option linter.unusedVariables false

/-- The tree, and the document's tree in its box. -/
structure SpI (w : World) (mb : Nat) (d : Dv) (es : List En) (tb : Nat) (T : Tr) (ne : Int) (n : Nat) (W : World) : Prop where
  held : Held w W tb T ne n es
  canon : Canon T
  doc : DocAt W d es (pathsOf es)
  mblk : W.heap[mb]? = some (.cells (d.cells es.length (pathsOf es).length) 28)
  ge : w.heap.size ≤ mb
theorem SpI.keep {w : World} {mb : Nat} {d : Dv} {es : List En} {tb : Nat} {T : Tr} {ne : Int} {n : Nat} {W W' : World} (h : SpI w mb d es tb T ne n W) (hb : Below W.heap.size W W') : SpI w mb d es tb T ne n W' :=
  ⟨h.held.keep hb, h.canon, h.doc.keep hb, (hb.block _ (lt_of_heap h.mblk)).trans h.mblk, h.ge⟩
theorem rmE_take (es : List En) (ss : List ByteArray) (j : Nat) (h : j < ss.length) : rmE es (ss.take (j + 1)) = delE (rmE es (ss.take j)) ss[j] := by rw [List.take_succ_eq_append_getElem h, rmE_snoc]
theorem pathsOf_len (es : List En) : (pathsOf es).length ≤ 2 * es.length + 1 := pathsN_len _ _

set_option maxRecDepth 100000 in
set_option maxHeartbeats 4000000 in
theorem radixShape_calls (ao ao' : Option Addr) (cap cap' : Nat) (ks ss : List ByteArray) (w : World) (hk : StrsAt w ao ks) (hs : StrsAt w ao' ss) (hl : ks.length ≤ 2097152) (hl' : ss.length ≤ 8796093021952) :
    Calls Try.prog 3 #[.slice ao ks.length cap, .slice ao' ss.length cap'] w fun e w' => e = .returned (.bool true) ∧ Below w.heap.size w w' := by
  have hnot : ∀ (x : Bool) (w : World), (Op.unary .not (.bool x)).run Try.prog w = .ok (.bool (!x)) w := fun _ _ => rfl
  go_enter Try.func3, Try.ntmps3
  go_wp2_with fail
  refine (alive3_calls w).mono ?_
  rintro e w1 ⟨rfl, hb1⟩
  have HBU := built3h_calls ao cap ks w1 (hk.below hb1) (by omega)
  have HB1 : Hid (Below w.heap.size w w1) := hb1
  have HSK : Hid (StrsAt w ao ks ∧ StrsAt w ao' ss) := ⟨hk, hs⟩
  clear hb1 hk hs
  go_wp2_with fail
  refine HBU.mono ?_
  clear HBU
  rintro e w2 ⟨tA, A, nA, rfl, hH2, hC2⟩
  have HB2 : Hid (Below w.heap.size w w2) := HB1.out.trans (hH2.good.below.mono HB1.out.size)
  have HH2 : Hid (Held w w2 tA A nA ks.length (docK ks ks.length) ∧ Canon A) := ⟨hH2.rebase HB2.out, hC2⟩
  have HMO := modelled_calls ao cap ks w2 (HSK.out.1.below HB2.out) (by omega)
  clear hH2 hC2 HB1
  go_wp2_with fail
  refine HMO.mono ?_
  clear HMO
  rintro e w3 ⟨d, rfl, hd3, hb3⟩
  obtain ⟨E0, hE0⟩ : ∃ E, E = docK ks ks.length := ⟨_, rfl⟩
  have hel : E0.length ≤ ks.length := by rw [hE0]; exact docK_len _ _
  rw [← hE0] at hd3 HH2 ⊢
  clear hE0
  obtain ⟨w4, HW4⟩ : ∃ w4, Hid (w4 = w3.alloc (.cells (d.cells E0.length (pathsOf E0).length) 28)) := ⟨_, rfl⟩
  have HI4 : Hid (SpI w w3.heap.size d (rmE E0 (ss.take 0)) tA A nA ks.length w4) := by
    have b4 : Below w3.heap.size w3 w4 := by rw [HW4.out]; exact (Below.refl _ _).alloc (Nat.le_refl _) _
    have b24 : Below w2.heap.size w2 w4 := hb3.trans (b4.mono hb3.size)
    show SpI _ _ _ _ _ _ _ _ _
    rw [List.take_zero]
    refine ⟨HH2.out.1.keep b24, HH2.out.2, hd3.keep b4, ?_, Nat.le_trans HB2.out.size hb3.size⟩
    rw [HW4.out]; exact heap_alloc_new _ _
  clear hd3 hb3 HH2 HB2
  unfold Dv.cells at HW4
  unfold Dv.cells
  go_wp2_with fail
  rw [← HW4.out]
  clear HW4
  obtain ⟨mb, hmb⟩ : ∃ mb, mb = w3.heap.size := ⟨_, rfl⟩
  rw [← hmb] at HI4 ⊢
  clear hmb
  go_wp2_with fail
  go_loopw [5, 17] (fun t i wr => ∃ (j tb : Nat) (T : Tr) (ne : Int) (d : Dv), j ≤ ss.length ∧ t = .pointer (some ⟨tb, 0, none⟩) ∧ i = .int .i64 j ∧ Hid (SpI w mb d (rmE E0 (ss.take j)) tb T ne ks.length wr)) (fun _ i _ => ss.length - (intOf i).toNat)
  case atStart => exact ⟨0, tA, A, nA, d, Nat.zero_le _, rfl, rfl, HI4⟩
  case round =>
    obtain ⟨j, tb, T, ne, d, hj, rfl, rfl, HI⟩ := hrel
    clear HI4
    have hdl := rmE_len (es := E0) (ss.take j)
    have hpl := pathsOf_len (rmE E0 (ss.take j))
    by_cases hlt : j < ss.length
    · obtain ⟨b, off, rfl, c0, hsz⟩ := (HSK.out.2.below HI.out.held.good.below) j hlt
      obtain ⟨k, hk⟩ : ∃ k, k = ss[j] := ⟨_, rfl⟩
      have HNX : Hid (rmE E0 (ss.take (j + 1)) = delE (rmE E0 (ss.take j)) k) := by show _ = _; rw [rmE_take _ _ _ hlt, hk]
      rw [← hk] at c0 hsz
      clear hk
      have HDE := delHC_calls tb T ne ks.length (rmE E0 (ss.take j)) w wr HI.out.held HI.out.canon k hsz (by omega)
      rw [← HNX.out] at HDE
      obtain ⟨es1, hes1⟩ : ∃ e, e = rmE E0 (ss.take j) := ⟨_, rfl⟩
      obtain ⟨es2, hes2⟩ : ∃ e, e = rmE E0 (ss.take (j + 1)) := ⟨_, rfl⟩
      rw [← hes1] at HI HNX HDE hdl hpl
      rw [← hes2] at HNX HDE
      have HE2 : Hid (es2 = rmE E0 (ss.take (j + 1))) := hes2
      obtain ⟨bk, hbk⟩ : ∃ b, b = decide (k ∈ keysOf es1) := ⟨_, rfl⟩
      obtain ⟨ov, hov⟩ : ∃ o, o = oldV es1 k := ⟨_, rfl⟩
      rw [← hbk, ← hov] at HDE
      have HBO : Hid (bk = decide (k ∈ keysOf es1) ∧ ov = oldV es1 k) := ⟨hbk, hov⟩
      clear hes1 hes2 hbk hov
      go_wp2_with fail
      refine HDE.mono ?_
      clear HDE
      rintro e w5 ⟨tb2, T2, ne2, rfl, hb5, hH5, hC5, -⟩
      have HI5 : Hid (SpI w mb d es1 tb T ne ks.length w5) := HI.out.keep hb5
      have HH5 : Hid (Held w w5 tb2 T2 ne2 ks.length es2 ∧ Canon T2) := ⟨hH5, hC5⟩
      clear hb5 hH5 hC5 HI
      have HR := deleteM_calls d es1 k 0 w5 HI5.out.doc hsz (by omega)
      rw [← HNX.out, ← HBO.out.1, ← HBO.out.2] at HR
      obtain ⟨q1, hq1⟩ : ∃ q, q = (pathsOf es1).length := ⟨_, rfl⟩
      have b7 := HI5.out.mblk
      rw [← hq1] at HR b7
      clear hq1
      have m0 : w5.cell? ⟨mb, 0, none⟩ = some (.slice d.k.ao es1.length d.k.cap) := by rw [cell_of_blk b7]; rfl
      have m1 : w5.cell? ⟨mb, 1, none⟩ = some (.slice d.v.ao es1.length d.v.cap) := by rw [cell_of_blk b7]; rfl
      have m2 : w5.cell? ⟨mb, 2, none⟩ = some (.slice d.l.ao es1.length d.l.cap) := by rw [cell_of_blk b7]; rfl
      have m3 : w5.cell? ⟨mb, 3, none⟩ = some (.slice d.p.ao q1 d.p.cap) := by rw [cell_of_blk b7]; rfl
      have m4 : w5.cell? ⟨mb, 4, none⟩ = some (.slice d.m.ao q1 d.m.cap) := by rw [cell_of_blk b7]; rfl
      have HB7 : Hid (w5.heap[mb]? = some (.cells (d.cells es1.length q1) 28)) := b7
      clear b7
      unfold Dv.cells at HR
      go_wp2_with fail
      refine HR.mono ?_
      clear HR
      rintro e w7 ⟨d2, z2, rfl, hd7, hb7⟩
      have HH7 : Hid (Held w w7 tb2 T2 ne2 ks.length es2 ∧ Canon T2) := ⟨HH5.out.1.keep hb7, HH5.out.2⟩
      have HD7 : Hid (DocAt w7 d2 es2 (pathsOf es2)) := hd7
      have b7 := (hb7.block _ (lt_of_heap HB7.out)).trans HB7.out
      have HGE : Hid (w.heap.size ≤ mb) := HI5.out.ge
      obtain ⟨ps2, hps2⟩ : ∃ e, e = pathsOf es2 := ⟨_, rfl⟩
      rw [← hps2] at HD7 ⊢
      have HP2 : Hid (ps2 = pathsOf es2) := hps2
      clear hps2 hd7 hb7
      have f0 : w7.cell? ⟨mb, 0, none⟩ = some (.slice d.k.ao es1.length d.k.cap) := by rw [cell_of_blk b7]; rfl
      have f1 : w7.cell? ⟨mb, 1, none⟩ = some (.slice d.v.ao es1.length d.v.cap) := by rw [cell_of_blk b7]; rfl
      have f2 : w7.cell? ⟨mb, 2, none⟩ = some (.slice d.l.ao es1.length d.l.cap) := by rw [cell_of_blk b7]; rfl
      have f3 : w7.cell? ⟨mb, 3, none⟩ = some (.slice d.p.ao q1 d.p.cap) := by rw [cell_of_blk b7]; rfl
      have f4 : w7.cell? ⟨mb, 4, none⟩ = some (.slice d.m.ao q1 d.m.cap) := by rw [cell_of_blk b7]; rfl
      have g0 : w7.frozen? ⟨mb, 0, none⟩ = false := frozen_of_blk b7
      have g1 : w7.frozen? ⟨mb, 1, none⟩ = false := frozen_of_blk b7
      have g2 : w7.frozen? ⟨mb, 2, none⟩ = false := frozen_of_blk b7
      have g3 : w7.frozen? ⟨mb, 3, none⟩ = false := frozen_of_blk b7
      have g4 : w7.frozen? ⟨mb, 4, none⟩ = false := frozen_of_blk b7
      obtain ⟨wz, HWZ⟩ : ∃ wz, Hid (wz = ((((w7.setCell ⟨mb, 0, none⟩ (.slice d2.k.ao es2.length d2.k.cap)).setCell ⟨mb, 1, none⟩ (.slice d2.v.ao es2.length d2.v.cap)).setCell ⟨mb, 2, none⟩ (.slice d2.l.ao es2.length d2.l.cap)).setCell ⟨mb, 3, none⟩ (.slice d2.p.ao ps2.length d2.p.cap)).setCell ⟨mb, 4, none⟩ (.slice d2.m.ao ps2.length d2.m.cap)) := ⟨_, rfl⟩
      have HIZ : Hid (SpI w mb d2 (rmE E0 (ss.take (j + 1))) tb2 T2 ne2 ks.length wz) := by
        show SpI _ _ _ _ _ _ _ _ _
        rw [← HE2.out, HWZ.out]
        refine ⟨put5_held b7 rfl (noPtr5 _ _ _ _ _ _ _ _ _ _ _ _ _ _ _) _ _ _ _ _ _ _ _ _ _ _ _ _ _ _ HGE.out HH7.out.1, HH7.out.2, ?_, ?_, HGE.out⟩
        · rw [← HP2.out]; exact put5_doc b7 rfl _ _ _ _ _ HD7.out
        · rw [← HP2.out]; exact put5_blk b7 rfl _ _ _ _ _
      clear b7 HI5 HH5 HH7 HD7 HB7 m0 m1 m2 m3 m4
      go_wp2_with fail
      rw [← HWZ.out]
      go_roundw
      case rel => exact ⟨j + 1, tb2, T2, ne2, d2, by omega, rfl, by go_num, HIZ⟩
      case measure => simp [intOf]; omega
    · have hjl : j = ss.length := by omega
      subst hjl
      obtain ⟨es1, hes1⟩ : ∃ e, e = rmE E0 (ss.take ss.length) := ⟨_, rfl⟩
      rw [← hes1] at HI hdl hpl
      clear hes1
      have hS : Seg (pathsOf es1) [] [] (ks.length + 1) T := by
        refine ⟨?_, fun q hq => by cases hq⟩
        rw [pths_paths HI.out.held.good.wf HI.out.canon HI.out.held.good.root HI.out.held.good.dep HI.out.held.has HI.out.held.sorted]
        simp [pathsOf]
      have b7 := HI.out.mblk
      obtain ⟨P, hP⟩ : ∃ P, P = pathsOf es1 := ⟨_, rfl⟩
      rw [← hP] at hS b7 hpl
      have HSG : Hid (Seg P [] [] (ks.length + 1) T ∧ DocAt wr d es1 P) := ⟨hS, by rw [hP]; exact HI.out.doc⟩
      clear hS hP
      have k0 : wr.cell? ⟨mb, 0, none⟩ = some (.slice d.k.ao es1.length d.k.cap) := by rw [cell_of_blk b7]; rfl
      have k1 : wr.cell? ⟨mb, 1, none⟩ = some (.slice d.v.ao es1.length d.v.cap) := by rw [cell_of_blk b7]; rfl
      have k2 : wr.cell? ⟨mb, 2, none⟩ = some (.slice d.l.ao es1.length d.l.cap) := by rw [cell_of_blk b7]; rfl
      have k3 : wr.cell? ⟨mb, 3, none⟩ = some (.slice d.p.ao P.length d.p.cap) := by rw [cell_of_blk b7]; rfl
      have k4 : wr.cell? ⟨mb, 4, none⟩ = some (.slice d.m.ao P.length d.m.cap) := by rw [cell_of_blk b7]; rfl
      have j0 := cell_regrown k0
      have j1 := cell_regrown k1
      have j2 := cell_regrown k2
      have j3 := cell_regrown k3
      have j4 := cell_regrown k4
      have cR := fun dd os => Calls.regrown_of (root_calls tb T ne (grow (redrawn wr dd) os) (HI.out.held.good.tree.keep (below_regrown wr dd os)))
      have cS := fun dd os => Calls.regrown_of (shown_calls es1 P d (by omega) (by omega) (ks.length + 1) T [] [] (grow (redrawn wr dd) os) HI.out.held.good.dep (HI.out.held.good.tree.keep (below_regrown wr dd os)).tat HI.out.held.good.wf (HasU.root HI.out.held.has) HSG.out.1 (HSG.out.2.keep (below_regrown wr dd os)))
      unfold nodeV at cR
      unfold nodeV Dv.cells at cS
      clear b7
      go_wp2_with fail
      refine wp_region_quiet_below (by kernel_rfl) (by kernel_rfl) ?_
      repeat (quiet_step (first | exact cR _ _ | exact cS _ _))
      refine wpQuiet_nil ?_
      intro w9 hw'
      obtain ⟨⟨dq, osq⟩, hw9⟩ := hw'
      have HB9 : Hid (Below w.heap.size w w9) := HI.out.held.good.below.trans ((by rw [hw9]; exact below_regrown wr dq osq : Below wr.heap.size wr w9).mono HI.out.held.good.below.size)
      clear hw9
      go_wp2_with fail
      go_ret
      exact ⟨rfl, HB9.out⟩
end Go.Proofs.Ytcdfbbjakkmmoaa
