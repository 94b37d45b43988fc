/- Layer 3 (radix): the law's built and modelled: the tree of the keys and the document's tree of them. -/
import Derived.Test.YtcdfbbjakkmmoaaXInsD
import Derived.Test.YtcdfbbjakkmmoaaXHeld
import Derived.Test.YtcdfbbjakkmmoaaXGive
import Derived.Test.YtcdfbbjakkmmoaaRCanon
namespace Go.Proofs.Ytcdfbbjakkmmoaa
open Go.RowKit
set_option linter.unusedVariables false

/-- The entries behind the first j keys, put in with their places as values. -/
def docK (ks : List ByteArray) : Nat → List En
  | 0 => []
  | j + 1 => insE (docK ks j) (ks.getD j ⟨#[]⟩) (j : Int)
theorem docK_sorted (ks : List ByteArray) : ∀ j, SortedE (docK ks j)
  | 0 => List.Pairwise.nil
  | j + 1 => insE_sorted (docK_sorted ks j) _ _
theorem docK_len (ks : List ByteArray) : ∀ j, (docK ks j).length ≤ j
  | 0 => Nat.le_refl _
  | j + 1 => by have h1 := docK_len ks j; have h2 := insE_len (docK ks j) (ks.getD j ⟨#[]⟩) (j : Int); show (insE _ _ _).length ≤ _; omega
theorem docK_step (ks : List ByteArray) {j : Nat} (h : j < ks.length) : docK ks (j + 1) = insE (docK ks j) ks[j] (j : Int) := by
  show insE _ _ _ = _
  rw [show ks.getD j ⟨#[]⟩ = ks[j] by simp [h]]

/-- The paths that the entries fix. -/
def pathsOf (es : List En) : List ByteArray := pathsN (keysOf es) es.length

set_option maxRecDepth 100000 in
set_option maxHeartbeats 1600000 in
theorem built3h_calls (ao : Option Addr) (cap : Nat) (ks : List ByteArray) (w : World) (hk : StrsAt w ao ks) (hl : ks.length ≤ 8796093022208) :
    Calls Try.prog 7 #[.slice ao ks.length cap] w fun e w' => ∃ tb T ne, e = .returned (.pointer (some ⟨tb, 0, none⟩)) ∧ Held w w' tb T ne ks.length (docK ks ks.length) ∧ Canon T := by
  go_enter Try.func7, Try.ntmps7
  go_wp2_with fail
  refine (newTree_calls w).mono ?_
  rintro e w1 ⟨tb, a, g, rfl, hb1, ht1, -, -, -⟩
  have HG1 : Hid (Held w w1 tb (.nd a kE none [] g) 0 0 (docK ks 0)) := ⟨⟨hb1, ht1, leaf_wf _ _ _ _, rfl, leaf_dep (by omega), by omega, by omega⟩, HasE.nil, List.Pairwise.nil, rfl⟩
  have HC1 : Hid (Canon (.nd a kE none [] g)) := leaf_canon
  clear hb1 ht1
  go_wp2_with fail
  go_loopw [3, 9] (fun s i wr => ∃ (j tb' : Nat) (T : Tr) (ne : Int), j ≤ ks.length ∧ i = .int .i64 j ∧ s = .pointer (some ⟨tb', 0, none⟩) ∧ Hid (Held w wr tb' T ne j (docK ks j)) ∧ Hid (Canon T)) (fun _ i _ => ks.length - (intOf i).toNat)
  case atStart => exact ⟨0, tb, _, 0, Nat.zero_le _, rfl, rfl, HG1, HC1⟩
  case round =>
    obtain ⟨j, tb', T, ne, hj, rfl, rfl, HG, HCH⟩ := hrel
    by_cases hlt : j < ks.length
    · obtain ⟨b, off, rfl, hc, hsz⟩ := (hk.below HG.out.good.below) j hlt
      obtain ⟨init, c, hA⟩ := along_split (k := ks[j].data.toList) HG.out.good.wf
      have hlen := hA.len HG.out.good.dep
      have hlo := HG.out.good.lo
      have hhi := HG.out.good.hi
      have HC := insert_calls tb' T ne ks[j] (j : Int) wr init c HG.out.good.tree HG.out.good.wf (root_pre HG.out.good.root _) hsz hA (by simp at hlen; omega) (by omega) (by omega)
      have HA : Hid (Along ks[j].data.toList T (init ++ [c])) := hA
      clear hA hlen hsz
      go_wp2_with fail
      refine HC.mono ?_
      clear HC
      rintro e w3 ⟨tb2, T2, va, vg, rfl, hb3, ht3, hi3, -, -, -⟩
      have HG3 : Hid (Held w w3 tb2 T2 (ne + plusNew (valAt c ks[j])) (j + 1) (docK ks (j + 1))) := by
        show Held _ _ _ _ _ _ _
        rw [docK_step ks hlt]
        exact HG.out.insert hb3 ht3 hi3 (HG.out.has.val HG.out.good.wf (root_pre HG.out.good.root _) HA.out)
      have HCH3 : Hid (Canon T2) := (hi3.canon HG.out.good.wf HCH.out).1
      clear hb3 ht3 hi3 HG HCH HA
      go_wp2_with fail
      go_roundw
      case rel => exact ⟨j + 1, tb2, T2, _, by omega, by go_num, rfl, HG3, HCH3⟩
      case measure => simp [intOf]; omega
    · have hjl : j = ks.length := by omega
      subst hjl
      go_wp2_with fail
      go_ret
      exact ⟨tb', T, ne, rfl, HG.out, HCH.out⟩

theorem put5_below {w W : World} {b : Nat} (h : Below w.heap.size w W) (hge : w.heap.size ≤ b) (x0 x1 x2 x3 x4 : Value) : Below w.heap.size w (put5 W b x0 x1 x2 x3 x4) := by
  unfold put5
  exact ((((h.setCell (p := ⟨b, 0, none⟩) hge _).setCell (p := ⟨b, 1, none⟩) hge _).setCell (p := ⟨b, 2, none⟩) hge _).setCell (p := ⟨b, 3, none⟩) hge _).setCell (p := ⟨b, 4, none⟩) hge _

/-- Within modelled. -/
structure MoI (w : World) (rb mb : Nat) (d : Dv) (es : List En) (ps : List ByteArray) (W : World) : Prop where
  below : Below w.heap.size w W
  doc : DocAt W d es ps
  mblk : W.heap[mb]? = some (.cells (d.cells es.length ps.length) 28)
  rblk : W.heap[rb]? = some (.cells #[.slice none 0 0, .slice none 0 0, .slice none 0 0, .slice none 0 0, .slice none 0 0] 28)
  apart : w.heap.size ≤ mb ∧ rb ≠ mb
theorem MoI.keep {w : World} {rb mb : Nat} {d : Dv} {es : List En} {ps : List ByteArray} {W W' : World} (h : MoI w rb mb d es ps W) (hb : Below W.heap.size W W') : MoI w rb mb d es ps W' :=
  ⟨h.below.trans (hb.mono h.below.size), h.doc.keep hb, (hb.block _ (lt_of_heap h.mblk)).trans h.mblk, (hb.block _ (lt_of_heap h.rblk)).trans h.rblk, h.apart⟩

set_option maxRecDepth 100000 in
set_option maxHeartbeats 4000000 in
theorem modelled_calls (ao : Option Addr) (cap : Nat) (ks : List ByteArray) (w : World) (hk : StrsAt w ao ks) (hn : ks.length ≤ 5864062014634) :
    Calls Try.prog 8 #[.slice ao ks.length cap] w fun e w' => ∃ d : Dv, e = .returned (.agg (d.cells (docK ks ks.length).length (pathsOf (docK ks ks.length)).length)) ∧ DocAt w' d (docK ks ks.length) (pathsOf (docK ks ks.length)) ∧ Below w.heap.size w w' := by
  obtain ⟨w1, HW1⟩ : ∃ w1, Hid (w1 = w.alloc (.cells #[.slice none 0 0, .slice none 0 0, .slice none 0 0, .slice none 0 0, .slice none 0 0] 28)) := ⟨_, rfl⟩
  have hb1 : Below w.heap.size w w1 := by rw [HW1.out]; exact (Below.refl _ _).alloc (Nat.le_refl _) _
  have q1 : w1.heap[w.heap.size]? = some (.cells #[.slice none 0 0, .slice none 0 0, .slice none 0 0, .slice none 0 0, .slice none 0 0] 28) := by rw [HW1.out]; exact heap_alloc_new _ _
  have HQ : Hid (Below w.heap.size w w1 ∧ w1.heap[w.heap.size]? = some (.cells #[.slice none 0 0, .slice none 0 0, .slice none 0 0, .slice none 0 0, .slice none 0 0] 28)) := ⟨hb1, q1⟩
  have HL : Hid (StrsAt w ao ks) := hk
  clear hb1 q1 hk
  go_enter Try.func8, Try.ntmps8
  go_wp2_with fail
  rw [← HW1.out]
  clear HW1
  refine (refNew_calls 0 w1).mono ?_
  rintro e w3 ⟨d, z, rfl, hd3, hb3⟩
  have HB3 : Hid (Below w1.heap.size w1 w3) := hb3
  have HD3 : Hid (DocAt w3 d [] (pathsN (keysOf []) 0)) := hd3
  clear hd3 hb3
  obtain ⟨w4, HW4⟩ : ∃ w4, Hid (w4 = w3.alloc (.cells (d.cells 0 1) 28)) := ⟨_, rfl⟩
  have HI4 : Hid (MoI w w.heap.size w3.heap.size d (docK ks 0) (pathsOf (docK ks 0)) w4) := by
    have b4 : Below w3.heap.size w3 w4 := by rw [HW4.out]; exact (Below.refl _ _).alloc (Nat.le_refl _) _
    have b14 : Below w1.heap.size w1 w4 := HB3.out.trans (b4.mono HB3.out.size)
    have b04 : Below w.heap.size w w4 := HQ.out.1.trans (b14.mono HQ.out.1.size)
    refine ⟨b04, HD3.out.keep b4, ?_, (b14.block _ (lt_of_heap HQ.out.2)).trans HQ.out.2, ?_⟩
    · rw [HW4.out]; exact heap_alloc_new _ _
    · have h1 := lt_of_heap HQ.out.2
      have h3 := HB3.out.size
      exact ⟨by omega, by omega⟩
  unfold Dv.cells at HW4
  unfold Dv.cells
  go_wp2_with fail
  rw [← HW4.out]
  clear HW4 HQ HB3 HD3
  obtain ⟨mb, hmb⟩ : ∃ mb, mb = w3.heap.size := ⟨_, rfl⟩
  rw [← hmb] at HI4 ⊢
  clear hmb
  go_loopw [4, 13] (fun x i wr => ∃ (j : Nat) (z : Int) (d : Dv), j ≤ ks.length ∧ x = .int .i64 z ∧ i = .int .i64 j ∧ Hid (MoI w w.heap.size mb d (docK ks j) (pathsOf (docK ks j)) wr)) (fun _ i _ => ks.length - (intOf i).toNat)
  case atStart => exact ⟨0, z, d, Nat.zero_le _, rfl, rfl, HI4⟩
  case round =>
    obtain ⟨j, z, d, hj, rfl, rfl, HI⟩ := hrel
    clear HI4
    have hdl := docK_len ks j
    by_cases hlt : j < ks.length
    · obtain ⟨b, off, rfl, c0, hsz⟩ := (HL.out.below HI.out.below) j hlt
      obtain ⟨k, hk⟩ : ∃ k, k = ks[j] := ⟨_, rfl⟩
      have HNX : Hid (docK ks (j + 1) = insE (docK ks j) k (j : Int)) := by show _ = _; rw [docK_step ks hlt, hk]
      rw [← hk] at c0 hsz
      clear hk
      have b7 := HI.out.mblk
      have m0 : wr.cell? ⟨mb, 0, none⟩ = some (.slice d.k.ao (docK ks j).length d.k.cap) := by rw [cell_of_blk b7]; rfl
      have m1 : wr.cell? ⟨mb, 1, none⟩ = some (.slice d.v.ao (docK ks j).length d.v.cap) := by rw [cell_of_blk b7]; rfl
      have m2 : wr.cell? ⟨mb, 2, none⟩ = some (.slice d.l.ao (docK ks j).length d.l.cap) := by rw [cell_of_blk b7]; rfl
      have m3 : wr.cell? ⟨mb, 3, none⟩ = some (.slice d.p.ao (pathsOf (docK ks j)).length d.p.cap) := by rw [cell_of_blk b7]; rfl
      have m4 : wr.cell? ⟨mb, 4, none⟩ = some (.slice d.m.ao (pathsOf (docK ks j)).length d.m.cap) := by rw [cell_of_blk b7]; rfl
      clear b7
      have HR := insertD_calls d (docK ks j) (pathsOf (docK ks j)) k (j : Int) z wr HI.out.doc hsz (by omega)
      rw [← HNX.out] at HR
      obtain ⟨es1, hes1⟩ : ∃ e, e = docK ks j := ⟨_, rfl⟩
      obtain ⟨ps1, hps1⟩ : ∃ e, e = pathsOf (docK ks j) := ⟨_, rfl⟩
      obtain ⟨es2, hes2⟩ : ∃ e, e = docK ks (j + 1) := ⟨_, rfl⟩
      have HPS : Hid (pathsOf es2 = pathsN (keysOf es2) es2.length) := rfl
      rw [← hes2, ← HPS.out, ← hps1, ← hes1] at HR
      rw [← hps1, ← hes1] at HI
      rw [← hes1] at m0 m1 m2
      rw [← hps1] at m3 m4
      have HES : Hid (es2 = docK ks (j + 1)) := hes2
      clear hes1 hps1 hes2 hdl
      unfold Dv.cells at HR
      go_wp2_with fail
      refine HR.mono ?_
      clear HR
      rintro e w7 ⟨d2, z2, rfl, hd7, hb7⟩
      have HI7 : Hid (MoI w w.heap.size mb d es1 ps1 w7) := HI.out.keep hb7
      have HD7 : Hid (DocAt w7 d2 es2 (pathsOf es2)) := hd7
      obtain ⟨ps2, hps2⟩ : ∃ e, e = pathsOf es2 := ⟨_, rfl⟩
      rw [← hps2] at HD7 ⊢
      have HP2 : Hid (ps2 = pathsOf es2) := hps2
      clear hps2
      have b7 := HI7.out.mblk
      have f0 : w7.cell? ⟨mb, 0, none⟩ = some (.slice d.k.ao es1.length d.k.cap) := by rw [cell_of_blk b7]; rfl
      have f1 : w7.cell? ⟨mb, 1, none⟩ = some (.slice d.v.ao es1.length d.v.cap) := by rw [cell_of_blk b7]; rfl
      have f2 : w7.cell? ⟨mb, 2, none⟩ = some (.slice d.l.ao es1.length d.l.cap) := by rw [cell_of_blk b7]; rfl
      have f3 : w7.cell? ⟨mb, 3, none⟩ = some (.slice d.p.ao ps1.length d.p.cap) := by rw [cell_of_blk b7]; rfl
      have f4 : w7.cell? ⟨mb, 4, none⟩ = some (.slice d.m.ao ps1.length d.m.cap) := by rw [cell_of_blk b7]; rfl
      have g0 : w7.frozen? ⟨mb, 0, none⟩ = false := frozen_of_blk b7
      have g1 : w7.frozen? ⟨mb, 1, none⟩ = false := frozen_of_blk b7
      have g2 : w7.frozen? ⟨mb, 2, none⟩ = false := frozen_of_blk b7
      have g3 : w7.frozen? ⟨mb, 3, none⟩ = false := frozen_of_blk b7
      have g4 : w7.frozen? ⟨mb, 4, none⟩ = false := frozen_of_blk b7
      obtain ⟨wz, HWZ⟩ : ∃ wz, Hid (wz = ((((w7.setCell ⟨mb, 0, none⟩ (.slice d2.k.ao es2.length d2.k.cap)).setCell ⟨mb, 1, none⟩ (.slice d2.v.ao es2.length d2.v.cap)).setCell ⟨mb, 2, none⟩ (.slice d2.l.ao es2.length d2.l.cap)).setCell ⟨mb, 3, none⟩ (.slice d2.p.ao ps2.length d2.p.cap)).setCell ⟨mb, 4, none⟩ (.slice d2.m.ao ps2.length d2.m.cap)) := ⟨_, rfl⟩
      have HIZ : Hid (MoI w w.heap.size mb d2 (docK ks (j + 1)) (pathsOf (docK ks (j + 1))) wz) := by
        show MoI _ _ _ _ _ _ _
        rw [← HES.out, ← HP2.out, HWZ.out]
        obtain ⟨ha1, ha2⟩ := HI7.out.apart
        refine ⟨put5_below HI7.out.below ha1 _ _ _ _ _, put5_doc b7 rfl _ _ _ _ _ HD7.out, put5_blk b7 rfl _ _ _ _ _, ?_, ha1, ha2⟩
        exact (put5_other b7 rfl _ _ _ _ _ ha2).trans HI7.out.rblk
      clear hd7 hb7 b7 HI HI7 HD7 m0 m1 m2 m3 m4
      go_wp2_with fail
      rw [← HWZ.out]
      go_roundw
      case rel => exact ⟨j + 1, z2, d2, by omega, rfl, by go_num, HIZ⟩
      case measure => simp [intOf]; omega
    · have hjl : j = ks.length := by omega
      subst hjl
      have b7 := HI.out.mblk
      have r7 := HI.out.rblk
      obtain ⟨es1, hes1⟩ : ∃ e, e = docK ks ks.length := ⟨_, rfl⟩
      rw [← hes1] at HI b7
      obtain ⟨ps1, hps1⟩ : ∃ e, e = pathsOf es1 := ⟨_, rfl⟩
      rw [← hps1] at HI b7
      have HE1 : Hid (es1 = docK ks ks.length) := hes1
      have HP1 : Hid (ps1 = pathsOf es1) := hps1
      clear hes1 hps1 hdl
      have m0 : wr.cell? ⟨mb, 0, none⟩ = some (.slice d.k.ao es1.length d.k.cap) := by rw [cell_of_blk b7]; rfl
      have m1 : wr.cell? ⟨mb, 1, none⟩ = some (.slice d.v.ao es1.length d.v.cap) := by rw [cell_of_blk b7]; rfl
      have m2 : wr.cell? ⟨mb, 2, none⟩ = some (.slice d.l.ao es1.length d.l.cap) := by rw [cell_of_blk b7]; rfl
      have m3 : wr.cell? ⟨mb, 3, none⟩ = some (.slice d.p.ao ps1.length d.p.cap) := by rw [cell_of_blk b7]; rfl
      have m4 : wr.cell? ⟨mb, 4, none⟩ = some (.slice d.m.ao ps1.length d.m.cap) := by rw [cell_of_blk b7]; rfl
      have f0 : wr.cell? ⟨w.heap.size, 0, none⟩ = some (.slice none 0 0) := by rw [cell_of_blk r7]; rfl
      have f1 : wr.cell? ⟨w.heap.size, 1, none⟩ = some (.slice none 0 0) := by rw [cell_of_blk r7]; rfl
      have f2 : wr.cell? ⟨w.heap.size, 2, none⟩ = some (.slice none 0 0) := by rw [cell_of_blk r7]; rfl
      have f3 : wr.cell? ⟨w.heap.size, 3, none⟩ = some (.slice none 0 0) := by rw [cell_of_blk r7]; rfl
      have f4 : wr.cell? ⟨w.heap.size, 4, none⟩ = some (.slice none 0 0) := by rw [cell_of_blk r7]; rfl
      have g0 : wr.frozen? ⟨w.heap.size, 0, none⟩ = false := frozen_of_blk r7
      have g1 : wr.frozen? ⟨w.heap.size, 1, none⟩ = false := frozen_of_blk r7
      have g2 : wr.frozen? ⟨w.heap.size, 2, none⟩ = false := frozen_of_blk r7
      have g3 : wr.frozen? ⟨w.heap.size, 3, none⟩ = false := frozen_of_blk r7
      have g4 : wr.frozen? ⟨w.heap.size, 4, none⟩ = false := frozen_of_blk r7
      have hne := HI.out.apart.2
      obtain ⟨wz, HWZ⟩ : ∃ wz, Hid (wz = ((((wr.setCell ⟨w.heap.size, 0, none⟩ (.slice d.k.ao es1.length d.k.cap)).setCell ⟨w.heap.size, 1, none⟩ (.slice d.v.ao es1.length d.v.cap)).setCell ⟨w.heap.size, 2, none⟩ (.slice d.l.ao es1.length d.l.cap)).setCell ⟨w.heap.size, 3, none⟩ (.slice d.p.ao ps1.length d.p.cap)).setCell ⟨w.heap.size, 4, none⟩ (.slice d.m.ao ps1.length d.m.cap)) := ⟨_, rfl⟩
      have hz : wz.heap[w.heap.size]? = some (.cells #[.slice d.k.ao es1.length d.k.cap, .slice d.v.ao es1.length d.v.cap, .slice d.l.ao es1.length d.l.cap, .slice d.p.ao ps1.length d.p.cap, .slice d.m.ao ps1.length d.m.cap] 28) := by
        rw [HWZ.out]; exact put5_blk r7 rfl _ _ _ _ _
      have k0 : wz.cell? ⟨w.heap.size, 0, none⟩ = some (.slice d.k.ao es1.length d.k.cap) := by rw [cell_of_blk hz]; rfl
      have k1 : wz.cell? ⟨w.heap.size, 1, none⟩ = some (.slice d.v.ao es1.length d.v.cap) := by rw [cell_of_blk hz]; rfl
      have k2 : wz.cell? ⟨w.heap.size, 2, none⟩ = some (.slice d.l.ao es1.length d.l.cap) := by rw [cell_of_blk hz]; rfl
      have k3 : wz.cell? ⟨w.heap.size, 3, none⟩ = some (.slice d.p.ao ps1.length d.p.cap) := by rw [cell_of_blk hz]; rfl
      have k4 : wz.cell? ⟨w.heap.size, 4, none⟩ = some (.slice d.m.ao ps1.length d.m.cap) := by rw [cell_of_blk hz]; rfl
      have HFIN : Hid (DocAt wz d es1 ps1 ∧ Below w.heap.size w wz) := by
        rw [HWZ.out]
        exact ⟨put5_doc r7 rfl _ _ _ _ _ HI.out.doc, put5_below HI.out.below (Nat.le_refl _) _ _ _ _ _⟩
      clear hz HI b7 r7
      go_wp2_with fail
      rw [← HWZ.out]
      refine bodyPost_ret (v := .agg #[.slice d.k.ao es1.length d.k.cap, .slice d.v.ao es1.length d.v.cap, .slice d.l.ao es1.length d.l.cap, .slice d.p.ao ps1.length d.p.cap, .slice d.m.ao ps1.length d.m.cap]) (by simp [results, Try.results8, go_sem, k0, k1, k2, k3, k4]) rfl ?_
      have e2 := HP1.out
      subst e2
      have e1 := HE1.out
      subst e1
      exact ⟨d, rfl, HFIN.out.1, HFIN.out.2⟩
end Go.Proofs.Ytcdfbbjakkmmoaa
