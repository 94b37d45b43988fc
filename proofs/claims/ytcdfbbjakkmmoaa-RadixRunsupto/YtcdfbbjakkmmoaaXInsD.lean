/- The document's Insert: the walk. -/
import Derived.Test.YtcdfbbjakkmmoaaXInsD0
namespace Go.Proofs.Ytcdfbbjakkmmoaa
open Go.RowKit
set_option linter.unusedVariables false

set_option maxRecDepth 100000 in
set_option maxHeartbeats 8000000 in
theorem insertD_calls (d : Dv) (es : List En) (ps : List ByteArray) (k : ByteArray) (v next : Int) (w : World) (hd : DocAt w d es ps) (hk : k.size ≤ 140737488351296) (hl : es.length ≤ 5864062014640) :
    Calls Try.prog 26 #[.agg (d.cells es.length ps.length), .string k, .int .i64 v, .int .i64 next] w fun e w' =>
      ∃ (d' : Dv) (z : Int), e = .returned (.tuple #[.agg (d'.cells (insE es k v).length (pathsN (keysOf (insE es k v)) (insE es k v).length).length), .int .i64 (oldV es k), .bool (decide (k ∈ keysOf es)), .int .i64 z]) ∧
        DocAt w' d' (insE es k v) (pathsN (keysOf (insE es k v)) (insE es k v).length) ∧ Below w.heap.size w w' := by
  obtain ⟨w1, HW1⟩ : ∃ w1, Hid (w1 = (w.alloc (.cells (d.cells es.length ps.length) 28)).alloc (.cells #[.slice none 0 0, .slice none 0 0, .slice none 0 0, .slice none 0 0, .slice none 0 0] 28)) := ⟨_, rfl⟩
  have hs1 : w1.heap.size = w.heap.size + 2 := by rw [HW1.out]; simp [World.size_alloc]
  have hb1 : Below w.heap.size w w1 := by rw [HW1.out]; exact ((Below.refl _ w).alloc (Nat.le_refl _) _).alloc (by simp [World.size_alloc]) _
  have q0 : w1.heap[w.heap.size]? = some (.cells (d.cells es.length ps.length) 28) := by
    rw [HW1.out, Below.heap_alloc _ _ _ (by simp [World.size_alloc])]; exact heap_alloc_new _ _
  have q1 : w1.heap[w.heap.size + 1]? = some (.cells #[.slice none 0 0, .slice none 0 0, .slice none 0 0, .slice none 0 0, .slice none 0 0] 28) := by
    rw [HW1.out]
    have := heap_alloc_new (w.alloc (.cells (d.cells es.length ps.length) 28)) (.cells #[.slice none 0 0, .slice none 0 0, .slice none 0 0, .slice none 0 0, .slice none 0 0] 28)
    simpa only [World.size_alloc] using this
  have HF := find_calls d.k (keysOf es) k w1 (hd.k.below hb1) hd.kk hd.sorted.keys hd.ksz hk (by rw [keysOf_len]; omega)
  rw [keysOf_len] at HF
  have hple : place (keysOf es) k ≤ es.length := by have := place_le (keysOf es) k; rwa [keysOf_len] at this
  obtain ⟨at_, hat⟩ : ∃ a, a = place (keysOf es) k := ⟨_, rfl⟩
  rw [← hat] at HF hple
  obtain ⟨bk, hbk⟩ : ∃ b, b = decide (k ∈ keysOf es) := ⟨_, rfl⟩
  rw [← hbk] at HF ⊢
  have HBK : Hid (bk = decide (k ∈ keysOf es)) := hbk
  have HAT : Hid (at_ = place (keysOf es) k) := hat
  have HD : Hid (DocAt w d es ps) := hd
  have HQ : Hid (Below w.heap.size w w1 ∧ w1.heap[w.heap.size]? = some (.cells (d.cells es.length ps.length) 28) ∧ w1.heap[w.heap.size + 1]? = some (.cells #[.slice none 0 0, .slice none 0 0, .slice none 0 0, .slice none 0 0, .slice none 0 0] 28)) := ⟨hb1, q0, q1⟩
  clear hd hat hbk hb1 q0 q1
  unfold Dv.cells
  unfold Dv.cells at HW1
  go_enter Try.func26, Try.ntmps26
  go_wp2_with fail
  rw [← HW1.out]
  clear HW1
  refine HF.mono ?_
  clear HF
  rintro e w2 ⟨rfl, nq, hw2⟩
  have hs2 : w2.heap.size = w.heap.size + 2 := by rw [hw2]; exact hs1
  have HB2 : Hid (Below w1.heap.size w1 w2) := by rw [hw2]; exact drewN_below w1 nq
  clear hw2
  obtain ⟨wa, HWA⟩ : ∃ wa, Hid (wa = w2.alloc (.cells #[.slice none 0 0, .slice none 0 0, .slice none 0 0, .slice none 0 0, .slice none 0 0] 28)) := ⟨_, rfl⟩
  have HX0 : Hid (InX w (d.cells es.length ps.length) [] [] [] wa) := by
    have b2 : Below w.heap.size w w2 := HQ.out.1.trans (HB2.out.mono HQ.out.1.size)
    refine ⟨none, 0, 0, none, 0, 0, none, 0, 0, ?_⟩
    rw [HWA.out]
    refine ⟨b2.alloc (by omega) _, ?_, ⟨#[.slice none 0 0, .slice none 0 0, .slice none 0 0, .slice none 0 0, .slice none 0 0], ?_, rfl⟩, ?_, OwnV.nil _ _ _, OwnV.nil _ _ _, OwnV.nil _ _ _, Apart.nil _⟩
    · rw [Below.heap_alloc _ _ _ (by omega), HB2.out.block _ (by omega)]; exact HQ.out.2.1
    · rw [Below.heap_alloc _ _ _ (by omega), HB2.out.block _ (by omega)]; exact HQ.out.2.2
    · rw [← hs2]; exact heap_alloc_new _ _
  obtain ⟨ls, hls, hll⟩ := HD.out.ll
  have hkl : d.k.vs.length = es.length := by rw [HD.out.kk, strs_length, keysOf_len]
  have hvl : d.v.vs.length = es.length := by rw [HD.out.vv, ints_length]; simp [valsOf]
  have hlL : d.l.vs.length = es.length := by rw [hls, ints_length]; exact hll
  have HONE : Hid ((∀ u ∈ d.k.vs, u.oneCell' = true) ∧ (∀ u ∈ d.v.vs, u.oneCell' = true) ∧ (∀ u ∈ d.l.vs, u.oneCell' = true)) := ⟨by rw [HD.out.kk]; exact strs_one _, by rw [HD.out.vv]; exact ints_one _, by rw [hls]; exact ints_one _⟩
  obtain ⟨fr, hfr⟩ : ∃ f, f = frm es k := ⟨_, rfl⟩
  have hfl : fr ≤ es.length ∧ at_ ≤ fr := by
    rw [hfr]; unfold frm; rw [← HAT.out]
    split
    · rename_i h
      obtain ⟨h1, -⟩ := (place_mem HD.out.sorted.keys).2 h
      rw [keysOf_len, ← HAT.out] at h1
      omega
    · omega
  have HFR : Hid (fr = frm es k) := hfr
  have u1 : ∀ W : World, (Instr.slice 22 (.slice d.k.ao es.length d.k.cap) none (some (.int .i64 (at_ : Int))) none).run Try.prog W = .ok (.slice d.k.ao at_ d.k.cap) W := fun W => run_upToV elemS underS sizeS d.k es.length hkl.symm at_ hple (by rw [← hkl]; exact HD.out.k.room) W
  have u2 : ∀ W : World, (Instr.slice 26 (.slice d.v.ao es.length d.v.cap) none (some (.int .i64 (at_ : Int))) none).run Try.prog W = .ok (.slice d.v.ao at_ d.v.cap) W := fun W => run_upToV elemI underI sizeI d.v es.length hvl.symm at_ hple (by rw [← hvl]; exact HD.out.v.room) W
  have u3 : ∀ W : World, (Instr.slice 26 (.slice d.l.ao es.length d.l.cap) none (some (.int .i64 (at_ : Int))) none).run Try.prog W = .ok (.slice d.l.ao at_ d.l.cap) W := fun W => run_upToV elemI underI sizeI d.l es.length hlL.symm at_ hple (by rw [← hlL]; exact HD.out.l.room) W
  have v1 : ∀ W : World, (Instr.slice 22 (.slice d.k.ao es.length d.k.cap) (some (.int .i64 (fr : Int))) none none).run Try.prog W = .ok (.slice (d.k.fro fr).ao (es.length - fr) (d.k.fro fr).cap) W := fun W => run_froV elemS underS sizeS d.k es.length hkl.symm fr hfl.1 W
  have v2 : ∀ W : World, (Instr.slice 26 (.slice d.v.ao es.length d.v.cap) (some (.int .i64 (fr : Int))) none none).run Try.prog W = .ok (.slice (d.v.fro fr).ao (es.length - fr) (d.v.fro fr).cap) W := fun W => run_froV elemI underI sizeI d.v es.length hvl.symm fr hfl.1 W
  have v3 : ∀ W : World, (Instr.slice 26 (.slice d.l.ao es.length d.l.cap) (some (.int .i64 (fr : Int))) none none).run Try.prog W = .ok (.slice (d.l.fro fr).ao (es.length - fr) (d.l.fro fr).cap) W := fun W => run_froV elemI underI sizeI d.l es.length hlL.symm fr hfl.1 W
  clear hfr hls hll
  go_wp2_with fail
  rw [← HWA.out]
  clear HWA HQ HB2 hs2 hs1
  go_cut [] from 25 to 32 (fun wx => Hid (InX w (d.cells es.length ps.length) (d.k.vs.take at_) [] [] wx))
  case first =>
    obtain ⟨a1, n1, c1, a2, n2, c2, a3, n3, c3, hI⟩ := HX0.out
    have HI : Hid _ := hI
    have uf : wa.cell? ⟨w.heap.size + 2, 0, none⟩ = some (.slice a1 n1 c1) := by rw [cell_of_blk hI.ub]; rfl
    have tf : wa.cell? ⟨w.heap.size, 0, none⟩ = some (.slice d.k.ao es.length d.k.cap) := by rw [cell_of_blk hI.tb]; rfl
    have hbs := hI.below.size
    clear hI HX0
    go_region_law
      (first
        | (refine step_append_sv rfl (.tmp 26) (.tmp 30) 22 9 (.string ⟨#[]⟩) 16 rfl Try.underlying22 infoS rfl w.heap.size _ _ rfl (HI.out.ok.below ⟨rfl, rfl, rfl, Nat.le_refl _, fun _ _ => rfl⟩) (d.k.upTo at_) at_ (upTo_len _ _ (by rw [hkl]; exact hple)) rfl (((HD.out.k.below HI.out.below).upTo at_).drew) (fun u hu => HONE.out.1 u (List.mem_of_mem_take hu)) (by simp [Sv.upTo]; omega) (by simp [Sv.upTo]; omega) (by simp; omega) ?_
           intro a5 c5 w5 ho5 hg5
           revert ho5 hg5
           generalize List.length _ + List.length _ = n5
           intro ho5 hg5
           obtain ⟨⟨n4, n6⟩, hI5⟩ := HI.out.nextK ho5 (((Grew.refl wa _).drew).trans hg5)
           have HI5 : Hid (InX w (d.cells es.length ps.length) (d.k.vs.take at_) [] [] _) := ⟨_, _, _, _, _, _, _, _, _, hI5⟩
           clear ho5 hg5 hI5))
    all_goals go_wp2
    all_goals go_meet
    all_goals exact HI5
  case rest =>
  have HX1 := hcut
  clear hcut HX0
  go_wp2_with fail
  go_cut [] from 33 to 40 (fun wx => Hid (InX w (d.cells es.length ps.length) (d.k.vs.take at_) (d.v.vs.take at_) [] wx))
  case first =>
    obtain ⟨a1, n1, c1, a2, n2, c2, a3, n3, c3, hI⟩ := HX1.out
    have HI : Hid _ := hI
    have uf : wc.cell? ⟨w.heap.size + 2, 1, none⟩ = some (.slice a2 n2 c2) := by rw [cell_of_blk hI.ub]; rfl
    have tf : wc.cell? ⟨w.heap.size, 1, none⟩ = some (.slice d.v.ao es.length d.v.cap) := by rw [cell_of_blk hI.tb]; rfl
    have hbs := hI.below.size
    clear hI HX1
    go_region_law
      (first
        | (refine step_append_sv rfl (.tmp 34) (.tmp 38) 26 3 (.int .i64 0) 8 rfl Try.underlying26 infoI rfl w.heap.size _ _ rfl (HI.out.ov.below ⟨rfl, rfl, rfl, Nat.le_refl _, fun _ _ => rfl⟩) (d.v.upTo at_) at_ (upTo_len _ _ (by rw [hvl]; exact hple)) rfl (((HD.out.v.below HI.out.below).upTo at_).drew) (fun u hu => HONE.out.2.1 u (List.mem_of_mem_take hu)) (by simp [Sv.upTo]; omega) (by simp [Sv.upTo]; omega) (by simp; omega) ?_
           intro a5 c5 w5 ho5 hg5
           revert ho5 hg5
           generalize List.length _ + List.length _ = n5
           intro ho5 hg5
           obtain ⟨⟨n4, n6⟩, hI5⟩ := HI.out.nextV ho5 (((Grew.refl wc _).drew).trans hg5)
           have HI5 : Hid (InX w (d.cells es.length ps.length) (d.k.vs.take at_) (d.v.vs.take at_) [] _) := ⟨_, _, _, _, _, _, _, _, _, hI5⟩
           clear ho5 hg5 hI5))
    all_goals go_wp2
    all_goals go_meet
    all_goals exact HI5
  case rest =>
  have HX2 := hcut
  clear hcut HX1
  go_wp2_with fail
  go_cut [] from 41 to 48 (fun wx => Hid (InX w (d.cells es.length ps.length) (d.k.vs.take at_) (d.v.vs.take at_) (d.l.vs.take at_) wx))
  case first =>
    obtain ⟨a1, n1, c1, a2, n2, c2, a3, n3, c3, hI⟩ := HX2.out
    have HI : Hid _ := hI
    have uf : wc.cell? ⟨w.heap.size + 2, 2, none⟩ = some (.slice a3 n3 c3) := by rw [cell_of_blk hI.ub]; rfl
    have tf : wc.cell? ⟨w.heap.size, 2, none⟩ = some (.slice d.l.ao es.length d.l.cap) := by rw [cell_of_blk hI.tb]; rfl
    have hbs := hI.below.size
    clear hI HX2
    go_region_law
      (first
        | (refine step_append_sv rfl (.tmp 42) (.tmp 46) 26 3 (.int .i64 0) 8 rfl Try.underlying26 infoI rfl w.heap.size _ _ rfl (HI.out.ol.below ⟨rfl, rfl, rfl, Nat.le_refl _, fun _ _ => rfl⟩) (d.l.upTo at_) at_ (upTo_len _ _ (by rw [hlL]; exact hple)) rfl (((HD.out.l.below HI.out.below).upTo at_).drew) (fun u hu => HONE.out.2.2 u (List.mem_of_mem_take hu)) (by simp [Sv.upTo]; omega) (by simp [Sv.upTo]; omega) (by simp; omega) ?_
           intro a5 c5 w5 ho5 hg5
           revert ho5 hg5
           generalize List.length _ + List.length _ = n5
           intro ho5 hg5
           obtain ⟨⟨n4, n6⟩, hI5⟩ := HI.out.nextL ho5 (((Grew.refl wc _).drew).trans hg5)
           have HI5 : Hid (InX w (d.cells es.length ps.length) (d.k.vs.take at_) (d.v.vs.take at_) (d.l.vs.take at_) _) := ⟨_, _, _, _, _, _, _, _, _, hI5⟩
           clear ho5 hg5 hI5))
    all_goals go_wp2
    all_goals go_meet
    all_goals exact HI5
  case rest =>
  have HX3 := hcut
  clear hcut HX2
  go_upto_region 6 with fail
  go_cut [] from 49 to 54 (fun wx => Hid (InX w (d.cells es.length ps.length) (d.k.vs.take at_ ++ [Value.string k]) (d.v.vs.take at_) (d.l.vs.take at_) wx))
  case first =>
    obtain ⟨a1, n1, c1, a2, n2, c2, a3, n3, c3, hI⟩ := HX3.out
    have HI : Hid _ := hI
    have uf : wc.cell? ⟨w.heap.size + 2, 0, none⟩ = some (.slice a1 n1 c1) := by rw [cell_of_blk hI.ub]; rfl
    have hbs := hI.below.size
    clear hI HX3
    go_wp2_with (at_builtin; refine append_val wc rfl (.tmp 50) (.tmp 52) 22 9 (.string ⟨#[]⟩) 16 Try.underlying22 infoS rfl rfl w.heap.size _ _ rfl (.string k) rfl _ rfl (by first | rfl | simp) HI.out.ok (by simp; omega) (by simp; omega) hbs ?_)
    intro v5 w5 ho5 hg5
    obtain ⟨a5, c5, hv5⟩ := ho5.shape
    revert hv5
    generalize List.length _ = n5
    intro hv5
    subst hv5
    obtain ⟨⟨n4, n6⟩, hI5⟩ := HI.out.nextK ho5 hg5
    have HI5 : Hid (InX w (d.cells es.length ps.length) (d.k.vs.take at_ ++ [Value.string k]) (d.v.vs.take at_) (d.l.vs.take at_) _) := ⟨_, _, _, _, _, _, _, _, _, hI5⟩
    clear ho5 hg5 hI5
    go_wp2
    go_meet
    exact HI5
  case rest =>
  have HX4 := hcut
  clear hcut HX3
  go_upto_region 7 with fail
  go_cut [] from 55 to 60 (fun wx => Hid (InX w (d.cells es.length ps.length) (d.k.vs.take at_ ++ [Value.string k]) (d.v.vs.take at_ ++ [Value.int .i64 v]) (d.l.vs.take at_) wx))
  case first =>
    obtain ⟨a1, n1, c1, a2, n2, c2, a3, n3, c3, hI⟩ := HX4.out
    have HI : Hid _ := hI
    have uf : wc.cell? ⟨w.heap.size + 2, 1, none⟩ = some (.slice a2 n2 c2) := by rw [cell_of_blk hI.ub]; rfl
    have hbs := hI.below.size
    clear hI HX4
    go_wp2_with (at_builtin; refine append_val wc rfl (.tmp 56) (.tmp 58) 26 3 (.int .i64 0) 8 Try.underlying26 infoI rfl rfl w.heap.size _ _ rfl (.int .i64 v) rfl _ rfl (by first | rfl | simp) HI.out.ov (by simp; omega) (by simp; omega) hbs ?_)
    intro v5 w5 ho5 hg5
    obtain ⟨a5, c5, hv5⟩ := ho5.shape
    revert hv5
    generalize List.length _ = n5
    intro hv5
    subst hv5
    obtain ⟨⟨n4, n6⟩, hI5⟩ := HI.out.nextV ho5 hg5
    have HI5 : Hid (InX w (d.cells es.length ps.length) (d.k.vs.take at_ ++ [Value.string k]) (d.v.vs.take at_ ++ [Value.int .i64 v]) (d.l.vs.take at_) _) := ⟨_, _, _, _, _, _, _, _, _, hI5⟩
    clear ho5 hg5 hI5
    go_wp2
    go_meet
    exact HI5
  case rest =>
  have HX5 := hcut
  clear hcut HX4
  go_upto_region 8 with fail
  go_cut [] from 61 to 66 (fun wx => Hid (InX w (d.cells es.length ps.length) (d.k.vs.take at_ ++ [Value.string k]) (d.v.vs.take at_ ++ [Value.int .i64 v]) (d.l.vs.take at_ ++ [Value.int .i64 next]) wx))
  case first =>
    obtain ⟨a1, n1, c1, a2, n2, c2, a3, n3, c3, hI⟩ := HX5.out
    have HI : Hid _ := hI
    have uf : wc.cell? ⟨w.heap.size + 2, 2, none⟩ = some (.slice a3 n3 c3) := by rw [cell_of_blk hI.ub]; rfl
    have hbs := hI.below.size
    clear hI HX5
    go_wp2_with (at_builtin; refine append_val wc rfl (.tmp 62) (.tmp 64) 26 3 (.int .i64 0) 8 Try.underlying26 infoI rfl rfl w.heap.size _ _ rfl (.int .i64 next) rfl _ rfl (by first | rfl | simp) HI.out.ol (by simp; omega) (by simp; omega) hbs ?_)
    intro v5 w5 ho5 hg5
    obtain ⟨a5, c5, hv5⟩ := ho5.shape
    revert hv5
    generalize List.length _ = n5
    intro hv5
    subst hv5
    obtain ⟨⟨n4, n6⟩, hI5⟩ := HI.out.nextL ho5 hg5
    have HI5 : Hid (InX w (d.cells es.length ps.length) (d.k.vs.take at_ ++ [Value.string k]) (d.v.vs.take at_ ++ [Value.int .i64 v]) (d.l.vs.take at_ ++ [Value.int .i64 next]) _) := ⟨_, _, _, _, _, _, _, _, _, hI5⟩
    clear ho5 hg5 hI5
    go_wp2
    go_meet
    exact HI5
  case rest =>
  have HX6 := hcut
  clear hcut HX5
  go_upto_if 68 with fail
  go_cut [15, 16] from 67 to 75 (fun s15 s16 wx => s15 = .int .i64 (oldV es k) ∧ s16 = .int .i64 fr ∧ Hid (InX w (d.cells es.length ps.length) (d.k.vs.take at_ ++ [Value.string k]) (d.v.vs.take at_ ++ [Value.int .i64 v]) (d.l.vs.take at_ ++ [Value.int .i64 next]) wx))
  case first =>
    have HBC := HBK.out
    clear HBK
    cases bk with
    | true =>
      have hm : k ∈ keysOf es := of_decide_eq_true HBC.symm
      obtain ⟨hp1, -⟩ := (place_mem HD.out.sorted.keys).2 hm
      rw [keysOf_len, ← HAT.out] at hp1
      obtain ⟨a1, n1, c1, a2, n2, c2, a3, n3, c3, hI⟩ := HX6.out
      obtain ⟨bm, om, hao, hcm⟩ := (HD.out.v.below hI.below).int HD.out.vv at_ (by simp [valsOf]; exact hp1)
      have t1 : wc.cell? ⟨w.heap.size, 1, none⟩ = some (.slice (some ⟨bm, om, none⟩) es.length d.v.cap) := by rw [cell_of_blk hI.tb, ← hao]; rfl
      obtain ⟨y, hy⟩ : ∃ y, y = (valsOf es)[at_]'(by simp [valsOf]; exact hp1) := ⟨_, rfl⟩
      rw [← hy] at hcm
      have HY : Hid (y = oldV es k ∧ (at_ : Int) + 1 = (fr : Int)) := by
        refine ⟨?_, ?_⟩
        · unfold oldV; rw [if_pos hm, hy, ← HAT.out]; simp [List.getD, valsOf, hp1]
        · rw [HFR.out]; unfold frm; rw [if_pos hm, ← HAT.out]; omega
      have i1 : (0 : Int) ≤ (at_ : Int) ∧ (at_ : Int) < (es.length : Int) := by omega
      clear hI hao hy HBC
      go_wp2
      go_meet
      exact ⟨by rw [HY.out.1], by rw [← HY.out.2], HX6⟩
    | false =>
      have hm : ¬ k ∈ keysOf es := of_decide_eq_false HBC.symm
      have HY : Hid (0 = oldV es k ∧ (at_ : Int) = (fr : Int)) := by
        refine ⟨?_, ?_⟩
        · unfold oldV; rw [if_neg hm]
        · rw [HFR.out]; unfold frm; rw [if_neg hm, ← HAT.out]
      clear HBC
      go_wp2
      go_meet
      exact ⟨by rw [HY.out.1], by rw [← HY.out.2], HX6⟩
  case rest =>
  obtain ⟨rfl, rfl, HX7⟩ := hcut
  clear HX6
  go_wp2_with fail
  go_cut [] from 76 to 83 (fun wx => Hid (InX w (d.cells es.length ps.length) (d.k.vs.take at_ ++ [Value.string k] ++ d.k.vs.drop fr) (d.v.vs.take at_ ++ [Value.int .i64 v]) (d.l.vs.take at_ ++ [Value.int .i64 next]) wx))
  case first =>
    obtain ⟨a1, n1, c1, a2, n2, c2, a3, n3, c3, hI⟩ := HX7.out
    have HI : Hid _ := hI
    have uf : wc.cell? ⟨w.heap.size + 2, 0, none⟩ = some (.slice a1 n1 c1) := by rw [cell_of_blk hI.ub]; rfl
    have tf : wc.cell? ⟨w.heap.size, 0, none⟩ = some (.slice d.k.ao es.length d.k.cap) := by rw [cell_of_blk hI.tb]; rfl
    have hbs := hI.below.size
    clear hI HX7
    go_region_law
      (first
        | (refine step_append_sv rfl (.tmp 77) (.tmp 81) 22 9 (.string ⟨#[]⟩) 16 rfl Try.underlying22 infoS rfl w.heap.size _ _ rfl (HI.out.ok.below ⟨rfl, rfl, rfl, Nat.le_refl _, fun _ _ => rfl⟩) (d.k.fro fr) (es.length - fr) (fro_len _ _ _ hkl.symm) rfl (((HD.out.k.below HI.out.below).fro fr).drew) (fun u hu => HONE.out.1 u (List.mem_of_mem_drop hu)) (by simp [Sv.fro]; omega) (by simp [Sv.fro]; omega) (by simp; omega) ?_
           intro a5 c5 w5 ho5 hg5
           revert ho5 hg5
           generalize List.length _ + List.length _ = n5
           intro ho5 hg5
           obtain ⟨⟨n4, n6⟩, hI5⟩ := HI.out.nextK ho5 (((Grew.refl wc _).drew).trans hg5)
           have HI5 : Hid (InX w (d.cells es.length ps.length) (d.k.vs.take at_ ++ [Value.string k] ++ d.k.vs.drop fr) (d.v.vs.take at_ ++ [Value.int .i64 v]) (d.l.vs.take at_ ++ [Value.int .i64 next]) _) := ⟨_, _, _, _, _, _, _, _, _, hI5⟩
           clear ho5 hg5 hI5))
    all_goals go_wp2
    all_goals go_meet
    all_goals exact HI5
  case rest =>
  have HX8 := hcut
  clear hcut HX7
  go_wp2_with fail
  go_cut [] from 84 to 91 (fun wx => Hid (InX w (d.cells es.length ps.length) (d.k.vs.take at_ ++ [Value.string k] ++ d.k.vs.drop fr) (d.v.vs.take at_ ++ [Value.int .i64 v] ++ d.v.vs.drop fr) (d.l.vs.take at_ ++ [Value.int .i64 next]) wx))
  case first =>
    obtain ⟨a1, n1, c1, a2, n2, c2, a3, n3, c3, hI⟩ := HX8.out
    have HI : Hid _ := hI
    have uf : wc.cell? ⟨w.heap.size + 2, 1, none⟩ = some (.slice a2 n2 c2) := by rw [cell_of_blk hI.ub]; rfl
    have tf : wc.cell? ⟨w.heap.size, 1, none⟩ = some (.slice d.v.ao es.length d.v.cap) := by rw [cell_of_blk hI.tb]; rfl
    have hbs := hI.below.size
    clear hI HX8
    go_region_law
      (first
        | (refine step_append_sv rfl (.tmp 85) (.tmp 89) 26 3 (.int .i64 0) 8 rfl Try.underlying26 infoI rfl w.heap.size _ _ rfl (HI.out.ov.below ⟨rfl, rfl, rfl, Nat.le_refl _, fun _ _ => rfl⟩) (d.v.fro fr) (es.length - fr) (fro_len _ _ _ hvl.symm) rfl (((HD.out.v.below HI.out.below).fro fr).drew) (fun u hu => HONE.out.2.1 u (List.mem_of_mem_drop hu)) (by simp [Sv.fro]; omega) (by simp [Sv.fro]; omega) (by simp; omega) ?_
           intro a5 c5 w5 ho5 hg5
           revert ho5 hg5
           generalize List.length _ + List.length _ = n5
           intro ho5 hg5
           obtain ⟨⟨n4, n6⟩, hI5⟩ := HI.out.nextV ho5 (((Grew.refl wc _).drew).trans hg5)
           have HI5 : Hid (InX w (d.cells es.length ps.length) (d.k.vs.take at_ ++ [Value.string k] ++ d.k.vs.drop fr) (d.v.vs.take at_ ++ [Value.int .i64 v] ++ d.v.vs.drop fr) (d.l.vs.take at_ ++ [Value.int .i64 next]) _) := ⟨_, _, _, _, _, _, _, _, _, hI5⟩
           clear ho5 hg5 hI5))
    all_goals go_wp2
    all_goals go_meet
    all_goals exact HI5
  case rest =>
  have HX9 := hcut
  clear hcut HX8
  go_wp2_with fail
  go_cut [] from 92 to 99 (fun wx => Hid (InX w (d.cells es.length ps.length) (d.k.vs.take at_ ++ [Value.string k] ++ d.k.vs.drop fr) (d.v.vs.take at_ ++ [Value.int .i64 v] ++ d.v.vs.drop fr) (d.l.vs.take at_ ++ [Value.int .i64 next] ++ d.l.vs.drop fr) wx))
  case first =>
    obtain ⟨a1, n1, c1, a2, n2, c2, a3, n3, c3, hI⟩ := HX9.out
    have HI : Hid _ := hI
    have uf : wc.cell? ⟨w.heap.size + 2, 2, none⟩ = some (.slice a3 n3 c3) := by rw [cell_of_blk hI.ub]; rfl
    have tf : wc.cell? ⟨w.heap.size, 2, none⟩ = some (.slice d.l.ao es.length d.l.cap) := by rw [cell_of_blk hI.tb]; rfl
    have hbs := hI.below.size
    clear hI HX9
    go_region_law
      (first
        | (refine step_append_sv rfl (.tmp 93) (.tmp 97) 26 3 (.int .i64 0) 8 rfl Try.underlying26 infoI rfl w.heap.size _ _ rfl (HI.out.ol.below ⟨rfl, rfl, rfl, Nat.le_refl _, fun _ _ => rfl⟩) (d.l.fro fr) (es.length - fr) (fro_len _ _ _ hlL.symm) rfl (((HD.out.l.below HI.out.below).fro fr).drew) (fun u hu => HONE.out.2.2 u (List.mem_of_mem_drop hu)) (by simp [Sv.fro]; omega) (by simp [Sv.fro]; omega) (by simp; omega) ?_
           intro a5 c5 w5 ho5 hg5
           revert ho5 hg5
           generalize List.length _ + List.length _ = n5
           intro ho5 hg5
           obtain ⟨⟨n4, n6⟩, hI5⟩ := HI.out.nextL ho5 (((Grew.refl wc _).drew).trans hg5)
           have HI5 : Hid (InX w (d.cells es.length ps.length) (d.k.vs.take at_ ++ [Value.string k] ++ d.k.vs.drop fr) (d.v.vs.take at_ ++ [Value.int .i64 v] ++ d.v.vs.drop fr) (d.l.vs.take at_ ++ [Value.int .i64 next] ++ d.l.vs.drop fr) _) := ⟨_, _, _, _, _, _, _, _, _, hI5⟩
           clear ho5 hg5 hI5))
    all_goals go_wp2
    all_goals go_meet
    all_goals exact HI5
  case rest =>
  have HX10 := hcut
  clear hcut HX9
  go_upto_region 17 with fail
  obtain ⟨a1, n1, c1, a2, n2, c2, a3, n3, c3, hI⟩ := HX10.out
  have HI : Hid _ := hI
  obtain ⟨es2, he2⟩ : ∃ e, e = insE es k v := ⟨_, rfl⟩
  have hK : d.k.vs.take at_ ++ [Value.string k] ++ d.k.vs.drop fr = strs (keysOf es2) := by
    rw [he2, keys_insE, HD.out.kk, HAT.out, HFR.out]; simp [strs, List.map_take, List.map_drop]
  have hV : d.v.vs.take at_ ++ [Value.int .i64 v] ++ d.v.vs.drop fr = ints (valsOf es2) := by
    rw [he2, vals_insE, HD.out.vv, HAT.out, HFR.out]; simp [ints, List.map_take, List.map_drop]
  have hlen2 : es2.length = at_ + 1 + (es.length - fr) := by rw [he2, insE_length es k v (by rw [← HAT.out]; exact hple), HAT.out, HFR.out]
  obtain ⟨ls, hls, hll⟩ := HD.out.ll
  have hL : d.l.vs.take at_ ++ [Value.int .i64 next] ++ d.l.vs.drop fr = ints (ls.take at_ ++ [next] ++ ls.drop fr) := by
    rw [hls]; simp [ints, List.map_take, List.map_drop]
  have hL2 : (ls.take at_ ++ [next] ++ ls.drop fr).length = es2.length := by rw [hlen2]; simp; omega
  have hsz2 : ∀ q ∈ keysOf es2, q.size ≤ 140737488351296 := by
    intro q hq
    rw [he2, keys_insE, List.mem_append, List.mem_cons] at hq
    rcases hq with hq | rfl | hq
    · exact HD.out.ksz _ (List.mem_of_mem_take hq)
    · exact hk
    · exact HD.out.ksz _ (List.mem_of_mem_drop hq)
  have hoK := hI.ok
  have hoV := hI.ov
  have hoL := hI.ol
  rw [hK] at hoK
  rw [hV] at hoV
  rw [hL] at hoL
  obtain ⟨x, hxv, hxs, hxA⟩ := hoK.sv
  have hxl : x.vs.length = es2.length := by rw [hxs, strs_length, keysOf_len]
  rw [hxl] at hxv
  simp only [Value.slice.injEq] at hxv
  obtain ⟨rfl, rfl, rfl⟩ := hxv
  have HREM := fun nx => remade_calls d es es2 ps x a2 a3 n2 c2 n3 c3 k nx wc (HD.out.keep hI.below) hxA hxs hsz2 hk (by omega) (by have := HD.out.plen; omega)
  unfold Dv.cells at HREM
  have t0 : wc.cell? ⟨w.heap.size, 0, none⟩ = some (.slice d.k.ao es.length d.k.cap) := by rw [cell_of_blk hI.tb]; rfl
  have t1 : wc.cell? ⟨w.heap.size, 1, none⟩ = some (.slice d.v.ao es.length d.v.cap) := by rw [cell_of_blk hI.tb]; rfl
  have t2 : wc.cell? ⟨w.heap.size, 2, none⟩ = some (.slice d.l.ao es.length d.l.cap) := by rw [cell_of_blk hI.tb]; rfl
  have t3 : wc.cell? ⟨w.heap.size, 3, none⟩ = some (.slice d.p.ao ps.length d.p.cap) := by rw [cell_of_blk hI.tb]; rfl
  have t4 : wc.cell? ⟨w.heap.size, 4, none⟩ = some (.slice d.m.ao ps.length d.m.cap) := by rw [cell_of_blk hI.tb]; rfl
  have y0 : wc.cell? ⟨w.heap.size + 2, 0, none⟩ = some (.slice x.ao es2.length x.cap) := by rw [cell_of_blk hI.ub]; rfl
  have y1 : wc.cell? ⟨w.heap.size + 2, 1, none⟩ = some (.slice a2 n2 c2) := by rw [cell_of_blk hI.ub]; rfl
  have y2 : wc.cell? ⟨w.heap.size + 2, 2, none⟩ = some (.slice a3 n3 c3) := by rw [cell_of_blk hI.ub]; rfl
  have y3 : wc.cell? ⟨w.heap.size + 2, 3, none⟩ = some (.slice none 0 0) := by rw [cell_of_blk hI.ub]; rfl
  have y4 : wc.cell? ⟨w.heap.size + 2, 4, none⟩ = some (.slice none 0 0) := by rw [cell_of_blk hI.ub]; rfl
  have HOV : Hid (OwnV wc w.heap.size 3 (.slice a2 n2 c2) (ints (valsOf es2)) ∧ OwnV wc w.heap.size 3 (.slice a3 n3 c3) (ints (ls.take at_ ++ [next] ++ ls.drop fr)) ∧ OwnV wc w.heap.size 9 (.slice x.ao es2.length x.cap) (strs (keysOf es2))) := ⟨hoV, hoL, hoK⟩
  have HE2 : Hid (es2 = insE es k v) := he2
  have HLL : Hid ((ls.take at_ ++ [next] ++ ls.drop fr).length = es2.length) := hL2
  clear hlen2 hxl hI HX10 hK hV hL hL2 hoK hoV hoL he2 hls hll u1 u2 u3 v1 v2 v3
  obtain ⟨ps2, hps2⟩ : ∃ p, p = pathsN (keysOf es2) es2.length := ⟨_, rfl⟩
  have HPS : Hid (ps2 = pathsN (keysOf es2) es2.length) := hps2
  rw [← hps2] at HREM
  clear hps2
  go_cut [3] from 100 to 108 (fun s3 wx => ∃ (z : Int) (pa ma : Option Addr) (pn pc mn mc : Nat) (ms : List Int) (cs : Array Value), s3 = .int .i64 z ∧ Hid (FinI w cs (.slice x.ao es2.length x.cap) (.slice a2 n2 c2) (.slice a3 n3 c3) (.slice pa pn pc) (.slice ma mn mc) (strs (keysOf es2)) (ints (valsOf es2)) (ints (ls.take at_ ++ [next] ++ ls.drop fr)) (strs ps2) (ints ms) wx) ∧ Hid (ms.length = ps2.length))
  case first =>
    go_wp2_with fail
    refine (HREM _).mono ?_
    clear HREM
    rintro e w8 ⟨pa, ma, pn, pc, mn, mc, z, ms, rfl, hb8, hop, hom, hml⟩
    have hbs := HI.out.below.size
    have e2 : w8.heap[w.heap.size + 2]? = some (.cells #[.slice x.ao es2.length x.cap, .slice a2 n2 c2, .slice a3 n3 c3, .slice none 0 0, .slice none 0 0] 28) := (hb8.block _ (lt_of_heap HI.out.ub)).trans HI.out.ub
    obtain ⟨cs, r0, hcs⟩ := HI.out.rb
    have e1 : w8.heap[w.heap.size + 1]? = some (.cells cs 28) := (hb8.block _ (lt_of_heap r0)).trans r0
    have f0 : w8.cell? ⟨w.heap.size + 2, 0, none⟩ = some (.slice x.ao es2.length x.cap) := by rw [cell_of_blk e2]; rfl
    have f1 : w8.cell? ⟨w.heap.size + 2, 1, none⟩ = some (.slice a2 n2 c2) := by rw [cell_of_blk e2]; rfl
    have f2 : w8.cell? ⟨w.heap.size + 2, 2, none⟩ = some (.slice a3 n3 c3) := by rw [cell_of_blk e2]; rfl
    have f3 : w8.cell? ⟨w.heap.size + 2, 3, none⟩ = some (.slice none 0 0) := by rw [cell_of_blk e2]; rfl
    have f4 : w8.cell? ⟨w.heap.size + 2, 4, none⟩ = some (.slice none 0 0) := by rw [cell_of_blk e2]; rfl
    have g0 : w8.frozen? ⟨w.heap.size + 2, 0, none⟩ = false := frozen_of_blk e2
    have g1 : w8.frozen? ⟨w.heap.size + 2, 1, none⟩ = false := frozen_of_blk e2
    have g2 : w8.frozen? ⟨w.heap.size + 2, 2, none⟩ = false := frozen_of_blk e2
    have g3 : w8.frozen? ⟨w.heap.size + 2, 3, none⟩ = false := frozen_of_blk e2
    have g4 : w8.frozen? ⟨w.heap.size + 2, 4, none⟩ = false := frozen_of_blk e2
    obtain ⟨wz, HWZ⟩ : ∃ wz, Hid (wz = ((((w8.setCell ⟨w.heap.size + 2, 0, none⟩ (.slice x.ao es2.length x.cap)).setCell ⟨w.heap.size + 2, 1, none⟩ (.slice a2 n2 c2)).setCell ⟨w.heap.size + 2, 2, none⟩ (.slice a3 n3 c3)).setCell ⟨w.heap.size + 2, 3, none⟩ (.slice pa pn pc)).setCell ⟨w.heap.size + 2, 4, none⟩ (.slice ma mn mc)) := ⟨_, rfl⟩
    have HFI : Hid (FinI w cs (.slice x.ao es2.length x.cap) (.slice a2 n2 c2) (.slice a3 n3 c3) (.slice pa pn pc) (.slice ma mn mc) (strs (keysOf es2)) (ints (valsOf es2)) (ints (ls.take at_ ++ [next] ++ ls.drop fr)) (strs ps2) (ints ms) wz) := by
      have hT : Touched [w.heap.size + 2] w8 wz := by
        rw [HWZ.out]
        exact (((((Touched.refl _ _).setCell _ _ (.inl (by simp))).setCell _ _ (.inl (by simp))).setCell _ _ (.inl (by simp))).setCell _ _ (.inl (by simp))).setCell _ _ (.inl (by simp))
      have hTT : ∀ b ∈ [w.heap.size + 2], ∃ cs, w8.heap[b]? = some (.cells cs 28) := fun b hb => by simp at hb; subst hb; exact ⟨_, e2⟩
      refine ⟨(HI.out.below.trans (hb8.mono hbs)).trans (hT.toBelow (Nat.le_trans hbs hb8.size) (fun k hk => by simp at hk; omega)), ?_, hcs, ?_, ?_, ?_, ?_, ?_, ?_⟩
      · rw [hT.block _ (lt_of_heap e1) (by simp)]; exact e1
      · rw [HWZ.out, setCell_blk (setCell_blk (setCell_blk (setCell_blk (setCell_blk e2 _) _) _) _) _]; rfl
      · exact own_touched (w := w) (HOV.out.2.2.below hb8) hT hTT (by decide)
      · exact own_touched (w := w) (HOV.out.1.below hb8) hT hTT (by decide)
      · exact own_touched (w := w) (HOV.out.2.1.below hb8) hT hTT (by decide)
      · exact own_touched (w := w) (hop.mono (by omega)) hT hTT (by decide)
      · exact own_touched (w := w) (hom.mono (by omega)) hT hTT (by decide)
    have HML : Hid (ms.length = ps2.length) := hml
    clear hb8 hop hom hml e1 e2 r0 t0 t1 t2 t3 t4 y0 y1 y2 y3 y4
    go_wp2_with fail
    rw [← HWZ.out]
    go_meet
    exact ⟨_, _, _, _, _, _, _, _, _, rfl, HFI, HML⟩
  case rest =>
    obtain ⟨z, pa, ma, pn, pc, mn, mc, ms, cs, rfl, HFI, HML⟩ := hcut
    clear HREM t0 t1 t2 t3 t4 y0 y1 y2 y3 y4 HOV HI
    have hcs := HFI.out.rz
    have e1 := HFI.out.rb
    have y0 : wc.cell? ⟨w.heap.size + 2, 0, none⟩ = some (.slice x.ao es2.length x.cap) := by rw [cell_of_blk HFI.out.ub]; rfl
    have y1 : wc.cell? ⟨w.heap.size + 2, 1, none⟩ = some (.slice a2 n2 c2) := by rw [cell_of_blk HFI.out.ub]; rfl
    have y2 : wc.cell? ⟨w.heap.size + 2, 2, none⟩ = some (.slice a3 n3 c3) := by rw [cell_of_blk HFI.out.ub]; rfl
    have y3 : wc.cell? ⟨w.heap.size + 2, 3, none⟩ = some (.slice pa pn pc) := by rw [cell_of_blk HFI.out.ub]; rfl
    have y4 : wc.cell? ⟨w.heap.size + 2, 4, none⟩ = some (.slice ma mn mc) := by rw [cell_of_blk HFI.out.ub]; rfl
    obtain ⟨o0, d0⟩ : ∃ y, wc.cell? ⟨w.heap.size + 1, 0, none⟩ = some y := ⟨cs[0], by rw [cell_of_blk e1]; simp [hcs]⟩
    obtain ⟨o1, d1⟩ : ∃ y, wc.cell? ⟨w.heap.size + 1, 1, none⟩ = some y := ⟨cs[1], by rw [cell_of_blk e1]; simp [hcs]⟩
    obtain ⟨o2, d2⟩ : ∃ y, wc.cell? ⟨w.heap.size + 1, 2, none⟩ = some y := ⟨cs[2], by rw [cell_of_blk e1]; simp [hcs]⟩
    obtain ⟨o3, d3⟩ : ∃ y, wc.cell? ⟨w.heap.size + 1, 3, none⟩ = some y := ⟨cs[3], by rw [cell_of_blk e1]; simp [hcs]⟩
    obtain ⟨o4, d4⟩ : ∃ y, wc.cell? ⟨w.heap.size + 1, 4, none⟩ = some y := ⟨cs[4], by rw [cell_of_blk e1]; simp [hcs]⟩
    have g0 : wc.frozen? ⟨w.heap.size + 1, 0, none⟩ = false := frozen_of_blk e1
    have g1 : wc.frozen? ⟨w.heap.size + 1, 1, none⟩ = false := frozen_of_blk e1
    have g2 : wc.frozen? ⟨w.heap.size + 1, 2, none⟩ = false := frozen_of_blk e1
    have g3 : wc.frozen? ⟨w.heap.size + 1, 3, none⟩ = false := frozen_of_blk e1
    have g4 : wc.frozen? ⟨w.heap.size + 1, 4, none⟩ = false := frozen_of_blk e1
    obtain ⟨wz, HWZ⟩ : ∃ wz, Hid (wz = ((((wc.setCell ⟨w.heap.size + 1, 0, none⟩ (.slice x.ao es2.length x.cap)).setCell ⟨w.heap.size + 1, 1, none⟩ (.slice a2 n2 c2)).setCell ⟨w.heap.size + 1, 2, none⟩ (.slice a3 n3 c3)).setCell ⟨w.heap.size + 1, 3, none⟩ (.slice pa pn pc)).setCell ⟨w.heap.size + 1, 4, none⟩ (.slice ma mn mc)) := ⟨_, rfl⟩
    have hz2 : wz.heap[w.heap.size + 1]? = some (.cells #[.slice x.ao es2.length x.cap, .slice a2 n2 c2, .slice a3 n3 c3, .slice pa pn pc, .slice ma mn mc] 28) := by
      obtain ⟨b0, b1, b2, b3, b4, rfl⟩ := five cs hcs
      rw [HWZ.out, setCell_blk (setCell_blk (setCell_blk (setCell_blk (setCell_blk e1 _) _) _) _) _]; rfl
    have k0 : wz.cell? ⟨w.heap.size + 1, 0, none⟩ = some (.slice x.ao es2.length x.cap) := by rw [cell_of_blk hz2]; rfl
    have k1 : wz.cell? ⟨w.heap.size + 1, 1, none⟩ = some (.slice a2 n2 c2) := by rw [cell_of_blk hz2]; rfl
    have k2 : wz.cell? ⟨w.heap.size + 1, 2, none⟩ = some (.slice a3 n3 c3) := by rw [cell_of_blk hz2]; rfl
    have k3 : wz.cell? ⟨w.heap.size + 1, 3, none⟩ = some (.slice pa pn pc) := by rw [cell_of_blk hz2]; rfl
    have k4 : wz.cell? ⟨w.heap.size + 1, 4, none⟩ = some (.slice ma mn mc) := by rw [cell_of_blk hz2]; rfl
    have HT : Hid (Touched [w.heap.size + 1] wc wz ∧ ∀ b ∈ [w.heap.size + 1], ∃ cs, wc.heap[b]? = some (.cells cs 28)) := by
      refine ⟨?_, fun b hb => by simp at hb; subst hb; exact ⟨_, e1⟩⟩
      rw [HWZ.out]
      exact (((((Touched.refl _ _).setCell _ _ (.inl (by simp))).setCell _ _ (.inl (by simp))).setCell _ _ (.inl (by simp))).setCell _ _ (.inl (by simp))).setCell _ _ (.inl (by simp))
    clear hz2 e1
    go_wp2_with fail
    rw [← HWZ.out]
    refine bodyPost_ret (v := .tuple #[.agg #[.slice x.ao es2.length x.cap, .slice a2 n2 c2, .slice a3 n3 c3, .slice pa pn pc, .slice ma mn mc], .int .i64 (oldV es k), .bool bk, .int .i64 z]) (by simp [results, Try.results26, go_sem, k0, k1, k2, k3, k4]) rfl ?_
    rw [← HE2.out, ← HPS.out]
    obtain ⟨xk, ek, vk, Ak, Yk⟩ := (own_touched (w := w) HFI.out.ok HT.out.1 HT.out.2 (by decide)).svt
    obtain ⟨xv, ev, vv, Av, Yv⟩ := (own_touched (w := w) HFI.out.ov HT.out.1 HT.out.2 (by decide)).svt
    obtain ⟨xl, el, vl, Al, Yl⟩ := (own_touched (w := w) HFI.out.ol HT.out.1 HT.out.2 (by decide)).svt
    obtain ⟨xp, ep, vp, Ap, Yp⟩ := (own_touched (w := w) HFI.out.op HT.out.1 HT.out.2 (by decide)).svt
    obtain ⟨xm, em, vm, Am, Ym⟩ := (own_touched (w := w) HFI.out.om HT.out.1 HT.out.2 (by decide)).svt
    have lk : xk.vs.length = es2.length := by rw [vk, strs_length, keysOf_len]
    have lv : xv.vs.length = es2.length := by rw [vv, ints_length]; simp [valsOf]
    have ll : xl.vs.length = es2.length := by rw [vl, ints_length]; exact HLL.out
    have lp : xp.vs.length = ps2.length := by rw [vp, strs_length]
    have lm : xm.vs.length = ps2.length := by rw [vm, ints_length]; exact HML.out
    refine ⟨⟨xk, xv, xl, xp, xm⟩, z, ?_, ⟨Ak, Av, Al, Ap, Am, vk, vv, ⟨_, vl, HLL.out⟩, vp, ⟨ms, vm, HML.out⟩, hsz2, ?_, ?_, ?_, ?_, ⟨Yk, Yv, Yl, Yp, Ym⟩⟩, HFI.out.below.trans (HT.out.1.toBelow HFI.out.below.size (fun k hk => by simp at hk; omega))⟩
    · rw [ek, ev, el, ep, em, lk, lv, ll, lp, lm]; try rfl
    · rw [HPS.out]; exact pathsN_size hsz2 _
    · rw [HE2.out]; exact insE_sorted HD.out.sorted _ _
    · rw [HPS.out]; exact pathsN_sorted _ _
    · rw [HPS.out]; exact pathsN_len _ _
end Go.Proofs.Ytcdfbbjakkmmoaa
