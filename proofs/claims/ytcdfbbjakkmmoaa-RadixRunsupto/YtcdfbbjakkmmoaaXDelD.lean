/- The document's Delete: the walk. -/
import Derived.Test.YtcdfbbjakkmmoaaXInsD
namespace Go.Proofs.Ytcdfbbjakkmmoaa
open Go.RowKit
set_option linter.unusedVariables false

theorem keys_delE (es : List En) (k : ByteArray) : keysOf (delE es k) = (keysOf es).take (place (keysOf es) k) ++ (keysOf es).drop (frm es k) := by
  unfold delE frm keysOf; simp [List.map_take, List.map_drop]
theorem vals_delE (es : List En) (k : ByteArray) : valsOf (delE es k) = (valsOf es).take (place (keysOf es) k) ++ (valsOf es).drop (frm es k) := by
  unfold delE frm valsOf; simp [List.map_take, List.map_drop]
theorem delE_length (es : List En) (k : ByteArray) (h : place (keysOf es) k ≤ es.length) : (delE es k).length = place (keysOf es) k + (es.length - frm es k) := by
  unfold delE; simp [frm]; omega

set_option maxRecDepth 100000 in
set_option maxHeartbeats 8000000 in
theorem deleteD_calls (d : Dv) (es : List En) (ps : List ByteArray) (k : ByteArray) (next : Int) (w : World) (hd : DocAt w d es ps) (hk : k.size ≤ 140737488351296) (hl : es.length ≤ 5864062014640) (hin : k ∈ keysOf es) :
    Calls Try.prog 10 #[.agg (d.cells es.length ps.length), .string k, .int .i64 next] w fun e w' =>
      ∃ (d' : Dv) (z : Int), e = .returned (.tuple #[.agg (d'.cells (delE es k).length (pathsN (keysOf (delE es k)) (delE es k).length).length), .int .i64 (oldV es k), .bool true, .int .i64 z]) ∧
        DocAt w' d' (delE es k) (pathsN (keysOf (delE es k)) (delE es k).length) ∧ Below w.heap.size w w' := by
  obtain ⟨w1, HW1⟩ : ∃ w1, Hid (w1 = (w.alloc (.cells (d.cells es.length ps.length) 28)).alloc (.cells #[.slice none 0 0, .slice none 0 0, .slice none 0 0, .slice none 0 0, .slice none 0 0] 28)) := ⟨_, rfl⟩
  have hs1 : w1.heap.size = w.heap.size + 2 := by rw [HW1.out]; simp [World.size_alloc]
  have hb1 : Below w.heap.size w w1 := by rw [HW1.out]; exact ((Below.refl _ w).alloc (Nat.le_refl _) _).alloc (by simp [World.size_alloc]) _
  have q0 : w1.heap[w.heap.size]? = some (.cells (d.cells es.length ps.length) 28) := by
    rw [HW1.out, Below.heap_alloc _ _ _ (by simp [World.size_alloc])]; exact heap_alloc_new _ _
  have q1 : w1.heap[w.heap.size + 1]? = some (.cells #[.slice none 0 0, .slice none 0 0, .slice none 0 0, .slice none 0 0, .slice none 0 0] 28) := by
    rw [HW1.out]
    have := heap_alloc_new (w.alloc (.cells (d.cells es.length ps.length) 28)) (.cells #[.slice none 0 0, .slice none 0 0, .slice none 0 0, .slice none 0 0, .slice none 0 0] 28)
    simpa only [World.size_alloc] using this
  have HF := find_calls d.k (keysOf es) k w1 (hd.k.below hb1) hd.kk hd.sorted.keys hd.ksz hk (by rw [keysOf_len]; omega)
  rw [keysOf_len] at HF
  have hple : place (keysOf es) k ≤ es.length := by have := place_le (keysOf es) k; rwa [keysOf_len] at this
  obtain ⟨at_, hat⟩ : ∃ a, a = place (keysOf es) k := ⟨_, rfl⟩
  rw [← hat] at HF hple
  rw [decide_eq_true hin] at HF
  have HAT : Hid (at_ = place (keysOf es) k) := hat
  have HD : Hid (DocAt w d es ps) := hd
  have HQ : Hid (Below w.heap.size w w1 ∧ w1.heap[w.heap.size]? = some (.cells (d.cells es.length ps.length) 28) ∧ w1.heap[w.heap.size + 1]? = some (.cells #[.slice none 0 0, .slice none 0 0, .slice none 0 0, .slice none 0 0, .slice none 0 0] 28)) := ⟨hb1, q0, q1⟩
  have hnot : ∀ (x : Bool) (w : World), (Op.unary .not (.bool x)).run Try.prog w = .ok (.bool (!x)) w := fun _ _ => rfl
  clear hd hat hb1 q0 q1
  unfold Dv.cells
  unfold Dv.cells at HW1
  go_enter Try.func10, Try.ntmps10
  go_wp2_with fail
  rw [← HW1.out]
  clear HW1
  refine HF.mono ?_
  clear HF
  rintro e w2 ⟨rfl, nq, hw2⟩
  have hs2 : w2.heap.size = w.heap.size + 2 := by rw [hw2]; exact hs1
  have HB2 : Hid (Below w1.heap.size w1 w2) := by rw [hw2]; exact drewN_below w1 nq
  clear hw2
  obtain ⟨wa, HWA⟩ : ∃ wa, Hid (wa = w2.alloc (.cells #[.slice none 0 0, .slice none 0 0, .slice none 0 0, .slice none 0 0, .slice none 0 0] 28)) := ⟨_, rfl⟩
  have HX0 : Hid (InX w (d.cells es.length ps.length) [] [] [] wa) := by
    have b2 : Below w.heap.size w w2 := HQ.out.1.trans (HB2.out.mono HQ.out.1.size)
    refine ⟨none, 0, 0, none, 0, 0, none, 0, 0, ?_⟩
    rw [HWA.out]
    refine ⟨b2.alloc (by omega) _, ?_, ⟨#[.slice none 0 0, .slice none 0 0, .slice none 0 0, .slice none 0 0, .slice none 0 0], ?_, rfl⟩, ?_, OwnV.nil _ _ _, OwnV.nil _ _ _, OwnV.nil _ _ _, Apart.nil _⟩
    · rw [Below.heap_alloc _ _ _ (by omega), HB2.out.block _ (by omega)]; exact HQ.out.2.1
    · rw [Below.heap_alloc _ _ _ (by omega), HB2.out.block _ (by omega)]; exact HQ.out.2.2
    · rw [← hs2]; exact heap_alloc_new _ _
  obtain ⟨ls, hls, hll⟩ := HD.out.ll
  have hkl : d.k.vs.length = es.length := by rw [HD.out.kk, strs_length, keysOf_len]
  have hvl : d.v.vs.length = es.length := by rw [HD.out.vv, ints_length]; simp [valsOf]
  have hlL : d.l.vs.length = es.length := by rw [hls, ints_length]; exact hll
  have HONE : Hid ((∀ u ∈ d.k.vs, u.oneCell' = true) ∧ (∀ u ∈ d.v.vs, u.oneCell' = true) ∧ (∀ u ∈ d.l.vs, u.oneCell' = true)) := ⟨by rw [HD.out.kk]; exact strs_one _, by rw [HD.out.vv]; exact ints_one _, by rw [hls]; exact ints_one _⟩
  obtain ⟨fr, hfr⟩ : ∃ f, f = frm es k := ⟨_, rfl⟩
  have hfa : fr = at_ + 1 := by rw [hfr]; unfold frm; rw [if_pos hin, ← HAT.out]
  have hatl : at_ < es.length := by
    obtain ⟨h1, -⟩ := (place_mem HD.out.sorted.keys).2 hin
    rw [keysOf_len, ← HAT.out] at h1
    exact h1
  have hfl : fr ≤ es.length ∧ at_ ≤ fr := by omega
  have HFR : Hid (fr = frm es k) := hfr
  subst hfa
  have u1 : ∀ W : World, (Instr.slice 22 (.slice d.k.ao es.length d.k.cap) none (some (.int .i64 (at_ : Int))) none).run Try.prog W = .ok (.slice d.k.ao at_ d.k.cap) W := fun W => run_upToV elemS underS sizeS d.k es.length hkl.symm at_ hple (by rw [← hkl]; exact HD.out.k.room) W
  have u2 : ∀ W : World, (Instr.slice 26 (.slice d.v.ao es.length d.v.cap) none (some (.int .i64 (at_ : Int))) none).run Try.prog W = .ok (.slice d.v.ao at_ d.v.cap) W := fun W => run_upToV elemI underI sizeI d.v es.length hvl.symm at_ hple (by rw [← hvl]; exact HD.out.v.room) W
  have u3 : ∀ W : World, (Instr.slice 26 (.slice d.l.ao es.length d.l.cap) none (some (.int .i64 (at_ : Int))) none).run Try.prog W = .ok (.slice d.l.ao at_ d.l.cap) W := fun W => run_upToV elemI underI sizeI d.l es.length hlL.symm at_ hple (by rw [← hlL]; exact HD.out.l.room) W
  have v1 : ∀ W : World, (Instr.slice 22 (.slice d.k.ao es.length d.k.cap) (some (.int .i64 ((at_ : Int) + 1))) none none).run Try.prog W = .ok (.slice (d.k.fro (at_ + 1)).ao (es.length - (at_ + 1)) (d.k.fro (at_ + 1)).cap) W := fun W => by have := run_froV elemS underS sizeS d.k es.length hkl.symm (at_ + 1) hfl.1 W; rw [show ((at_ + 1 : Nat) : Int) = (at_ : Int) + 1 by omega] at this; exact this
  have v2 : ∀ W : World, (Instr.slice 26 (.slice d.v.ao es.length d.v.cap) (some (.int .i64 ((at_ : Int) + 1))) none none).run Try.prog W = .ok (.slice (d.v.fro (at_ + 1)).ao (es.length - (at_ + 1)) (d.v.fro (at_ + 1)).cap) W := fun W => by have := run_froV elemI underI sizeI d.v es.length hvl.symm (at_ + 1) hfl.1 W; rw [show ((at_ + 1 : Nat) : Int) = (at_ : Int) + 1 by omega] at this; exact this
  have v3 : ∀ W : World, (Instr.slice 26 (.slice d.l.ao es.length d.l.cap) (some (.int .i64 ((at_ : Int) + 1))) none none).run Try.prog W = .ok (.slice (d.l.fro (at_ + 1)).ao (es.length - (at_ + 1)) (d.l.fro (at_ + 1)).cap) W := fun W => by have := run_froV elemI underI sizeI d.l es.length hlL.symm (at_ + 1) hfl.1 W; rw [show ((at_ + 1 : Nat) : Int) = (at_ : Int) + 1 by omega] at this; exact this
  clear hfr hls hll
  go_wp2_with fail
  rw [← HWA.out]
  clear HWA HQ HB2 hs2 hs1
  go_cut [] from 25 to 38 (fun wx => Hid (InX w (d.cells es.length ps.length) (d.k.vs.take at_ ++ d.k.vs.drop (at_ + 1)) [] [] wx))
  case first =>
    obtain ⟨a1, n1, c1, a2, n2, c2, a3, n3, c3, hI⟩ := HX0.out
    have HI : Hid _ := hI
    have uf : wa.cell? ⟨w.heap.size + 2, 0, none⟩ = some (.slice a1 n1 c1) := by rw [cell_of_blk hI.ub]; rfl
    have tf : wa.cell? ⟨w.heap.size, 0, none⟩ = some (.slice d.k.ao es.length d.k.cap) := by rw [cell_of_blk hI.tb]; rfl
    have hbs := hI.below.size
    have hwr : IntKind.i64.wrap ((at_ : Int) + 1) = (at_ : Int) + 1 := by rw [IntKind.wrap_i64]; omega
    clear hI HX0
    go_region_law
      (first
        | (refine step_append_sv rfl (.tmp 26) (.tmp 30) 22 9 (.string ⟨#[]⟩) 16 rfl Try.underlying22 infoS rfl w.heap.size _ _ rfl (HI.out.ok.below ⟨rfl, rfl, rfl, Nat.le_refl _, fun _ _ => rfl⟩) (d.k.upTo at_) at_ (upTo_len _ _ (by rw [hkl]; exact hple)) rfl (((HD.out.k.below HI.out.below).upTo at_).drew) (fun u hu => HONE.out.1 u (List.mem_of_mem_take hu)) (by simp [Sv.upTo]; omega) (by simp [Sv.upTo]; omega) (by simp; omega) ?_
           intro a5 c5 w5 ho5 hg5
           revert ho5 hg5
           generalize List.length _ + List.length _ = n5
           intro ho5 hg5
           have hG5 := ((Grew.refl wa _).drew).trans hg5
           have tb5 := grew_blk HI.out.ok hG5 HI.out.tb (by decide)
           have ub5 := grew_blk HI.out.ok hG5 HI.out.ub (by decide)
           have hbw5 : Below w.heap.size w w5 := HI.out.below.trans (hG5.toBelow hbs (fun q hq => (HI.out.ok.lt q hq).1))
           have tf5 : w5.cell? ⟨w.heap.size, 0, none⟩ = some (.slice d.k.ao es.length d.k.cap) := by rw [cell_of_blk tb5]; rfl
           have HG5 : Hid (Grew wa w5 (.slice a1 n1 c1) (.slice a5 n5 c5) ∧ OwnV w5 w.heap.size 9 (.slice a5 n5 c5) ([] ++ (d.k.upTo at_).vs) ∧ Below w.heap.size w w5) := ⟨hG5, ho5, hbw5⟩
           have hs5 := hbw5.size
           clear ho5 hg5 hG5 tb5 ub5 hbw5)
        | (refine step_append_sv rfl (.tmp 31) (.tmp 36) 22 9 (.string ⟨#[]⟩) 16 rfl Try.underlying22 infoS rfl w.heap.size _ _ rfl HG5.out.2.1 (d.k.fro (at_ + 1)) (es.length - (at_ + 1)) (fro_len _ _ _ hkl.symm) rfl ((HD.out.k.below HG5.out.2.2).fro (at_ + 1)) (fun u hu => HONE.out.1 u (List.mem_of_mem_drop hu)) (by simp [Sv.fro, Sv.upTo]; omega) (by simp [Sv.fro, Sv.upTo]; omega) (by omega) ?_
           intro a6 c6 w6 ho6 hg6
           revert ho6 hg6
           generalize List.length _ + List.length _ = n6
           intro ho6 hg6
           obtain ⟨⟨n4, n7⟩, hI6⟩ := HI.out.nextK ho6 (HG5.out.1.trans hg6)
           have HI6 : Hid (InX w (d.cells es.length ps.length) (d.k.vs.take at_ ++ d.k.vs.drop (at_ + 1)) [] [] _) := ⟨_, _, _, _, _, _, _, _, _, hI6⟩
           clear ho6 hg6 hI6))
    all_goals go_wp2
    all_goals go_meet
    all_goals exact HI6
  case rest =>
  have HX1 := hcut
  clear hcut HX0
  go_wp2_with fail
  go_cut [] from 39 to 52 (fun wx => Hid (InX w (d.cells es.length ps.length) (d.k.vs.take at_ ++ d.k.vs.drop (at_ + 1)) (d.v.vs.take at_ ++ d.v.vs.drop (at_ + 1)) [] wx))
  case first =>
    obtain ⟨a1, n1, c1, a2, n2, c2, a3, n3, c3, hI⟩ := HX1.out
    have HI : Hid _ := hI
    have uf : wc.cell? ⟨w.heap.size + 2, 1, none⟩ = some (.slice a2 n2 c2) := by rw [cell_of_blk hI.ub]; rfl
    have tf : wc.cell? ⟨w.heap.size, 1, none⟩ = some (.slice d.v.ao es.length d.v.cap) := by rw [cell_of_blk hI.tb]; rfl
    have hbs := hI.below.size
    have hwr : IntKind.i64.wrap ((at_ : Int) + 1) = (at_ : Int) + 1 := by rw [IntKind.wrap_i64]; omega
    clear hI HX1
    go_region_law
      (first
        | (refine step_append_sv rfl (.tmp 40) (.tmp 44) 26 3 (.int .i64 0) 8 rfl Try.underlying26 infoI rfl w.heap.size _ _ rfl (HI.out.ov.below ⟨rfl, rfl, rfl, Nat.le_refl _, fun _ _ => rfl⟩) (d.v.upTo at_) at_ (upTo_len _ _ (by rw [hvl]; exact hple)) rfl (((HD.out.v.below HI.out.below).upTo at_).drew) (fun u hu => HONE.out.2.1 u (List.mem_of_mem_take hu)) (by simp [Sv.upTo]; omega) (by simp [Sv.upTo]; omega) (by simp; omega) ?_
           intro a5 c5 w5 ho5 hg5
           revert ho5 hg5
           generalize List.length _ + List.length _ = n5
           intro ho5 hg5
           have hG5 := ((Grew.refl wc _).drew).trans hg5
           have tb5 := grew_blk HI.out.ov hG5 HI.out.tb (by decide)
           have ub5 := grew_blk HI.out.ov hG5 HI.out.ub (by decide)
           have hbw5 : Below w.heap.size w w5 := HI.out.below.trans (hG5.toBelow hbs (fun q hq => (HI.out.ov.lt q hq).1))
           have tf5 : w5.cell? ⟨w.heap.size, 1, none⟩ = some (.slice d.v.ao es.length d.v.cap) := by rw [cell_of_blk tb5]; rfl
           have HG5 : Hid (Grew wc w5 (.slice a2 n2 c2) (.slice a5 n5 c5) ∧ OwnV w5 w.heap.size 3 (.slice a5 n5 c5) ([] ++ (d.v.upTo at_).vs) ∧ Below w.heap.size w w5) := ⟨hG5, ho5, hbw5⟩
           have hs5 := hbw5.size
           clear ho5 hg5 hG5 tb5 ub5 hbw5)
        | (refine step_append_sv rfl (.tmp 45) (.tmp 50) 26 3 (.int .i64 0) 8 rfl Try.underlying26 infoI rfl w.heap.size _ _ rfl HG5.out.2.1 (d.v.fro (at_ + 1)) (es.length - (at_ + 1)) (fro_len _ _ _ hvl.symm) rfl ((HD.out.v.below HG5.out.2.2).fro (at_ + 1)) (fun u hu => HONE.out.2.1 u (List.mem_of_mem_drop hu)) (by simp [Sv.fro, Sv.upTo]; omega) (by simp [Sv.fro, Sv.upTo]; omega) (by omega) ?_
           intro a6 c6 w6 ho6 hg6
           revert ho6 hg6
           generalize List.length _ + List.length _ = n6
           intro ho6 hg6
           obtain ⟨⟨n4, n7⟩, hI6⟩ := HI.out.nextV ho6 (HG5.out.1.trans hg6)
           have HI6 : Hid (InX w (d.cells es.length ps.length) (d.k.vs.take at_ ++ d.k.vs.drop (at_ + 1)) (d.v.vs.take at_ ++ d.v.vs.drop (at_ + 1)) [] _) := ⟨_, _, _, _, _, _, _, _, _, hI6⟩
           clear ho6 hg6 hI6))
    all_goals go_wp2
    all_goals go_meet
    all_goals exact HI6
  case rest =>
  have HX2 := hcut
  clear hcut HX1
  go_wp2_with fail
  go_cut [] from 53 to 66 (fun wx => Hid (InX w (d.cells es.length ps.length) (d.k.vs.take at_ ++ d.k.vs.drop (at_ + 1)) (d.v.vs.take at_ ++ d.v.vs.drop (at_ + 1)) (d.l.vs.take at_ ++ d.l.vs.drop (at_ + 1)) wx))
  case first =>
    obtain ⟨a1, n1, c1, a2, n2, c2, a3, n3, c3, hI⟩ := HX2.out
    have HI : Hid _ := hI
    have uf : wc.cell? ⟨w.heap.size + 2, 2, none⟩ = some (.slice a3 n3 c3) := by rw [cell_of_blk hI.ub]; rfl
    have tf : wc.cell? ⟨w.heap.size, 2, none⟩ = some (.slice d.l.ao es.length d.l.cap) := by rw [cell_of_blk hI.tb]; rfl
    have hbs := hI.below.size
    have hwr : IntKind.i64.wrap ((at_ : Int) + 1) = (at_ : Int) + 1 := by rw [IntKind.wrap_i64]; omega
    clear hI HX2
    go_region_law
      (first
        | (refine step_append_sv rfl (.tmp 54) (.tmp 58) 26 3 (.int .i64 0) 8 rfl Try.underlying26 infoI rfl w.heap.size _ _ rfl (HI.out.ol.below ⟨rfl, rfl, rfl, Nat.le_refl _, fun _ _ => rfl⟩) (d.l.upTo at_) at_ (upTo_len _ _ (by rw [hlL]; exact hple)) rfl (((HD.out.l.below HI.out.below).upTo at_).drew) (fun u hu => HONE.out.2.2 u (List.mem_of_mem_take hu)) (by simp [Sv.upTo]; omega) (by simp [Sv.upTo]; omega) (by simp; omega) ?_
           intro a5 c5 w5 ho5 hg5
           revert ho5 hg5
           generalize List.length _ + List.length _ = n5
           intro ho5 hg5
           have hG5 := ((Grew.refl wc _).drew).trans hg5
           have tb5 := grew_blk HI.out.ol hG5 HI.out.tb (by decide)
           have ub5 := grew_blk HI.out.ol hG5 HI.out.ub (by decide)
           have hbw5 : Below w.heap.size w w5 := HI.out.below.trans (hG5.toBelow hbs (fun q hq => (HI.out.ol.lt q hq).1))
           have tf5 : w5.cell? ⟨w.heap.size, 2, none⟩ = some (.slice d.l.ao es.length d.l.cap) := by rw [cell_of_blk tb5]; rfl
           have HG5 : Hid (Grew wc w5 (.slice a3 n3 c3) (.slice a5 n5 c5) ∧ OwnV w5 w.heap.size 3 (.slice a5 n5 c5) ([] ++ (d.l.upTo at_).vs) ∧ Below w.heap.size w w5) := ⟨hG5, ho5, hbw5⟩
           have hs5 := hbw5.size
           clear ho5 hg5 hG5 tb5 ub5 hbw5)
        | (refine step_append_sv rfl (.tmp 59) (.tmp 64) 26 3 (.int .i64 0) 8 rfl Try.underlying26 infoI rfl w.heap.size _ _ rfl HG5.out.2.1 (d.l.fro (at_ + 1)) (es.length - (at_ + 1)) (fro_len _ _ _ hlL.symm) rfl ((HD.out.l.below HG5.out.2.2).fro (at_ + 1)) (fun u hu => HONE.out.2.2 u (List.mem_of_mem_drop hu)) (by simp [Sv.fro, Sv.upTo]; omega) (by simp [Sv.fro, Sv.upTo]; omega) (by omega) ?_
           intro a6 c6 w6 ho6 hg6
           revert ho6 hg6
           generalize List.length _ + List.length _ = n6
           intro ho6 hg6
           obtain ⟨⟨n4, n7⟩, hI6⟩ := HI.out.nextL ho6 (HG5.out.1.trans hg6)
           have HI6 : Hid (InX w (d.cells es.length ps.length) (d.k.vs.take at_ ++ d.k.vs.drop (at_ + 1)) (d.v.vs.take at_ ++ d.v.vs.drop (at_ + 1)) (d.l.vs.take at_ ++ d.l.vs.drop (at_ + 1)) _) := ⟨_, _, _, _, _, _, _, _, _, hI6⟩
           clear ho6 hg6 hI6))
    all_goals go_wp2
    all_goals go_meet
    all_goals exact HI6
  case rest =>
  have HX3 := hcut
  clear hcut HX2
  go_upto_region 8 with fail
  obtain ⟨a1, n1, c1, a2, n2, c2, a3, n3, c3, hI⟩ := HX3.out
  have HI : Hid _ := hI
  obtain ⟨es2, he2⟩ : ∃ e, e = delE es k := ⟨_, rfl⟩
  have hK : d.k.vs.take at_ ++ d.k.vs.drop (at_ + 1) = strs (keysOf es2) := by
    rw [he2, keys_delE, HD.out.kk, ← HFR.out, ← HAT.out]; simp [strs, List.map_take, List.map_drop]
  have hV : d.v.vs.take at_ ++ d.v.vs.drop (at_ + 1) = ints (valsOf es2) := by
    rw [he2, vals_delE, HD.out.vv, ← HFR.out, ← HAT.out]; simp [ints, List.map_take, List.map_drop]
  have hlen2 : es2.length = at_ + (es.length - (at_ + 1)) := by rw [he2, delE_length es k (by rw [← HAT.out]; exact hple), ← HFR.out, ← HAT.out]
  obtain ⟨ls, hls, hll⟩ := HD.out.ll
  have hL : d.l.vs.take at_ ++ d.l.vs.drop (at_ + 1) = ints (ls.take at_ ++ ls.drop (at_ + 1)) := by
    rw [hls]; simp [ints, List.map_take, List.map_drop]
  have hL2 : (ls.take at_ ++ ls.drop (at_ + 1)).length = es2.length := by rw [hlen2]; simp; omega
  have hsz2 : ∀ q ∈ keysOf es2, q.size ≤ 140737488351296 := by
    intro q hq
    rw [he2, keys_delE, List.mem_append] at hq
    rcases hq with hq | hq
    · exact HD.out.ksz _ (List.mem_of_mem_take hq)
    · exact HD.out.ksz _ (List.mem_of_mem_drop hq)
  have hoK := hI.ok
  have hoV := hI.ov
  have hoL := hI.ol
  rw [hK] at hoK
  rw [hV] at hoV
  rw [hL] at hoL
  obtain ⟨x, hxv, hxs, hxA⟩ := hoK.sv
  have hxl : x.vs.length = es2.length := by rw [hxs, strs_length, keysOf_len]
  rw [hxl] at hxv
  simp only [Value.slice.injEq] at hxv
  obtain ⟨rfl, rfl, rfl⟩ := hxv
  have HREM := fun nx => remade_calls d es es2 ps x a2 a3 n2 c2 n3 c3 k nx wc (HD.out.keep hI.below) hxA hxs hsz2 hk (by omega) (by have := HD.out.plen; omega)
  unfold Dv.cells at HREM
  have t0 : wc.cell? ⟨w.heap.size, 0, none⟩ = some (.slice d.k.ao es.length d.k.cap) := by rw [cell_of_blk hI.tb]; rfl
  have t1 : wc.cell? ⟨w.heap.size, 1, none⟩ = some (.slice d.v.ao es.length d.v.cap) := by rw [cell_of_blk hI.tb]; rfl
  have t2 : wc.cell? ⟨w.heap.size, 2, none⟩ = some (.slice d.l.ao es.length d.l.cap) := by rw [cell_of_blk hI.tb]; rfl
  have t3 : wc.cell? ⟨w.heap.size, 3, none⟩ = some (.slice d.p.ao ps.length d.p.cap) := by rw [cell_of_blk hI.tb]; rfl
  have t4 : wc.cell? ⟨w.heap.size, 4, none⟩ = some (.slice d.m.ao ps.length d.m.cap) := by rw [cell_of_blk hI.tb]; rfl
  have y0 : wc.cell? ⟨w.heap.size + 2, 0, none⟩ = some (.slice x.ao es2.length x.cap) := by rw [cell_of_blk hI.ub]; rfl
  have y1 : wc.cell? ⟨w.heap.size + 2, 1, none⟩ = some (.slice a2 n2 c2) := by rw [cell_of_blk hI.ub]; rfl
  have y2 : wc.cell? ⟨w.heap.size + 2, 2, none⟩ = some (.slice a3 n3 c3) := by rw [cell_of_blk hI.ub]; rfl
  have y3 : wc.cell? ⟨w.heap.size + 2, 3, none⟩ = some (.slice none 0 0) := by rw [cell_of_blk hI.ub]; rfl
  have y4 : wc.cell? ⟨w.heap.size + 2, 4, none⟩ = some (.slice none 0 0) := by rw [cell_of_blk hI.ub]; rfl
  have HOV : Hid (OwnV wc w.heap.size 3 (.slice a2 n2 c2) (ints (valsOf es2)) ∧ OwnV wc w.heap.size 3 (.slice a3 n3 c3) (ints (ls.take at_ ++ ls.drop (at_ + 1))) ∧ OwnV wc w.heap.size 9 (.slice x.ao es2.length x.cap) (strs (keysOf es2))) := ⟨hoV, hoL, hoK⟩
  have HE2 : Hid (es2 = delE es k) := he2
  have HLL : Hid ((ls.take at_ ++ ls.drop (at_ + 1)).length = es2.length) := hL2
  clear hlen2 hxl hI HX3 hK hV hL hL2 hoK hoV hoL he2 hls hll u1 u2 u3 v1 v2 v3
  obtain ⟨ps2, hps2⟩ : ∃ p, p = pathsN (keysOf es2) es2.length := ⟨_, rfl⟩
  have HPS : Hid (ps2 = pathsN (keysOf es2) es2.length) := hps2
  rw [← hps2] at HREM
  clear hps2
  go_cut [2] from 67 to 74 (fun s3 wx => ∃ (z : Int) (pa ma : Option Addr) (pn pc mn mc : Nat) (ms : List Int) (cs : Array Value), s3 = .int .i64 z ∧ Hid (FinI w cs (.slice x.ao es2.length x.cap) (.slice a2 n2 c2) (.slice a3 n3 c3) (.slice pa pn pc) (.slice ma mn mc) (strs (keysOf es2)) (ints (valsOf es2)) (ints (ls.take at_ ++ ls.drop (at_ + 1))) (strs ps2) (ints ms) wx) ∧ Hid (ms.length = ps2.length) ∧ Hid (wx.heap[w.heap.size]? = some (.cells (d.cells es.length ps.length) 28)))
  case first =>
    go_wp2_with fail
    refine (HREM _).mono ?_
    clear HREM
    rintro e w8 ⟨pa, ma, pn, pc, mn, mc, z, ms, rfl, hb8, hop, hom, hml⟩
    have hbs := HI.out.below.size
    have e2 : w8.heap[w.heap.size + 2]? = some (.cells #[.slice x.ao es2.length x.cap, .slice a2 n2 c2, .slice a3 n3 c3, .slice none 0 0, .slice none 0 0] 28) := (hb8.block _ (lt_of_heap HI.out.ub)).trans HI.out.ub
    obtain ⟨cs, r0, hcs⟩ := HI.out.rb
    have e1 : w8.heap[w.heap.size + 1]? = some (.cells cs 28) := (hb8.block _ (lt_of_heap r0)).trans r0
    have f0 : w8.cell? ⟨w.heap.size + 2, 0, none⟩ = some (.slice x.ao es2.length x.cap) := by rw [cell_of_blk e2]; rfl
    have f1 : w8.cell? ⟨w.heap.size + 2, 1, none⟩ = some (.slice a2 n2 c2) := by rw [cell_of_blk e2]; rfl
    have f2 : w8.cell? ⟨w.heap.size + 2, 2, none⟩ = some (.slice a3 n3 c3) := by rw [cell_of_blk e2]; rfl
    have f3 : w8.cell? ⟨w.heap.size + 2, 3, none⟩ = some (.slice none 0 0) := by rw [cell_of_blk e2]; rfl
    have f4 : w8.cell? ⟨w.heap.size + 2, 4, none⟩ = some (.slice none 0 0) := by rw [cell_of_blk e2]; rfl
    have g0 : w8.frozen? ⟨w.heap.size + 2, 0, none⟩ = false := frozen_of_blk e2
    have g1 : w8.frozen? ⟨w.heap.size + 2, 1, none⟩ = false := frozen_of_blk e2
    have g2 : w8.frozen? ⟨w.heap.size + 2, 2, none⟩ = false := frozen_of_blk e2
    have g3 : w8.frozen? ⟨w.heap.size + 2, 3, none⟩ = false := frozen_of_blk e2
    have g4 : w8.frozen? ⟨w.heap.size + 2, 4, none⟩ = false := frozen_of_blk e2
    obtain ⟨wz, HWZ⟩ : ∃ wz, Hid (wz = ((((w8.setCell ⟨w.heap.size + 2, 0, none⟩ (.slice x.ao es2.length x.cap)).setCell ⟨w.heap.size + 2, 1, none⟩ (.slice a2 n2 c2)).setCell ⟨w.heap.size + 2, 2, none⟩ (.slice a3 n3 c3)).setCell ⟨w.heap.size + 2, 3, none⟩ (.slice pa pn pc)).setCell ⟨w.heap.size + 2, 4, none⟩ (.slice ma mn mc)) := ⟨_, rfl⟩
    have HFI : Hid (FinI w cs (.slice x.ao es2.length x.cap) (.slice a2 n2 c2) (.slice a3 n3 c3) (.slice pa pn pc) (.slice ma mn mc) (strs (keysOf es2)) (ints (valsOf es2)) (ints (ls.take at_ ++ ls.drop (at_ + 1))) (strs ps2) (ints ms) wz) := by
      have hT : Touched [w.heap.size + 2] w8 wz := by
        rw [HWZ.out]
        exact (((((Touched.refl _ _).setCell _ _ (.inl (by simp))).setCell _ _ (.inl (by simp))).setCell _ _ (.inl (by simp))).setCell _ _ (.inl (by simp))).setCell _ _ (.inl (by simp))
      have hTT : ∀ b ∈ [w.heap.size + 2], ∃ cs, w8.heap[b]? = some (.cells cs 28) := fun b hb => by simp at hb; subst hb; exact ⟨_, e2⟩
      refine ⟨(HI.out.below.trans (hb8.mono hbs)).trans (hT.toBelow (Nat.le_trans hbs hb8.size) (fun k hk => by simp at hk; omega)), ?_, hcs, ?_, ?_, ?_, ?_, ?_, ?_⟩
      · rw [hT.block _ (lt_of_heap e1) (by simp)]; exact e1
      · rw [HWZ.out, setCell_blk (setCell_blk (setCell_blk (setCell_blk (setCell_blk e2 _) _) _) _) _]; rfl
      · exact own_touched (w := w) (HOV.out.2.2.below hb8) hT hTT (by decide)
      · exact own_touched (w := w) (HOV.out.1.below hb8) hT hTT (by decide)
      · exact own_touched (w := w) (HOV.out.2.1.below hb8) hT hTT (by decide)
      · exact own_touched (w := w) (hop.mono (by omega)) hT hTT (by decide)
      · exact own_touched (w := w) (hom.mono (by omega)) hT hTT (by decide)
    have HML : Hid (ms.length = ps2.length) := hml
    have HTB : Hid (wz.heap[w.heap.size]? = some (.cells (d.cells es.length ps.length) 28)) := by
      show _ = _
      have hT : Touched [w.heap.size + 2] w8 wz := by
        rw [HWZ.out]
        exact (((((Touched.refl _ _).setCell _ _ (.inl (by simp))).setCell _ _ (.inl (by simp))).setCell _ _ (.inl (by simp))).setCell _ _ (.inl (by simp))).setCell _ _ (.inl (by simp))
      have hb0 := (hb8.block _ (lt_of_heap HI.out.tb)).trans HI.out.tb
      rw [hT.block _ (lt_of_heap hb0) (by simp)]; exact hb0
    clear hb8 hop hom hml e1 e2 r0 t0 t1 t2 t3 t4 y0 y1 y2 y3 y4
    go_wp2_with fail
    rw [← HWZ.out]
    go_meet
    exact ⟨_, _, _, _, _, _, _, _, _, rfl, HFI, HML, HTB⟩
  case rest =>
    obtain ⟨z, pa, ma, pn, pc, mn, mc, ms, cs, rfl, HFI, HML, HTB⟩ := hcut
    clear HREM t0 t1 t2 t3 t4 y0 y1 y2 y3 y4 HOV HI
    have hcs := HFI.out.rz
    have e1 := HFI.out.rb
    have y0 : wc.cell? ⟨w.heap.size + 2, 0, none⟩ = some (.slice x.ao es2.length x.cap) := by rw [cell_of_blk HFI.out.ub]; rfl
    have y1 : wc.cell? ⟨w.heap.size + 2, 1, none⟩ = some (.slice a2 n2 c2) := by rw [cell_of_blk HFI.out.ub]; rfl
    have y2 : wc.cell? ⟨w.heap.size + 2, 2, none⟩ = some (.slice a3 n3 c3) := by rw [cell_of_blk HFI.out.ub]; rfl
    have y3 : wc.cell? ⟨w.heap.size + 2, 3, none⟩ = some (.slice pa pn pc) := by rw [cell_of_blk HFI.out.ub]; rfl
    have y4 : wc.cell? ⟨w.heap.size + 2, 4, none⟩ = some (.slice ma mn mc) := by rw [cell_of_blk HFI.out.ub]; rfl
    obtain ⟨o0, d0⟩ : ∃ y, wc.cell? ⟨w.heap.size + 1, 0, none⟩ = some y := ⟨cs[0], by rw [cell_of_blk e1]; simp [hcs]⟩
    obtain ⟨o1, d1⟩ : ∃ y, wc.cell? ⟨w.heap.size + 1, 1, none⟩ = some y := ⟨cs[1], by rw [cell_of_blk e1]; simp [hcs]⟩
    obtain ⟨o2, d2⟩ : ∃ y, wc.cell? ⟨w.heap.size + 1, 2, none⟩ = some y := ⟨cs[2], by rw [cell_of_blk e1]; simp [hcs]⟩
    obtain ⟨o3, d3⟩ : ∃ y, wc.cell? ⟨w.heap.size + 1, 3, none⟩ = some y := ⟨cs[3], by rw [cell_of_blk e1]; simp [hcs]⟩
    obtain ⟨o4, d4⟩ : ∃ y, wc.cell? ⟨w.heap.size + 1, 4, none⟩ = some y := ⟨cs[4], by rw [cell_of_blk e1]; simp [hcs]⟩
    have g0 : wc.frozen? ⟨w.heap.size + 1, 0, none⟩ = false := frozen_of_blk e1
    have g1 : wc.frozen? ⟨w.heap.size + 1, 1, none⟩ = false := frozen_of_blk e1
    have g2 : wc.frozen? ⟨w.heap.size + 1, 2, none⟩ = false := frozen_of_blk e1
    have g3 : wc.frozen? ⟨w.heap.size + 1, 3, none⟩ = false := frozen_of_blk e1
    have g4 : wc.frozen? ⟨w.heap.size + 1, 4, none⟩ = false := frozen_of_blk e1
    obtain ⟨wz, HWZ⟩ : ∃ wz, Hid (wz = (((((wc.setCell ⟨w.heap.size + 1, 0, none⟩ (.slice x.ao es2.length x.cap)).setCell ⟨w.heap.size + 1, 1, none⟩ (.slice a2 n2 c2)).setCell ⟨w.heap.size + 1, 2, none⟩ (.slice a3 n3 c3)).setCell ⟨w.heap.size + 1, 3, none⟩ (.slice pa pn pc)).setCell ⟨w.heap.size + 1, 4, none⟩ (.slice ma mn mc)).drew) := ⟨_, rfl⟩
    have hz2 : wz.heap[w.heap.size + 1]? = some (.cells #[.slice x.ao es2.length x.cap, .slice a2 n2 c2, .slice a3 n3 c3, .slice pa pn pc, .slice ma mn mc] 28) := by
      obtain ⟨b0, b1, b2, b3, b4, rfl⟩ := five cs hcs
      rw [HWZ.out]
      show (((((wc.setCell _ _).setCell _ _).setCell _ _).setCell _ _).setCell _ _).heap[_]? = _
      rw [setCell_blk (setCell_blk (setCell_blk (setCell_blk (setCell_blk e1 _) _) _) _) _]; rfl
    have k0 : wz.cell? ⟨w.heap.size + 1, 0, none⟩ = some (.slice x.ao es2.length x.cap) := by rw [cell_of_blk hz2]; rfl
    have k1 : wz.cell? ⟨w.heap.size + 1, 1, none⟩ = some (.slice a2 n2 c2) := by rw [cell_of_blk hz2]; rfl
    have k2 : wz.cell? ⟨w.heap.size + 1, 2, none⟩ = some (.slice a3 n3 c3) := by rw [cell_of_blk hz2]; rfl
    have k3 : wz.cell? ⟨w.heap.size + 1, 3, none⟩ = some (.slice pa pn pc) := by rw [cell_of_blk hz2]; rfl
    have k4 : wz.cell? ⟨w.heap.size + 1, 4, none⟩ = some (.slice ma mn mc) := by rw [cell_of_blk hz2]; rfl
    have HT : Hid (Touched [w.heap.size + 1] wc wz ∧ ∀ b ∈ [w.heap.size + 1], ∃ cs, wc.heap[b]? = some (.cells cs 28)) := by
      refine ⟨?_, fun b hb => by simp at hb; subst hb; exact ⟨_, e1⟩⟩
      rw [HWZ.out]
      exact ((((((Touched.refl _ _).setCell _ _ (.inl (by simp))).setCell _ _ (.inl (by simp))).setCell _ _ (.inl (by simp))).setCell _ _ (.inl (by simp))).setCell _ _ (.inl (by simp))).drew
    clear hz2 e1
    have tb9 := HTB.out
    obtain ⟨vb, voff, hva, hvc0⟩ := HD.out.v.int HD.out.vv at_ (by simp [valsOf]; omega)
    have hvb : vb < w.heap.size := World.block_lt_of_cell? w _ hvc0
    have hvc := (HFI.out.below.cell (p := ⟨vb, voff + at_, none⟩) hvb).trans hvc0
    have hne1 : ¬ (w.heap.size + 1 = vb) := by omega
    have hne2 : ¬ (vb = w.heap.size + 1) := by omega
    have hne3 : ¬ (w.heap.size = w.heap.size + 1) := by omega
    have tv : wc.cell? ⟨w.heap.size, 1, none⟩ = some (.slice (some ⟨vb, voff, none⟩) es.length d.v.cap) := by rw [cell_of_blk tb9, ← hva]; rfl
    have hold : oldV es k = (valsOf es)[at_]'(by simp [valsOf]; omega) := by unfold oldV; rw [if_pos hin, ← HAT.out]; simp [valsOf, hatl]
    rw [← hold] at hvc
    have i1 : (0 : Int) ≤ (at_ : Int) ∧ (at_ : Int) < (es.length : Int) := by omega
    clear tb9 hva hold hvc0
    go_upto_region 9 with fail
    go_cut [7, 8, 9] from 75 to 81 (fun s7 s8 s9 wx => s7 = .int .i64 (oldV es k) ∧ s8 = .bool true ∧ s9 = .int .i64 z ∧ wz = wx)
    case first =>
      go_region_law (fail)
      all_goals go_wp2_with fail
      all_goals rw [← HWZ.out]
      all_goals go_meet
      all_goals exact ⟨rfl, rfl, rfl, rfl⟩
    case rest =>
    obtain ⟨rfl, rfl, rfl, rfl⟩ := hcut
    clear y0 y1 y2 y3 y4 d0 d1 d2 d3 d4 g0 g1 g2 g3 g4 tv hvc
    go_wp2_with fail
    refine bodyPost_ret (v := .tuple #[.agg #[.slice x.ao es2.length x.cap, .slice a2 n2 c2, .slice a3 n3 c3, .slice pa pn pc, .slice ma mn mc], .int .i64 (oldV es k), .bool true, .int .i64 z]) (by simp [results, Try.results10, go_sem, k0, k1, k2, k3, k4]) rfl ?_
    rw [← HE2.out, ← HPS.out]
    obtain ⟨xk, ek, vk, Ak, Yk⟩ := (own_touched (w := w) HFI.out.ok HT.out.1 HT.out.2 (by decide)).svt
    obtain ⟨xv, ev, vv, Av, Yv⟩ := (own_touched (w := w) HFI.out.ov HT.out.1 HT.out.2 (by decide)).svt
    obtain ⟨xl, el, vl, Al, Yl⟩ := (own_touched (w := w) HFI.out.ol HT.out.1 HT.out.2 (by decide)).svt
    obtain ⟨xp, ep, vp, Ap, Yp⟩ := (own_touched (w := w) HFI.out.op HT.out.1 HT.out.2 (by decide)).svt
    obtain ⟨xm, em, vm, Am, Ym⟩ := (own_touched (w := w) HFI.out.om HT.out.1 HT.out.2 (by decide)).svt
    have lk : xk.vs.length = es2.length := by rw [vk, strs_length, keysOf_len]
    have lv : xv.vs.length = es2.length := by rw [vv, ints_length]; simp [valsOf]
    have ll : xl.vs.length = es2.length := by rw [vl, ints_length]; exact HLL.out
    have lp : xp.vs.length = ps2.length := by rw [vp, strs_length]
    have lm : xm.vs.length = ps2.length := by rw [vm, ints_length]; exact HML.out
    refine ⟨⟨xk, xv, xl, xp, xm⟩, z, ?_, ⟨Ak, Av, Al, Ap, Am, vk, vv, ⟨_, vl, HLL.out⟩, vp, ⟨ms, vm, HML.out⟩, hsz2, ?_, ?_, ?_, ?_, ⟨Yk, Yv, Yl, Yp, Ym⟩⟩, HFI.out.below.trans (HT.out.1.toBelow HFI.out.below.size (fun k hk => by simp at hk; omega))⟩
    · rw [ek, ev, el, ep, em, lk, lv, ll, lp, lm]; try rfl
    · rw [HPS.out]; exact pathsN_size hsz2 _
    · rw [HE2.out]; exact delE_sorted HD.out.sorted _
    · rw [HPS.out]; exact pathsN_sorted _ _
    · rw [HPS.out]; exact pathsN_len _ _
end Go.Proofs.Ytcdfbbjakkmmoaa
