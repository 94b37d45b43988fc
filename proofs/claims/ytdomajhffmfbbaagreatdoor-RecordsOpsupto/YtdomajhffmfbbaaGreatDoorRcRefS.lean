/- Layer 9 (records): the document's FixService. -/
import Derived.Test.YtdomajhffmfbbaaGreatDoorRcRefF
namespace Go.Proofs.YtdomajhffmfbbaaGreatDoor
open Go.RowKit
set_option linter.unusedVariables false

theorem svcE_three (s : Sp) : svcE s = orE (threeE s.node s.id s.name) (orE (portE s.port) (tagsE s.tags)) := by
  rw [← three_id, orE_assoc]
  unfold svcE
  simp only [firstE]
  congr 2
  congr 1
  unfold orE
  by_cases h : tagsE s.tags = 0 <;> simp [h]
set_option maxRecDepth 100000 in
set_option maxHeartbeats 4000000 in
theorem refFixService_calls (s : Sp) (ta : Option Addr) (tc : Nat) (w : World) (hs : s.small) (hc : CellsAt w ta (s.tags.map Value.string)) :
    Calls Tryz.prog 8 #[.agg (s.v (.slice ta s.tags.length tc))] w fun e w' => SvcA w (svcF s) (svcE s) e w' := by
  obtain ⟨te, Hte⟩ : ∃ te, Hid (te = threeE s.node s.id s.name) := ⟨_, rfl⟩
  obtain ⟨ge, Hge⟩ : ∃ ge, Hid (ge = tagsE s.tags) := ⟨_, rfl⟩
  have HE : Hid (svcE s = orE te (orE (portE s.port) ge)) := by rw [Hid, Hte.out, Hge.out]; exact svcE_three s
  have HY : Hid (orE te (orE (portE s.port) ge) = 0 → svcF s = ⟨labT s.node, labT s.id, labT s.name, s.port, tagsB s.tags, 0, 0⟩) := fun h => svc_yes (by rw [HE.out]; exact h)
  have HN : Hid (¬ orE te (orE (portE s.port) ge) = 0 → svcF s = svcZ) := fun h => svc_no (by rw [HE.out]; exact h)
  have HT3 : Hid (te = 0 → ∀ x, threeT s.node s.id s.name x = labT x) := fun h x => by
    rw [Hte.out] at h
    unfold threeE at h
    unfold threeT
    split at h
    · next h1 => rw [if_pos h1]
    · cases h
  rw [HE.out]
  obtain ⟨hs1, hs2, hs3, hs4, hs5⟩ := hs
  have HC : Hid (CellsAt w ta (s.tags.map Value.string)) := hc
  have HS5 : Hid (∀ x ∈ s.tags, x.size ≤ 140737488351296) := hs5
  clear hc hs5 HE
  obtain ⟨nd, id, nm, po, tg, mk, ch⟩ := s
  simp only [Sp.v] at *
  obtain ⟨tl, Htl⟩ : ∃ tl, Hid (tl = tg.length) := ⟨_, rfl⟩
  have HT : Hid (∀ w, CellsAt w ta (tg.map Value.string) → Calls Tryz.prog 23 #[.slice ta tl tc] w fun e w' => ∃ v, e = .returned (.tuple #[v, .int .i64 ge]) ∧ w'.ownsRow w.heap.size 9 1 v (tagsL tg).length ((tagsL tg).map encS) ∧ Below w.heap.size w w') := fun w h => by rw [Htl.out, Hge.out]; exact refTags_calls ta tc tg w hs4 HS5.out h
  have H3 : Hid (∀ w, Calls Tryz.prog 22 #[.string nd, .string id, .string nm] w fun e w' => e = .returned (.tuple #[.string (threeT nd id nm nd), .string (threeT nd id nm id), .string (threeT nd id nm nm), .int .i64 te]) ∧ Below w.heap.size w w') := fun w => by rw [Hte.out]; exact three_calls nd id nm w hs1 hs2 hs3
  rw [← Htl.out]
  clear Hte Hge
  obtain ⟨w2, Hw2⟩ : ∃ w2, Hid (w2 = (w.alloc (.cells #[.string nd, .string id, .string nm, .int .i64 po, .slice ta tl tc, .int .u64 mk, .int .u64 ch] 27)).alloc (.cells #[.string ⟨#[]⟩, .string ⟨#[]⟩, .string ⟨#[]⟩, .int .i64 0, .slice none 0 0, .int .u64 0, .int .u64 0] 27)) := ⟨_, rfl⟩
  have hz : (w.alloc (.cells #[.string nd, .string id, .string nm, .int .i64 po, .slice ta tl tc, .int .u64 mk, .int .u64 ch] 27)).heap.size = w.heap.size + 1 := size_new _ _
  have HX2 : Hid (Blk w2 w.heap.size #[.string nd, .string id, .string nm, .int .i64 po, .slice ta tl tc, .int .u64 mk, .int .u64 ch] 27) := by rw [Hw2.out]; exact (Blk.new _ _ _).alloc _
  have HR2 : Hid (Blk w2 (w.heap.size + 1) #[.string ⟨#[]⟩, .string ⟨#[]⟩, .string ⟨#[]⟩, .int .i64 0, .slice none 0 0, .int .u64 0, .int .u64 0] 27) := by rw [Hw2.out, ← hz]; exact Blk.new _ _ _
  have HB2 : Hid (Below w.heap.size w w2) := by rw [Hw2.out]; exact (below_new w _).alloc (by rw [hz]; omega) _
  clear hz
  go_enter Tryz.func8, Tryz.ntmps8
  go_wp2_with fail
  rw [← Hw2.out]
  clear Hw2
  refine (H3.out w2).mono ?_
  rintro e w3 ⟨rfl, hb3⟩
  have HX3 : Hid (Blk w3 w.heap.size #[.string nd, .string id, .string nm, .int .i64 po, .slice ta tl tc, .int .u64 mk, .int .u64 ch] 27) := HX2.out.below hb3
  have HR3 : Hid (Blk w3 (w.heap.size + 1) #[.string ⟨#[]⟩, .string ⟨#[]⟩, .string ⟨#[]⟩, .int .i64 0, .slice none 0 0, .int .u64 0, .int .u64 0] 27) := HR2.out.below hb3
  have HB3 : Hid (Below w.heap.size w w3) := HB2.out.trans (hb3.mono HB2.out.size)
  clear hb3 HX2 HR2 HB2 H3
  by_cases h0 : te = 0
  case neg =>
    have hor : orE te (orE (portE po) ge) = te := by unfold orE; rw [if_neg h0]
    rw [hor] at HN
    have HQ : Hid (svcF ⟨nd, id, nm, po, tg, mk, ch⟩ = svcZ) := HN.out h0
    have Hor : Hid (orE te (orE (portE po) ge) = te) := hor
    have q : (te != 0) = true := by simpa using h0
    have r0 := HR3.out.cell 0 rfl
    have r1 := HR3.out.cell 1 rfl
    have r2 := HR3.out.cell 2 rfl
    have r3 := HR3.out.cell 3 rfl
    have r4 := HR3.out.cell 4 rfl
    have r5 := HR3.out.cell 5 rfl
    have r6 := HR3.out.cell 6 rfl
    have z := HR3.out.open
    clear HY HN hor
    go_wp2
    refine ret_box (g := w.heap.size + 1) (e := .int .i64 te) rfl rfl rfl rfl (load_svc (putC_all (l := [.string ⟨#[]⟩, .string ⟨#[]⟩, .string ⟨#[]⟩, .int .i64 0, .slice none 0 0, .int .u64 0, .int .u64 0]) HR3.out rfl) rfl) ⟨.slice none 0 0, ?_, ?_, putC_below [.string ⟨#[]⟩, .string ⟨#[]⟩, .string ⟨#[]⟩, .int .i64 0, .slice none 0 0, .int .u64 0, .int .u64 0] w3 0 HB3.out (by omega)⟩
    · rw [HQ.out, Hor.out]; rfl
    · rw [HQ.out]
      exact World.ownsRow_nil _ _ _ _
  have HTT : Hid (∀ x, threeT nd id nm x = labT x) := HT3.out h0
  rw [HTT.out, HTT.out, HTT.out]
  have hor : orE te (orE (portE po) ge) = orE (portE po) ge := by unfold orE; rw [if_pos h0]
  rw [hor] at HY HN
  have Hor1 : Hid (orE te (orE (portE po) ge) = orE (portE po) ge) := hor
  have q : (te != 0) = false := by simpa using h0
  have c3 := HX3.out.cell 3 rfl
  clear h0 hor HT3 HTT
  by_cases hp : po < 1 ∨ 65535 < po
  case pos =>
    have hpe : portE po = 92 := if_pos hp
    have hor : orE (portE po) ge = 92 := by unfold orE; rw [if_neg (by rw [hpe]; decide), hpe]
    rw [hor] at HN
    have HQ : Hid (svcF ⟨nd, id, nm, po, tg, mk, ch⟩ = svcZ) := HN.out (by decide)
    have Hor : Hid (orE te (orE (portE po) ge) = 92) := Hor1.out.trans hor
    have r0 := HR3.out.cell 0 rfl
    have r1 := HR3.out.cell 1 rfl
    have r2 := HR3.out.cell 2 rfl
    have r3 := HR3.out.cell 3 rfl
    have r4 := HR3.out.cell 4 rfl
    have r5 := HR3.out.cell 5 rfl
    have r6 := HR3.out.cell 6 rfl
    have z := HR3.out.open
    clear HY HN hor hpe
    rcases hp with hp | hp
    · go_wp2
      refine ret_box (g := w.heap.size + 1) (e := .int .i64 92) rfl rfl rfl rfl (load_svc (putC_all (l := [.string ⟨#[]⟩, .string ⟨#[]⟩, .string ⟨#[]⟩, .int .i64 0, .slice none 0 0, .int .u64 0, .int .u64 0]) HR3.out rfl) rfl) ⟨.slice none 0 0, ?_, ?_, putC_below [.string ⟨#[]⟩, .string ⟨#[]⟩, .string ⟨#[]⟩, .int .i64 0, .slice none 0 0, .int .u64 0, .int .u64 0] w3 0 HB3.out (by omega)⟩
      · rw [HQ.out, Hor.out]; rfl
      · rw [HQ.out]
        exact World.ownsRow_nil _ _ _ _
    · have hp' : ¬ po < 1 := by omega
      go_wp2
      refine ret_box (g := w.heap.size + 1) (e := .int .i64 92) rfl rfl rfl rfl (load_svc (putC_all (l := [.string ⟨#[]⟩, .string ⟨#[]⟩, .string ⟨#[]⟩, .int .i64 0, .slice none 0 0, .int .u64 0, .int .u64 0]) HR3.out rfl) rfl) ⟨.slice none 0 0, ?_, ?_, putC_below [.string ⟨#[]⟩, .string ⟨#[]⟩, .string ⟨#[]⟩, .int .i64 0, .slice none 0 0, .int .u64 0, .int .u64 0] w3 0 HB3.out (by omega)⟩
      · rw [HQ.out, Hor.out]; rfl
      · rw [HQ.out]
        exact World.ownsRow_nil _ _ _ _
  have hpe : portE po = 0 := if_neg hp
  have hor : orE (portE po) ge = ge := by unfold orE; rw [if_pos hpe]
  rw [hor] at HY HN
  have Hor : Hid (orE te (orE (portE po) ge) = ge) := Hor1.out.trans hor
  have p1 : ¬ po < 1 := by omega
  have p2 : ¬ (65535 < po) := by omega
  have c4 := HX3.out.cell 4 rfl
  clear hp hpe hor
  go_wp2_with fail
  refine (HT.out w3 (HC.out.below HB3.out)).mono ?_
  rintro e w5 ⟨v, rfl, ho5, hb5⟩
  obtain ⟨va, vn, vc, rfl⟩ : ∃ va vn vc, v = .slice va vn vc := by
    rcases ho5.2 with ⟨rfl, _⟩ | ⟨g, cap, cur, rfl, _⟩
    · exact ⟨_, _, _, rfl⟩
    · exact ⟨_, _, _, rfl⟩
  have HX5 : Hid (Blk w5 w.heap.size #[.string nd, .string id, .string nm, .int .i64 po, .slice ta tl tc, .int .u64 mk, .int .u64 ch] 27) := HX3.out.below hb5
  have HR5 : Hid (Blk w5 (w.heap.size + 1) #[.string ⟨#[]⟩, .string ⟨#[]⟩, .string ⟨#[]⟩, .int .i64 0, .slice none 0 0, .int .u64 0, .int .u64 0] 27) := HR3.out.below hb5
  have HB5 : Hid (Below w.heap.size w w5) := HB3.out.trans (hb5.mono HB3.out.size)
  have HO5 : Hid (w5.ownsRow w.heap.size 9 1 (.slice va vn vc) (tagsL tg).length ((tagsL tg).map encS)) := row_weak HB3.out.size ho5
  have HTy : Hid (∀ l : List Value, (putC w5 (w.heap.size + 1) 0 l).ownsRow w.heap.size 9 1 (.slice va vn vc) (tagsL tg).length ((tagsL tg).map encS)) := fun l => row_putC HR5.out (by decide) HO5.out l
  have c5 := HX5.out.cell 3 rfl
  have r0 := HR5.out.cell 0 rfl
  have r1 := HR5.out.cell 1 rfl
  have r2 := HR5.out.cell 2 rfl
  have r3 := HR5.out.cell 3 rfl
  have r4 := HR5.out.cell 4 rfl
  have r5 := HR5.out.cell 5 rfl
  have r6 := HR5.out.cell 6 rfl
  have z := HR5.out.open
  clear hb5 ho5 HX3 HR3 HB3 c3 c4 HT HC
  by_cases h1 : ge = 0
  · have HQ : Hid (svcF ⟨nd, id, nm, po, tg, mk, ch⟩ = ⟨labT nd, labT id, labT nm, po, tagsB tg, 0, 0⟩) := HY.out h1
    have q2 : (ge != 0) = false := by simpa using h1
    have H0 : Hid (0 = ge) := h1.symm
    clear h1 HY HN
    go_wp2
    refine ret_box (g := w.heap.size + 1) (e := .int .i64 0) rfl rfl rfl rfl (load_svc (putC_all (l := [.string (labT nd), .string (labT id), .string (labT nm), .int .i64 po, .slice va vn vc, .int .u64 0, .int .u64 0]) HR5.out rfl) rfl) ⟨.slice va vn vc, ?_, ?_, putC_below [.string (labT nd), .string (labT id), .string (labT nm), .int .i64 po, .slice va vn vc, .int .u64 0, .int .u64 0] w5 0 HB5.out (by omega)⟩
    · rw [HQ.out, Hor.out, ← H0.out]; rfl
    · rw [HQ.out]
      show World.ownsRow _ _ _ _ _ (tagsB tg).length ((tagsB tg).map Value.string)
      rw [tagsB_len, tagsB_map]
      exact HTy.out [.string (labT nd), .string (labT id), .string (labT nm), .int .i64 po, .slice va vn vc, .int .u64 0, .int .u64 0]
  · have HQ : Hid (svcF ⟨nd, id, nm, po, tg, mk, ch⟩ = svcZ) := HN.out h1
    have q2 : (ge != 0) = true := by simpa using h1
    clear HY HN
    go_wp2
    refine ret_box (g := w.heap.size + 1) (e := .int .i64 ge) rfl rfl rfl rfl (load_svc (putC_all (l := [.string ⟨#[]⟩, .string ⟨#[]⟩, .string ⟨#[]⟩, .int .i64 0, .slice none 0 0, .int .u64 0, .int .u64 0]) HR5.out rfl) rfl) ⟨.slice none 0 0, ?_, ?_, putC_below [.string ⟨#[]⟩, .string ⟨#[]⟩, .string ⟨#[]⟩, .int .i64 0, .slice none 0 0, .int .u64 0, .int .u64 0] w5 0 HB5.out (by omega)⟩
    · rw [HQ.out, Hor.out]; rfl
    · rw [HQ.out]
      exact World.ownsRow_nil _ _ _ _
end Go.Proofs.YtdomajhffmfbbaaGreatDoor
