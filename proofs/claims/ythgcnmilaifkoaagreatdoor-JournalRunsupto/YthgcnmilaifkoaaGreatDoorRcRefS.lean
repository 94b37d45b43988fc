import Derived.Test.YthgcnmilaifkoaaGreatDoorRcTags
import Derived.Test.YthgcnmilaifkoaaGreatDoorRcFixT
import Derived.Test.YthgcnmilaifkoaaGreatDoorRcRefA
/- Layer 9 (records): the document's Three, FixNode, FixService. -/
namespace Go.Proofs.YthgcnmilaifkoaaGreatDoor
open Go.RowKit
set_option linter.unusedVariables false

theorem res_tmp4 {fn : Func} {t u v x : Tmp} (h : fn.results = #[.tmp t, .tmp u, .tmp v, .tmp x]) (tmps : Array Value) (P : Program) (w : World) :
  (results fn tmps).run P w = .ok (.tuple #[tmps.getD t undef, tmps.getD u undef, tmps.getD v undef, tmps.getD x undef]) w := by
 simp [results, h]
def threeB (a b c : ByteArray) : Bool := labB a && labB b && labB c
def threeE (a b c : ByteArray) : Int := if threeB a b c then 0 else 90
def threeT (a b c x : ByteArray) : ByteArray := if threeB a b c then labT x else ⟨#[]⟩
theorem labE_cases (s : ByteArray) : labB s = true ∧ labE s = 0 ∨ labB s = false ∧ labE s = 90 := by
 cases h : labB s with
 | true => exact .inl ⟨rfl, (lab_yes h).2⟩
 | false => exact .inr ⟨rfl, (lab_no h).2⟩
theorem three_id (a b c : ByteArray) : orE (idE a b) (labE c) = threeE a b c := by
 unfold idE threeE threeB orE
 rcases labE_cases a with ⟨h1, h2⟩ | ⟨h1, h2⟩ <;> rcases labE_cases b with ⟨h3, h4⟩ | ⟨h3, h4⟩ <;> rcases labE_cases c with ⟨h5, h6⟩ | ⟨h5, h6⟩ <;> simp [h1, h2, h3, h4, h5, h6]
theorem ret_four4 {a a' b b' c c' : ByteArray} {e e' : Int} (h1 : a = a') (h2 : b = b') (h3 : c = c') (h4 : e = e') : Ending.returned (.tuple #[.string a, .string b, .string c, .int .i64 e]) = .returned (.tuple #[.string a', .string b', .string c', .int .i64 e']) := by rw [h1, h2, h3, h4]

set_option maxHeartbeats 2000000 in
theorem three_calls (a b c : ByteArray) (w : World) (ha : a.size ≤ 140737488351296) (hb : b.size ≤ 140737488351296) (hc : c.size ≤ 140737488351296) :
    Calls Tryz.prog 30 #[.string a, .string b, .string c] w fun e w' => e = .returned (.tuple #[.string (threeT a b c a), .string (threeT a b c b), .string (threeT a b c c), .int .i64 (threeE a b c)]) ∧ Below w.heap.size w w' := by
  have HA := labE_cases a
  have HB := labE_cases b
  have HC := labE_cases c
  have HR : Hid ((labB a = true ∧ labB b = true ∧ labB c = true → (∀ x, threeT a b c x = labT x) ∧ threeE a b c = 0) ∧ (¬ (labB a = true ∧ labB b = true ∧ labB c = true) → (∀ x, threeT a b c x = ⟨#[]⟩) ∧ threeE a b c = 90)) := by
    refine ⟨fun ⟨h1, h2, h3⟩ => ?_, fun h => ?_⟩
    · have : threeB a b c = true := by simp [threeB, h1, h2, h3]
      exact ⟨fun x => by unfold threeT; rw [if_pos this], by unfold threeE; rw [if_pos this]⟩
    · have : threeB a b c = false := by
        cases h' : threeB a b c with
        | false => rfl
        | true => simp [threeB, and_assoc] at h'; exact absurd h' h
      exact ⟨fun x => by unfold threeT; simp [this], by unfold threeE; simp [this]⟩
  obtain ⟨ea, Hea⟩ : ∃ ea, Hid (ea = labE a) := ⟨_, rfl⟩
  obtain ⟨eb, Heb⟩ : ∃ eb, Hid (eb = labE b) := ⟨_, rfl⟩
  obtain ⟨ec, Hec⟩ : ∃ ec, Hid (ec = labE c) := ⟨_, rfl⟩
  rw [← Hea.out] at HA
  rw [← Heb.out] at HB
  rw [← Hec.out] at HC
  have HLa : Hid (∀ w, Calls Tryz.prog 29 #[.string a] w fun e w' => e = .returned (.tuple #[.string (labT a), .int .i64 ea]) ∧ Below w.heap.size w w') := fun w => by rw [Hea.out]; exact refLabel_calls a w ha
  have HLb : Hid (∀ w, Calls Tryz.prog 29 #[.string b] w fun e w' => e = .returned (.tuple #[.string (labT b), .int .i64 eb]) ∧ Below w.heap.size w w') := fun w => by rw [Heb.out]; exact refLabel_calls b w hb
  have HLc : Hid (∀ w, Calls Tryz.prog 29 #[.string c] w fun e w' => e = .returned (.tuple #[.string (labT c), .int .i64 ec]) ∧ Below w.heap.size w w') := fun w => by rw [Hec.out]; exact refLabel_calls c w hc
  clear Hea Heb Hec
  rcases HA with ⟨la, rfl⟩ | ⟨la, rfl⟩ <;> rcases HB with ⟨lb, rfl⟩ | ⟨lb, rfl⟩ <;> rcases HC with ⟨lc, rfl⟩ | ⟨lc, rfl⟩
  all_goals
    have HQ : Hid (((∀ x, threeT a b c x = labT x) ∧ threeE a b c = 0) ∨ ((∀ x, threeT a b c x = ⟨#[]⟩) ∧ threeE a b c = 90)) := by
      by_cases h : labB a = true ∧ labB b = true ∧ labB c = true
      · exact .inl (HR.out.1 h)
      · exact .inr (HR.out.2 h)
    have HY : Hid (labB a = true ∧ labB b = true ∧ labB c = true → (∀ x, threeT a b c x = labT x) ∧ threeE a b c = 0) := HR.out.1
    have HN : Hid (¬ (labB a = true ∧ labB b = true ∧ labB c = true) → (∀ x, threeT a b c x = ⟨#[]⟩) ∧ threeE a b c = 90) := HR.out.2
    have Hla : Hid (labB a = _) := la
    have Hlb : Hid (labB b = _) := lb
    have Hlc : Hid (labB c = _) := lc
    clear la lb lc HR HQ
    go_enter Tryz.func30, Tryz.ntmps30
    go_wp2_with fail
    refine (HLa.out w).mono ?_
    rintro e w1 ⟨rfl, hb1⟩
    have HB1 : Hid (Below w.heap.size w w1) := hb1
    clear hb1
    go_wp2_with fail
    refine (HLb.out w1).mono ?_
    rintro e w2 ⟨rfl, hb2⟩
    have HB2 : Hid (Below w.heap.size w w2) := HB1.out.trans (hb2.mono HB1.out.size)
    clear hb2
    go_wp2_with fail
    refine (HLc.out w2).mono ?_
    rintro e w3 ⟨rfl, hb3⟩
    have HB3 : Hid (Below w.heap.size w w3) := HB2.out.trans (hb3.mono HB2.out.size)
    clear hb3
    go_wp2
    refine bodyPost_ret (res_tmp4 rfl _ _ _) rfl ⟨?_, HB3.out⟩
    first
      | (obtain ⟨h1, h2⟩ := HY.out ⟨Hla.out, Hlb.out, Hlc.out⟩
         exact ret_four4 (h1 a).symm (h1 b).symm (h1 c).symm h2.symm)
      | (obtain ⟨h1, h2⟩ := HN.out (by simp [Hla.out, Hlb.out, Hlc.out])
         exact ret_four4 (h1 a).symm (h1 b).symm (h1 c).symm h2.symm)

theorem orE_assoc (a b c : Int) : orE (orE a b) c = orE a (orE b c) := by
 unfold orE
 by_cases h : a = 0 <;> simp [h]
set_option maxRecDepth 100000 in
set_option maxHeartbeats 2000000 in
theorem refFixNode_calls (n : Nd) (w : World) (h1 : n.name.size ≤ 140737488351296) (h2 : n.addr.size ≤ 1048576) :
  Calls Tryz.prog 26 #[.agg n.v] w fun e w' => e = .returned (.tuple #[.agg (fixN n).v, .int .i64 (nodeE n)]) ∧ Below w.heap.size w w' := by
 obtain ⟨le, Hle⟩ : ∃ le, Hid (le = labE n.name) := ⟨_, rfl⟩
 obtain ⟨ae, Hae⟩ : ∃ ae, Hid (ae = adrE n.addr) := ⟨_, rfl⟩
 have HE : Hid (nodeE n = orE le ae) := by rw [Hid, Hle.out, Hae.out]; rfl
 have HY : Hid (orE le ae = 0 → (fixN n).v = #[.string (labT n.name), .string n.addr, .int .u64 0, .int .u64 0]) := fun h => by rw [fixN_yes (by rw [HE.out]; exact h)]; rfl
 have HN : Hid (¬ orE le ae = 0 → (fixN n).v = #[.string ⟨#[]⟩, .string ⟨#[]⟩, .int .u64 0, .int .u64 0]) := fun h => by rw [fixN_no (by rw [HE.out]; exact h)]; rfl
 rw [HE.out]
 obtain ⟨nm, ad, mk, ch⟩ := n
 simp only [Nd.v] at *
 have HLb : Hid (∀ w, Calls Tryz.prog 29 #[.string nm] w fun e w' => e = .returned (.tuple #[.string (labT nm), .int .i64 le]) ∧ Below w.heap.size w w') := fun w => by rw [Hle.out]; exact refLabel_calls nm w h1
 obtain ⟨a0, a1, a2, a3, haA⟩ : ∃ a b c d, adrA ad = #[.agg #[.int .u8 a, .int .u8 b, .int .u8 c, .int .u8 d], .int .i64 (adrE ad)] := ⟨_, _, _, _, rfl⟩
 have HAd : Hid (∀ w, Calls Tryz.prog 41 #[.string ad] w fun e w' => e = .returned (.tuple #[.agg #[.int .u8 a0, .int .u8 a1, .int .u8 a2, .int .u8 a3], .int .i64 ae]) ∧ Below w.heap.size w w') := fun w => by
  have := refAddr_calls ad w h2
  rw [haA] at this
  rw [Hae.out]
  exact this
 clear haA Hle Hae HE
 obtain ⟨w2, Hw2⟩ : ∃ w2, Hid (w2 = (w.alloc (.cells #[.string nm, .string ad, .int .u64 mk, .int .u64 ch] 43)).alloc (.cells #[.string ⟨#[]⟩, .string ⟨#[]⟩, .int .u64 0, .int .u64 0] 43)) := ⟨_, rfl⟩
 have hz : (w.alloc (.cells #[.string nm, .string ad, .int .u64 mk, .int .u64 ch] 43)).heap.size = w.heap.size + 1 := size_new _ _
 have HX2 : Hid (Blk w2 w.heap.size #[.string nm, .string ad, .int .u64 mk, .int .u64 ch] 43) := by rw [Hw2.out]; exact (Blk.new _ _ _).alloc _
 have HR2 : Hid (Blk w2 (w.heap.size + 1) #[.string ⟨#[]⟩, .string ⟨#[]⟩, .int .u64 0, .int .u64 0] 43) := by rw [Hw2.out, ← hz]; exact Blk.new _ _ _
 have HB2 : Hid (Below w.heap.size w w2) := by rw [Hw2.out]; exact (below_new w _).alloc (by rw [hz]; omega) _
 clear hz
 go_enter Tryz.func26, Tryz.ntmps26
 go_wp2_with fail
 rw [← Hw2.out]
 clear Hw2
 refine (HLb.out w2).mono ?_
 rintro e w3 ⟨rfl, hb3⟩
 have HX3 : Hid (Blk w3 w.heap.size #[.string nm, .string ad, .int .u64 mk, .int .u64 ch] 43) := HX2.out.below hb3
 have HR3 : Hid (Blk w3 (w.heap.size + 1) #[.string ⟨#[]⟩, .string ⟨#[]⟩, .int .u64 0, .int .u64 0] 43) := HR2.out.below hb3
 have HB3 : Hid (Below w.heap.size w w3) := HB2.out.trans (hb3.mono HB2.out.size)
 clear hb3 HX2 HR2 HB2
 by_cases h0 : le = 0
 case neg =>
  have hor : orE le ae = le := by unfold orE; rw [if_neg h0]
  rw [hor] at HN
  have HQ : Hid (_ = _) := HN.out h0
  have Hor : Hid (le = orE le ae) := hor.symm
  have q : (le != 0) = true := by simpa using h0
  have r0 := HR3.out.cell 0 rfl
  have r1 := HR3.out.cell 1 rfl
  have r2 := HR3.out.cell 2 rfl
  have r3 := HR3.out.cell 3 rfl
  have z := HR3.out.open
  clear HY HN hor
  go_wp2
  exact ret_box (g := w.heap.size + 1) (e := .int .i64 le) rfl rfl rfl rfl (load_node (putC_all (l := [.string ⟨#[]⟩, .string ⟨#[]⟩, .int .u64 0, .int .u64 0]) HR3.out rfl) rfl) ⟨ret_agg HQ.out.symm Hor.out, putC_below [.string ⟨#[]⟩, .string ⟨#[]⟩, .int .u64 0, .int .u64 0] w3 0 HB3.out (by omega)⟩
 have hor : orE le ae = ae := by unfold orE; rw [if_pos h0]
 rw [hor] at HY HN
 have Hor : Hid (orE le ae = ae) := hor
 have q : (le != 0) = false := by simpa using h0
 have c1 := HX3.out.cell 1 rfl
 clear h0 hor
 go_wp2_with fail
 refine (HAd.out w3).mono ?_
 rintro e w4 ⟨rfl, hb4⟩
 have HX4 : Hid (Blk w4 w.heap.size #[.string nm, .string ad, .int .u64 mk, .int .u64 ch] 43) := HX3.out.below hb4
 have HR4 : Hid (Blk w4 (w.heap.size + 1) #[.string ⟨#[]⟩, .string ⟨#[]⟩, .int .u64 0, .int .u64 0] 43) := HR3.out.below hb4
 have HB4 : Hid (Below w.heap.size w w4) := HB3.out.trans (hb4.mono HB3.out.size)
 clear hb4 HX3 HR3 HB3 c1
 have c4 := HX4.out.cell 1 rfl
 have r0 := HR4.out.cell 0 rfl
 have r1 := HR4.out.cell 1 rfl
 have r2 := HR4.out.cell 2 rfl
 have r3 := HR4.out.cell 3 rfl
 have z := HR4.out.open
 by_cases h1 : ae = 0
 ·have HQ : Hid (_ = _) := HY.out h1
  have q2 : (ae != 0) = false := by simpa using h1
  have H0 : Hid (0 = ae) := h1.symm
  clear h1 HY HN
  go_wp2
  exact ret_box (g := w.heap.size + 1) (e := .int .i64 0) rfl rfl rfl rfl (load_node (putC_all (l := [.string (labT nm), .string ad, .int .u64 0, .int .u64 0]) HR4.out rfl) rfl) ⟨ret_agg HQ.out.symm (H0.out.trans Hor.out.symm), putC_below [.string (labT nm), .string ad, .int .u64 0, .int .u64 0] w4 0 HB4.out (by omega)⟩
 ·have HQ : Hid (_ = _) := HN.out h1
  have q2 : (ae != 0) = true := by simpa using h1
  clear HY HN
  go_wp2
  exact ret_box (g := w.heap.size + 1) (e := .int .i64 ae) rfl rfl rfl rfl (load_node (putC_all (l := [.string ⟨#[]⟩, .string ⟨#[]⟩, .int .u64 0, .int .u64 0]) HR4.out rfl) rfl) ⟨ret_agg HQ.out.symm Hor.out.symm, putC_below [.string ⟨#[]⟩, .string ⟨#[]⟩, .int .u64 0, .int .u64 0] w4 0 HB4.out (by omega)⟩
end Go.Proofs.YthgcnmilaifkoaaGreatDoor

/- Layer 9 (records): the document's FixService. -/
namespace Go.Proofs.YthgcnmilaifkoaaGreatDoor
open Go.RowKit
set_option linter.unusedVariables false

theorem svcE_three (s : Sp) : svcE s = orE (threeE s.node s.id s.name) (orE (portE s.port) (tagsE s.tags)) := by
 rw [← three_id, orE_assoc]
 unfold svcE
 simp only [firstE]
 congr 2
 congr 1
 unfold orE
 by_cases h : tagsE s.tags = 0 <;> simp [h]
set_option maxRecDepth 100000 in
set_option maxHeartbeats 4000000 in
theorem refFixService_calls (s : Sp) (ta : Option Addr) (tc : Nat) (w : World) (hs : s.small) (hc : CellsAt w ta (s.tags.map Value.string)) :
  Calls Tryz.prog 27 #[.agg (s.v (.slice ta s.tags.length tc))] w fun e w' => SvcA w (svcF s) (svcE s) e w' := by
 obtain ⟨te, Hte⟩ : ∃ te, Hid (te = threeE s.node s.id s.name) := ⟨_, rfl⟩
 obtain ⟨ge, Hge⟩ : ∃ ge, Hid (ge = tagsE s.tags) := ⟨_, rfl⟩
 have HE : Hid (svcE s = orE te (orE (portE s.port) ge)) := by rw [Hid, Hte.out, Hge.out]; exact svcE_three s
 have HY : Hid (orE te (orE (portE s.port) ge) = 0 → svcF s = ⟨labT s.node, labT s.id, labT s.name, s.port, tagsB s.tags, 0, 0⟩) := fun h => svc_yes (by rw [HE.out]; exact h)
 have HN : Hid (¬ orE te (orE (portE s.port) ge) = 0 → svcF s = svcZ) := fun h => svc_no (by rw [HE.out]; exact h)
 have HT3 : Hid (te = 0 → ∀ x, threeT s.node s.id s.name x = labT x) := fun h x => by
  rw [Hte.out] at h
  unfold threeE at h
  unfold threeT
  split at h
  ·next h1 => rw [if_pos h1]
  ·cases h
 rw [HE.out]
 obtain ⟨hs1, hs2, hs3, hs4, hs5⟩ := hs
 have HC : Hid (CellsAt w ta (s.tags.map Value.string)) := hc
 have HS5 : Hid (∀ x ∈ s.tags, x.size ≤ 140737488351296) := hs5
 clear hc hs5 HE
 obtain ⟨nd, id, nm, po, tg, mk, ch⟩ := s
 simp only [Sp.v] at *
 obtain ⟨tl, Htl⟩ : ∃ tl, Hid (tl = tg.length) := ⟨_, rfl⟩
 have HT : Hid (∀ w, CellsAt w ta (tg.map Value.string) → Calls Tryz.prog 42 #[.slice ta tl tc] w fun e w' => ∃ v, e = .returned (.tuple #[v, .int .i64 ge]) ∧ w'.ownsRow w.heap.size 9 1 v (tagsL tg).length ((tagsL tg).map encS) ∧ Below w.heap.size w w') := fun w h => by rw [Htl.out, Hge.out]; exact refTags_calls ta tc tg w hs4 HS5.out h
 have H3 : Hid (∀ w, Calls Tryz.prog 30 #[.string nd, .string id, .string nm] w fun e w' => e = .returned (.tuple #[.string (threeT nd id nm nd), .string (threeT nd id nm id), .string (threeT nd id nm nm), .int .i64 te]) ∧ Below w.heap.size w w') := fun w => by rw [Hte.out]; exact three_calls nd id nm w hs1 hs2 hs3
 rw [← Htl.out]
 clear Hte Hge
 obtain ⟨w2, Hw2⟩ : ∃ w2, Hid (w2 = (w.alloc (.cells #[.string nd, .string id, .string nm, .int .i64 po, .slice ta tl tc, .int .u64 mk, .int .u64 ch] 41)).alloc (.cells #[.string ⟨#[]⟩, .string ⟨#[]⟩, .string ⟨#[]⟩, .int .i64 0, .slice none 0 0, .int .u64 0, .int .u64 0] 41)) := ⟨_, rfl⟩
 have hz : (w.alloc (.cells #[.string nd, .string id, .string nm, .int .i64 po, .slice ta tl tc, .int .u64 mk, .int .u64 ch] 41)).heap.size = w.heap.size + 1 := size_new _ _
 have HX2 : Hid (Blk w2 w.heap.size #[.string nd, .string id, .string nm, .int .i64 po, .slice ta tl tc, .int .u64 mk, .int .u64 ch] 41) := by rw [Hw2.out]; exact (Blk.new _ _ _).alloc _
 have HR2 : Hid (Blk w2 (w.heap.size + 1) #[.string ⟨#[]⟩, .string ⟨#[]⟩, .string ⟨#[]⟩, .int .i64 0, .slice none 0 0, .int .u64 0, .int .u64 0] 41) := by rw [Hw2.out, ← hz]; exact Blk.new _ _ _
 have HB2 : Hid (Below w.heap.size w w2) := by rw [Hw2.out]; exact (below_new w _).alloc (by rw [hz]; omega) _
 clear hz
 go_enter Tryz.func27, Tryz.ntmps27
 go_wp2_with fail
 rw [← Hw2.out]
 clear Hw2
 refine (H3.out w2).mono ?_
 rintro e w3 ⟨rfl, hb3⟩
 have HX3 : Hid (Blk w3 w.heap.size #[.string nd, .string id, .string nm, .int .i64 po, .slice ta tl tc, .int .u64 mk, .int .u64 ch] 41) := HX2.out.below hb3
 have HR3 : Hid (Blk w3 (w.heap.size + 1) #[.string ⟨#[]⟩, .string ⟨#[]⟩, .string ⟨#[]⟩, .int .i64 0, .slice none 0 0, .int .u64 0, .int .u64 0] 41) := HR2.out.below hb3
 have HB3 : Hid (Below w.heap.size w w3) := HB2.out.trans (hb3.mono HB2.out.size)
 clear hb3 HX2 HR2 HB2 H3
 by_cases h0 : te = 0
 case neg =>
  have hor : orE te (orE (portE po) ge) = te := by unfold orE; rw [if_neg h0]
  rw [hor] at HN
  have HQ : Hid (svcF ⟨nd, id, nm, po, tg, mk, ch⟩ = svcZ) := HN.out h0
  have Hor : Hid (orE te (orE (portE po) ge) = te) := hor
  have q : (te != 0) = true := by simpa using h0
  have r0 := HR3.out.cell 0 rfl
  have r1 := HR3.out.cell 1 rfl
  have r2 := HR3.out.cell 2 rfl
  have r3 := HR3.out.cell 3 rfl
  have r4 := HR3.out.cell 4 rfl
  have r5 := HR3.out.cell 5 rfl
  have r6 := HR3.out.cell 6 rfl
  have z := HR3.out.open
  clear HY HN hor
  go_wp2
  refine ret_box (g := w.heap.size + 1) (e := .int .i64 te) rfl rfl rfl rfl (load_svc (putC_all (l := [.string ⟨#[]⟩, .string ⟨#[]⟩, .string ⟨#[]⟩, .int .i64 0, .slice none 0 0, .int .u64 0, .int .u64 0]) HR3.out rfl) rfl) ⟨.slice none 0 0, ?_, ?_, putC_below [.string ⟨#[]⟩, .string ⟨#[]⟩, .string ⟨#[]⟩, .int .i64 0, .slice none 0 0, .int .u64 0, .int .u64 0] w3 0 HB3.out (by omega)⟩
  ·rw [HQ.out, Hor.out]; rfl
  ·rw [HQ.out]
   exact World.ownsRow_nil _ _ _ _
 have HTT : Hid (∀ x, threeT nd id nm x = labT x) := HT3.out h0
 rw [HTT.out, HTT.out, HTT.out]
 have hor : orE te (orE (portE po) ge) = orE (portE po) ge := by unfold orE; rw [if_pos h0]
 rw [hor] at HY HN
 have Hor1 : Hid (orE te (orE (portE po) ge) = orE (portE po) ge) := hor
 have q : (te != 0) = false := by simpa using h0
 have c3 := HX3.out.cell 3 rfl
 clear h0 hor HT3 HTT
 by_cases hp : po < 1 ∨ 65535 < po
 case pos =>
  have hpe : portE po = 92 := if_pos hp
  have hor : orE (portE po) ge = 92 := by unfold orE; rw [if_neg (by rw [hpe]; decide), hpe]
  rw [hor] at HN
  have HQ : Hid (svcF ⟨nd, id, nm, po, tg, mk, ch⟩ = svcZ) := HN.out (by decide)
  have Hor : Hid (orE te (orE (portE po) ge) = 92) := Hor1.out.trans hor
  have r0 := HR3.out.cell 0 rfl
  have r1 := HR3.out.cell 1 rfl
  have r2 := HR3.out.cell 2 rfl
  have r3 := HR3.out.cell 3 rfl
  have r4 := HR3.out.cell 4 rfl
  have r5 := HR3.out.cell 5 rfl
  have r6 := HR3.out.cell 6 rfl
  have z := HR3.out.open
  clear HY HN hor hpe
  rcases hp with hp | hp
  ·go_wp2
   refine ret_box (g := w.heap.size + 1) (e := .int .i64 92) rfl rfl rfl rfl (load_svc (putC_all (l := [.string ⟨#[]⟩, .string ⟨#[]⟩, .string ⟨#[]⟩, .int .i64 0, .slice none 0 0, .int .u64 0, .int .u64 0]) HR3.out rfl) rfl) ⟨.slice none 0 0, ?_, ?_, putC_below [.string ⟨#[]⟩, .string ⟨#[]⟩, .string ⟨#[]⟩, .int .i64 0, .slice none 0 0, .int .u64 0, .int .u64 0] w3 0 HB3.out (by omega)⟩
   ·rw [HQ.out, Hor.out]; rfl
   ·rw [HQ.out]
    exact World.ownsRow_nil _ _ _ _
  ·have hp' : ¬ po < 1 := by omega
   go_wp2
   refine ret_box (g := w.heap.size + 1) (e := .int .i64 92) rfl rfl rfl rfl (load_svc (putC_all (l := [.string ⟨#[]⟩, .string ⟨#[]⟩, .string ⟨#[]⟩, .int .i64 0, .slice none 0 0, .int .u64 0, .int .u64 0]) HR3.out rfl) rfl) ⟨.slice none 0 0, ?_, ?_, putC_below [.string ⟨#[]⟩, .string ⟨#[]⟩, .string ⟨#[]⟩, .int .i64 0, .slice none 0 0, .int .u64 0, .int .u64 0] w3 0 HB3.out (by omega)⟩
   ·rw [HQ.out, Hor.out]; rfl
   ·rw [HQ.out]
    exact World.ownsRow_nil _ _ _ _
 have hpe : portE po = 0 := if_neg hp
 have hor : orE (portE po) ge = ge := by unfold orE; rw [if_pos hpe]
 rw [hor] at HY HN
 have Hor : Hid (orE te (orE (portE po) ge) = ge) := Hor1.out.trans hor
 have p1 : ¬ po < 1 := by omega
 have p2 : ¬ (65535 < po) := by omega
 have c4 := HX3.out.cell 4 rfl
 clear hp hpe hor
 go_wp2_with fail
 refine (HT.out w3 (HC.out.below HB3.out)).mono ?_
 rintro e w5 ⟨v, rfl, ho5, hb5⟩
 obtain ⟨va, vn, vc, rfl⟩ : ∃ va vn vc, v = .slice va vn vc := by
  rcases ho5.2 with ⟨rfl, _⟩ | ⟨g, cap, cur, rfl, _⟩
  ·exact ⟨_, _, _, rfl⟩
  ·exact ⟨_, _, _, rfl⟩
 have HX5 : Hid (Blk w5 w.heap.size #[.string nd, .string id, .string nm, .int .i64 po, .slice ta tl tc, .int .u64 mk, .int .u64 ch] 41) := HX3.out.below hb5
 have HR5 : Hid (Blk w5 (w.heap.size + 1) #[.string ⟨#[]⟩, .string ⟨#[]⟩, .string ⟨#[]⟩, .int .i64 0, .slice none 0 0, .int .u64 0, .int .u64 0] 41) := HR3.out.below hb5
 have HB5 : Hid (Below w.heap.size w w5) := HB3.out.trans (hb5.mono HB3.out.size)
 have HO5 : Hid (w5.ownsRow w.heap.size 9 1 (.slice va vn vc) (tagsL tg).length ((tagsL tg).map encS)) := row_weak HB3.out.size ho5
 have HTy : Hid (∀ l : List Value, (putC w5 (w.heap.size + 1) 0 l).ownsRow w.heap.size 9 1 (.slice va vn vc) (tagsL tg).length ((tagsL tg).map encS)) := fun l => row_putC HR5.out (by decide) HO5.out l
 have c5 := HX5.out.cell 3 rfl
 have r0 := HR5.out.cell 0 rfl
 have r1 := HR5.out.cell 1 rfl
 have r2 := HR5.out.cell 2 rfl
 have r3 := HR5.out.cell 3 rfl
 have r4 := HR5.out.cell 4 rfl
 have r5 := HR5.out.cell 5 rfl
 have r6 := HR5.out.cell 6 rfl
 have z := HR5.out.open
 clear hb5 ho5 HX3 HR3 HB3 c3 c4 HT HC
 by_cases h1 : ge = 0
 ·have HQ : Hid (svcF ⟨nd, id, nm, po, tg, mk, ch⟩ = ⟨labT nd, labT id, labT nm, po, tagsB tg, 0, 0⟩) := HY.out h1
  have q2 : (ge != 0) = false := by simpa using h1
  have H0 : Hid (0 = ge) := h1.symm
  clear h1 HY HN
  go_wp2
  refine ret_box (g := w.heap.size + 1) (e := .int .i64 0) rfl rfl rfl rfl (load_svc (putC_all (l := [.string (labT nd), .string (labT id), .string (labT nm), .int .i64 po, .slice va vn vc, .int .u64 0, .int .u64 0]) HR5.out rfl) rfl) ⟨.slice va vn vc, ?_, ?_, putC_below [.string (labT nd), .string (labT id), .string (labT nm), .int .i64 po, .slice va vn vc, .int .u64 0, .int .u64 0] w5 0 HB5.out (by omega)⟩
  ·rw [HQ.out, Hor.out, ← H0.out]; rfl
  ·rw [HQ.out]
   show World.ownsRow _ _ _ _ _ (tagsB tg).length ((tagsB tg).map Value.string)
   rw [tagsB_len, tagsB_map]
   exact HTy.out [.string (labT nd), .string (labT id), .string (labT nm), .int .i64 po, .slice va vn vc, .int .u64 0, .int .u64 0]
 ·have HQ : Hid (svcF ⟨nd, id, nm, po, tg, mk, ch⟩ = svcZ) := HN.out h1
  have q2 : (ge != 0) = true := by simpa using h1
  clear HY HN
  go_wp2
  refine ret_box (g := w.heap.size + 1) (e := .int .i64 ge) rfl rfl rfl rfl (load_svc (putC_all (l := [.string ⟨#[]⟩, .string ⟨#[]⟩, .string ⟨#[]⟩, .int .i64 0, .slice none 0 0, .int .u64 0, .int .u64 0]) HR5.out rfl) rfl) ⟨.slice none 0 0, ?_, ?_, putC_below [.string ⟨#[]⟩, .string ⟨#[]⟩, .string ⟨#[]⟩, .int .i64 0, .slice none 0 0, .int .u64 0, .int .u64 0] w5 0 HB5.out (by omega)⟩
  ·rw [HQ.out, Hor.out]; rfl
  ·rw [HQ.out]
   exact World.ownsRow_nil _ _ _ _
end Go.Proofs.YthgcnmilaifkoaaGreatDoor
