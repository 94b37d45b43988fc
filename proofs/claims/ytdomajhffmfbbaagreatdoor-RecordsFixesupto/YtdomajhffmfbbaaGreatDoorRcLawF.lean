/- Layer 9 (records): RecordsFixes, the walk. -/
import Derived.Test.YtdomajhffmfbbaaGreatDoorRcFixed
import Derived.Test.YtdomajhffmfbbaaGreatDoorRcRefS
import Derived.Test.YtdomajhffmfbbaaGreatDoorRcRefC
import Derived.Test.YtdomajhffmfbbaaGreatDoorRcCopyS
namespace Go.Proofs.YtdomajhffmfbbaaGreatDoor
open Go.RowKit
set_option linter.unusedVariables false

theorem row_store {w : World} {B g n cap k : Nat} {e : TypeId} {l : List Value} (h : w.ownsRow B e 1 (.slice (some ⟨g, 0, none⟩) n cap) n l) (hk : k < n) (u : Value) : (w.setCell ⟨g, k, none⟩ u).ownsRow B e 1 (.slice (some ⟨g, 0, none⟩) n cap) n (l.set k u) := by
  refine ⟨by rw [List.length_set]; exact h.1, ?_⟩
  rcases h.2 with ⟨he, h0⟩ | ⟨g', cap', cur, he, hb, hg, h1, h2, h3, h4⟩
  · cases he
  · simp only [Value.slice.injEq, Option.some.injEq, Addr.mk.injEq] at he
    obtain ⟨⟨rfl, _⟩, _, rfl⟩ := he
    refine .inr ⟨g, cap, cur.setIfInBounds k u, rfl, hb, Lib.heap_setCell_same hg u, h1, h2, by rw [Array.size_setIfInBounds]; exact h3, ?_⟩
    rw [Array.toList_setIfInBounds, List.take_set, h4]
theorem row_at {w : World} {B g n cap k : Nat} {e : TypeId} {l : List Value} (h : w.ownsRow B e 1 (.slice (some ⟨g, 0, none⟩) n cap) n l) (hk : k < n) : (∃ v, w.cell? ⟨g, k, none⟩ = some v) ∧ w.frozen? ⟨g, k, none⟩ = false := by
  rcases h.2 with ⟨he, h0⟩ | ⟨g', cap', cur, he, hb, hg, h1, h2, h3, h4⟩
  · cases he
  · simp only [Value.slice.injEq, Option.some.injEq, Addr.mk.injEq] at he
    obtain ⟨⟨rfl, _⟩, _, rfl⟩ := he
    exact ⟨⟨cur[k]'(by omega), by simp [World.cell?, hg, show k < cur.size by omega]⟩, by simp [World.frozen?, hg]⟩
theorem row_blk {w : World} {B g n cap : Nat} {e : TypeId} {l : List Value} (h : w.ownsRow B e 1 (.slice (some ⟨g, 0, none⟩) n cap) n l) : B ≤ g ∧ ∃ cur, Blk w g cur e := by
  rcases h.2 with ⟨he, h0⟩ | ⟨g', cap', cur, he, hb, hg, _⟩
  · cases he
  · simp only [Value.slice.injEq, Option.some.injEq, Addr.mk.injEq] at he
    obtain ⟨⟨rfl, _⟩, _, rfl⟩ := he
    exact ⟨hb, cur, hg⟩
theorem Blk.ne {w : World} {a b : Nat} {cs ds : Array Value} {T U : TypeId} (h : Blk w a cs T) (k : Blk w b ds U) (hT : T ≠ U) : a ≠ b := fun e => by
  subst e
  have h' : w.heap[a]? = some (.cells cs T) := h
  have k' : w.heap[a]? = some (.cells ds U) := k
  rw [h'] at k'
  injection k' with k'
  injection k' with _ k'
  exact hT k'
theorem Blk.put {w : World} {b : Nat} {cs : Array Value} {T : TypeId} (h : Blk w b cs T) {a : Addr} (hne : b ≠ a.block) (u : Value) : Blk (w.setCell a u) b cs T := by
  show (w.setCell a u).heap[b]? = _
  rw [heap_setCell_other _ _ _ _ hne]
  exact h
theorem Blk.set {w : World} {b i : Nat} {cs : Array Value} {T : TypeId} (h : Blk w b cs T) (u : Value) : Blk (w.setCell ⟨b, i, none⟩ u) b (cs.setIfInBounds i u) T := Lib.heap_setCell_same h u

theorem svcF_len (s : Sp) : (svcF s).tags.length ≤ 1048576 := by
  by_cases h : svcE s = 0
  · rw [svc_yes h]
    show (tagsB s.tags).length ≤ _
    rw [tagsB_len]
    have h1 := (svc_parts h).2.2.2
    by_cases hk : tagsOk s.tags
    · rw [(tags_yes hk).2]
      refine Nat.le_trans (compact_le _) ?_
      rw [List.length_mergeSort, List.length_map]
      have := hk.1
      omega
    · rw [(tags_no hk).1] at h1
      cases h1
  · rw [svc_no h]
    decide
theorem three_box (w : World) (o1 o2 o3 : Obj) : (((w.alloc o1).alloc o2).alloc o3).heap[w.heap.size]? = some o1 ∧ (((w.alloc o1).alloc o2).alloc o3).heap[w.heap.size + 1]? = some o2 ∧ (((w.alloc o1).alloc o2).alloc o3).heap[w.heap.size + 1 + 1]? = some o3 ∧
    Below w.heap.size w (((w.alloc o1).alloc o2).alloc o3) := ⟨(three_alloc w o1 o2 o3).1, (three_alloc w o1 o2 o3).2.1, (three_alloc w o1 o2 o3).2.2.1, (three_alloc w o1 o2 o3).2.2.2.1⟩

set_option maxRecDepth 100000 in
set_option maxHeartbeats 8000000 in
theorem recordsFixes_calls (n : Nd) (s : Sp) (c : Ck) (ta : Option Addr) (tc : Nat) (w : World) (hv : Vs w) (hn1 : n.name.size ≤ 1048576) (hn2 : n.addr.size ≤ 1048576) (hs : s.small) (hsl : s.tags.length ≤ 1048576) (hc : c.small) (ht : CellsAt w ta (s.tags.map Value.string)) :
    Calls Tryz.prog 3 #[.agg n.v, .agg (s.v (.slice ta s.tags.length tc)), .agg c.v] w fun e w' => e = .returned (.bool true) ∧ Below w.heap.size w w' := by
  have HV : Hid (Vs w) := hv
  have HT : Hid (CellsAt w ta (s.tags.map Value.string)) := ht
  obtain ⟨ne, Hne⟩ : ∃ x, Hid (x = nodeE n) := ⟨_, rfl⟩
  obtain ⟨se, Hse⟩ : ∃ x, Hid (x = svcE s) := ⟨_, rfl⟩
  obtain ⟨ke, Hke⟩ : ∃ x, Hid (x = chkE c) := ⟨_, rfl⟩
  obtain ⟨fn, Hfn⟩ : ∃ x, Hid (x = fixN n) := ⟨_, rfl⟩
  obtain ⟨fs, Hfs⟩ : ∃ x, Hid (x = svcF s) := ⟨_, rfl⟩
  obtain ⟨fc, Hfc⟩ : ∃ x, Hid (x = chkF c) := ⟨_, rfl⟩
  have HfsL : Hid (fs.tags.length ≤ 1048576) := by rw [Hid, Hfs.out]; exact svcF_len s
  have C1 : Hid (∀ w, Calls Tryz.prog 7 #[.agg n.v] w fun e w' => e = .returned (.tuple #[.agg fn.v, .int .i64 ne]) ∧ Below w.heap.size w w') := fun w => by rw [Hfn.out, Hne.out]; exact refFixNode_calls n w (by omega) hn2
  have C2 : Hid (∀ w, Vs w → Calls Tryz.prog 10 #[.agg n.v] w fun e w' => e = .returned (.tuple #[.agg fn.v, .int .i64 ne]) ∧ Below w.heap.size w w') := fun w h => by rw [Hfn.out, Hne.out]; exact fixNode_calls n w (by omega) (by omega) h
  have C3 : Hid (∀ ta tc w, CellsAt w ta (s.tags.map Value.string) → Calls Tryz.prog 8 #[.agg (s.v (.slice ta s.tags.length tc))] w fun e w' => SvcA w fs se e w') := fun ta tc w h => by rw [Hfs.out, Hse.out]; exact refFixService_calls s ta tc w hs h
  have C4 : Hid (∀ ta tc w, CellsAt w ta (s.tags.map Value.string) → Calls Tryz.prog 11 #[.agg (s.v (.slice ta s.tags.length tc))] w fun e w' => SvcA w fs se e w') := fun ta tc w h => by rw [Hfs.out, Hse.out]; exact fixService_calls s ta tc w hs h
  have C5 : Hid (∀ w, Calls Tryz.prog 9 #[.agg c.v] w fun e w' => e = .returned (.tuple #[.agg fc.v, .int .i64 ke]) ∧ Below w.heap.size w w') := fun w => by rw [Hfc.out, Hke.out]; exact refFixCheck_calls c w hc
  have C6 : Hid (∀ w, Calls Tryz.prog 13 #[.agg c.v] w fun e w' => e = .returned (.tuple #[.agg fc.v, .int .i64 ke]) ∧ Below w.heap.size w w') := fun w => by rw [Hfc.out, Hke.out]; exact fixCheck_calls c w hc
  have C7 : Hid (∀ ta tc w, CellsAt w ta (s.tags.map Value.string) → Calls Tryz.prog 6 #[.agg (s.v (.slice ta s.tags.length tc))] w fun e w' => CopA w s e w') := fun ta tc w h => copyService_calls s ta tc w (by omega) h
  have C8 : Hid (∀ a b ac bc w, CellsAt w a (s.tags.map Value.string) → CellsAt w b (s.tags.map Value.string) → Calls Tryz.prog 12 #[.agg (s.v (.slice a s.tags.length ac)), .agg (s.v (.slice b s.tags.length bc))] w fun e w' => e = .returned (.bool true) ∧ Below w.heap.size w w') := fun a b ac bc w h1 h2 => sameService_calls s a b ac bc w (by omega) h1 h2
  have C9 : Hid (∀ a b ac bc w, CellsAt w a (fs.tags.map Value.string) → CellsAt w b (fs.tags.map Value.string) → Calls Tryz.prog 12 #[.agg (fs.v (.slice a fs.tags.length ac)), .agg (fs.v (.slice b fs.tags.length bc))] w fun e w' => e = .returned (.bool true) ∧ Below w.heap.size w w') := fun a b ac bc w h1 h2 => sameService_calls fs a b ac bc w (by have := HfsL.out; omega) h1 h2
  clear Hne Hse Hke Hfn Hfs Hfc hs hc hv ht hn1 hn2 hsl
  obtain ⟨nn, na, n3, n4⟩ := n
  obtain ⟨sn, si, sm, sp, tg, s6, s7⟩ := s
  obtain ⟨cn, ci, cs, ct, ce, c6, c7⟩ := c
  obtain ⟨g1, g2, g3, g4⟩ := fn
  obtain ⟨f1, f2, f3, f4, ft, f6, f7⟩ := fs
  obtain ⟨h1, h2, h3, h4, h5, h6, h7⟩ := fc
  simp only [Nd.v, Sp.v, Ck.v, SvcA, CopA] at *
  obtain ⟨tl, Htl⟩ : ∃ x, Hid (x = tg.length) := ⟨_, rfl⟩
  obtain ⟨fl, Hfl⟩ : ∃ x, Hid (x = ft.length) := ⟨_, rfl⟩
  obtain ⟨TL, HTL⟩ : ∃ x, Hid (x = tg.map Value.string) := ⟨_, rfl⟩
  obtain ⟨FL, HFL⟩ : ∃ x, Hid (x = ft.map Value.string) := ⟨_, rfl⟩
  rw [← Htl.out] at C3 C4 C7 C8 ⊢
  rw [← Hfl.out] at C3 C4 C9 HfsL
  rw [← HTL.out] at C3 C4 C7 C8 HT
  rw [← HFL.out] at C3 C4 C9
  clear Htl Hfl HTL HFL
  have hfl : fl ≤ 1048576 := HfsL.out
  obtain ⟨b1, b2, b3, b4⟩ := three_box w (.cells #[.string nn, .string na, .int .u64 n3, .int .u64 n4] 24) (.cells #[.string sn, .string si, .string sm, .int .i64 sp, .slice ta tl tc, .int .u64 s6, .int .u64 s7] 27) (.cells #[.string cn, .string ci, .string cs, .int .i64 ct, .string ce, .int .u64 c6, .int .u64 c7] 29)
  obtain ⟨wx, Hwx⟩ : ∃ x, Hid (x = ((w.alloc (.cells #[.string nn, .string na, .int .u64 n3, .int .u64 n4] 24)).alloc (.cells #[.string sn, .string si, .string sm, .int .i64 sp, .slice ta tl tc, .int .u64 s6, .int .u64 s7] 27)).alloc (.cells #[.string cn, .string ci, .string cs, .int .i64 ct, .string ce, .int .u64 c6, .int .u64 c7] 29)) := ⟨_, rfl⟩
  have KN_wx : Hid (Blk wx w.heap.size #[.string nn, .string na, .int .u64 n3, .int .u64 n4] 24) := by rw [Hwx.out]; exact b1
  have KS_wx : Hid (Blk wx (w.heap.size + 1) #[.string sn, .string si, .string sm, .int .i64 sp, .slice ta tl tc, .int .u64 s6, .int .u64 s7] 27) := by rw [Hwx.out]; exact b2
  have KC_wx : Hid (Blk wx (w.heap.size + 1 + 1) #[.string cn, .string ci, .string cs, .int .i64 ct, .string ce, .int .u64 c6, .int .u64 c7] 29) := by rw [Hwx.out]; exact b3
  have B_wx : Hid (Below w.heap.size w wx) := by rw [Hwx.out]; exact b4
  clear b1 b2 b3 b4
  go_enter Tryz.func3, Tryz.ntmps3
  go_wp2_with fail
  rw [← Hwx.out]
  clear Hwx
  refine (recordsFixed_calls wx (HV.out.stay B_wx.out)).mono ?_
  rintro e w1 ⟨rfl, hb⟩
  have KN_w1 : Hid (Blk w1 w.heap.size #[.string nn, .string na, .int .u64 n3, .int .u64 n4] 24) := KN_wx.out.below hb
  have KS_w1 : Hid (Blk w1 (w.heap.size + 1) #[.string sn, .string si, .string sm, .int .i64 sp, .slice ta tl tc, .int .u64 s6, .int .u64 s7] 27) := KS_wx.out.below hb
  have KC_w1 : Hid (Blk w1 (w.heap.size + 1 + 1) #[.string cn, .string ci, .string cs, .int .i64 ct, .string ce, .int .u64 c6, .int .u64 c7] 29) := KC_wx.out.below hb
  have B_w1 : Hid (Below w.heap.size w w1) := B_wx.out.trans (hb.mono B_wx.out.size)
  clear KN_wx KS_wx KC_wx
  clear hb B_wx
  have s_0 := KS_w1.out.cell 0 rfl
  have s_1 := KS_w1.out.cell 1 rfl
  have s_2 := KS_w1.out.cell 2 rfl
  have s_3 := KS_w1.out.cell 3 rfl
  have s_4 := KS_w1.out.cell 4 rfl
  have s_5 := KS_w1.out.cell 5 rfl
  have s_6 := KS_w1.out.cell 6 rfl
  go_wp2_with fail
  refine (C7.out ta tc w1 (HT.out.below B_w1.out)).mono ?_
  rintro e w2 ⟨v, rfl, ho, hb⟩
  obtain ⟨oa, oc, rfl, -⟩ := row_forms ho
  have KN_w2 : Hid (Blk w2 w.heap.size #[.string nn, .string na, .int .u64 n3, .int .u64 n4] 24) := KN_w1.out.below hb
  have KS_w2 : Hid (Blk w2 (w.heap.size + 1) #[.string sn, .string si, .string sm, .int .i64 sp, .slice ta tl tc, .int .u64 s6, .int .u64 s7] 27) := KS_w1.out.below hb
  have KC_w2 : Hid (Blk w2 (w.heap.size + 1 + 1) #[.string cn, .string ci, .string cs, .int .i64 ct, .string ce, .int .u64 c6, .int .u64 c7] 29) := KC_w1.out.below hb
  have B_w2 : Hid (Below w.heap.size w w2) := B_w1.out.trans (hb.mono B_w1.out.size)
  have RO_w2 : Hid (CellsAt w2 oa TL) := row_cells ho
  clear KN_w1 KS_w1 KC_w1
  clear hb B_w1 ho s_0 s_1 s_2 s_3 s_4 s_5 s_6
  have n_0 := KN_w2.out.cell 0 rfl
  have n_1 := KN_w2.out.cell 1 rfl
  have n_2 := KN_w2.out.cell 2 rfl
  have n_3 := KN_w2.out.cell 3 rfl
  have m_0 := (KN_w2.out.alloc (.cells #[.string sn, .string si, .string sm, .int .i64 sp, .slice oa tl oc, .int .u64 s6, .int .u64 s7] 27)).cell 0 rfl
  have m_1 := (KN_w2.out.alloc (.cells #[.string sn, .string si, .string sm, .int .i64 sp, .slice oa tl oc, .int .u64 s6, .int .u64 s7] 27)).cell 1 rfl
  have m_2 := (KN_w2.out.alloc (.cells #[.string sn, .string si, .string sm, .int .i64 sp, .slice oa tl oc, .int .u64 s6, .int .u64 s7] 27)).cell 2 rfl
  have m_3 := (KN_w2.out.alloc (.cells #[.string sn, .string si, .string sm, .int .i64 sp, .slice oa tl oc, .int .u64 s6, .int .u64 s7] 27)).cell 3 rfl
  go_wp2_with fail
  obtain ⟨w2o, Hw2o⟩ : ∃ x, Hid (x = w2.alloc (.cells #[.string sn, .string si, .string sm, .int .i64 sp, .slice oa tl oc, .int .u64 s6, .int .u64 s7] 27)) := ⟨_, rfl⟩
  have hbw2o : Below w2.heap.size w2 w2o := by rw [Hw2o.out]; exact below_new _ _
  have KO_w2o : Hid (Blk w2o w2.heap.size #[.string sn, .string si, .string sm, .int .i64 sp, .slice oa tl oc, .int .u64 s6, .int .u64 s7] 27) := by rw [Hw2o.out]; exact Blk.new _ _ _
  have KN_w2o : Hid (Blk w2o w.heap.size #[.string nn, .string na, .int .u64 n3, .int .u64 n4] 24) := KN_w2.out.below hbw2o
  have KS_w2o : Hid (Blk w2o (w.heap.size + 1) #[.string sn, .string si, .string sm, .int .i64 sp, .slice ta tl tc, .int .u64 s6, .int .u64 s7] 27) := KS_w2.out.below hbw2o
  have KC_w2o : Hid (Blk w2o (w.heap.size + 1 + 1) #[.string cn, .string ci, .string cs, .int .i64 ct, .string ce, .int .u64 c6, .int .u64 c7] 29) := KC_w2.out.below hbw2o
  have B_w2o : Hid (Below w.heap.size w w2o) := B_w2.out.trans (hbw2o.mono B_w2.out.size)
  have RO_w2o : Hid (CellsAt w2o oa TL) := RO_w2.out.below hbw2o
  rw [← Hw2o.out]
  clear Hw2o hbw2o B_w2 KN_w2 KS_w2 KC_w2 RO_w2
  refine (C1.out w2o).mono ?_
  rintro e w3 ⟨rfl, hb⟩
  have KN_w3 : Hid (Blk w3 w.heap.size #[.string nn, .string na, .int .u64 n3, .int .u64 n4] 24) := KN_w2o.out.below hb
  have KS_w3 : Hid (Blk w3 (w.heap.size + 1) #[.string sn, .string si, .string sm, .int .i64 sp, .slice ta tl tc, .int .u64 s6, .int .u64 s7] 27) := KS_w2o.out.below hb
  have KC_w3 : Hid (Blk w3 (w.heap.size + 1 + 1) #[.string cn, .string ci, .string cs, .int .i64 ct, .string ce, .int .u64 c6, .int .u64 c7] 29) := KC_w2o.out.below hb
  have KO_w3 : Hid (Blk w3 w2.heap.size #[.string sn, .string si, .string sm, .int .i64 sp, .slice oa tl oc, .int .u64 s6, .int .u64 s7] 27) := KO_w2o.out.below hb
  have RO_w3 : Hid (CellsAt w3 oa TL) := RO_w2o.out.below hb
  have B_w3 : Hid (Below w.heap.size w w3) := B_w2o.out.trans (hb.mono B_w2o.out.size)
  clear KN_w2o KS_w2o KC_w2o KO_w2o RO_w2o B_w2o
  clear hb n_0 m_0 n_1 m_1 n_2 m_2 n_3 m_3
  have m_0 := (KS_w3.out.alloc (.cells #[.string g1, .string g2, .int .u64 g3, .int .u64 g4] 24)).cell 0 rfl
  have m_1 := (KS_w3.out.alloc (.cells #[.string g1, .string g2, .int .u64 g3, .int .u64 g4] 24)).cell 1 rfl
  have m_2 := (KS_w3.out.alloc (.cells #[.string g1, .string g2, .int .u64 g3, .int .u64 g4] 24)).cell 2 rfl
  have m_3 := (KS_w3.out.alloc (.cells #[.string g1, .string g2, .int .u64 g3, .int .u64 g4] 24)).cell 3 rfl
  have m_4 := (KS_w3.out.alloc (.cells #[.string g1, .string g2, .int .u64 g3, .int .u64 g4] 24)).cell 4 rfl
  have m_5 := (KS_w3.out.alloc (.cells #[.string g1, .string g2, .int .u64 g3, .int .u64 g4] 24)).cell 5 rfl
  have m_6 := (KS_w3.out.alloc (.cells #[.string g1, .string g2, .int .u64 g3, .int .u64 g4] 24)).cell 6 rfl
  go_wp2_with fail
  obtain ⟨w3o, Hw3o⟩ : ∃ x, Hid (x = w3.alloc (.cells #[.string g1, .string g2, .int .u64 g3, .int .u64 g4] 24)) := ⟨_, rfl⟩
  have hbw3o : Below w3.heap.size w3 w3o := by rw [Hw3o.out]; exact below_new _ _
  have KWN_w3o : Hid (Blk w3o w3.heap.size #[.string g1, .string g2, .int .u64 g3, .int .u64 g4] 24) := by rw [Hw3o.out]; exact Blk.new _ _ _
  have KN_w3o : Hid (Blk w3o w.heap.size #[.string nn, .string na, .int .u64 n3, .int .u64 n4] 24) := KN_w3.out.below hbw3o
  have KS_w3o : Hid (Blk w3o (w.heap.size + 1) #[.string sn, .string si, .string sm, .int .i64 sp, .slice ta tl tc, .int .u64 s6, .int .u64 s7] 27) := KS_w3.out.below hbw3o
  have KC_w3o : Hid (Blk w3o (w.heap.size + 1 + 1) #[.string cn, .string ci, .string cs, .int .i64 ct, .string ce, .int .u64 c6, .int .u64 c7] 29) := KC_w3.out.below hbw3o
  have KO_w3o : Hid (Blk w3o w2.heap.size #[.string sn, .string si, .string sm, .int .i64 sp, .slice oa tl oc, .int .u64 s6, .int .u64 s7] 27) := KO_w3.out.below hbw3o
  have B_w3o : Hid (Below w.heap.size w w3o) := B_w3.out.trans (hbw3o.mono B_w3.out.size)
  have RO_w3o : Hid (CellsAt w3o oa TL) := RO_w3.out.below hbw3o
  rw [← Hw3o.out]
  clear Hw3o hbw3o B_w3 KN_w3 KS_w3 KC_w3 KO_w3 RO_w3
  refine (C3.out ta tc w3o (HT.out.below B_w3o.out)).mono ?_
  rintro e w4 ⟨v, rfl, ho, hb⟩
  obtain ⟨wa, wc, rfl, -⟩ := row_forms ho
  have RW_w4 : Hid (CellsAt w4 wa FL) := row_cells ho
  have KN_w4 : Hid (Blk w4 w.heap.size #[.string nn, .string na, .int .u64 n3, .int .u64 n4] 24) := KN_w3o.out.below hb
  have KS_w4 : Hid (Blk w4 (w.heap.size + 1) #[.string sn, .string si, .string sm, .int .i64 sp, .slice ta tl tc, .int .u64 s6, .int .u64 s7] 27) := KS_w3o.out.below hb
  have KC_w4 : Hid (Blk w4 (w.heap.size + 1 + 1) #[.string cn, .string ci, .string cs, .int .i64 ct, .string ce, .int .u64 c6, .int .u64 c7] 29) := KC_w3o.out.below hb
  have KO_w4 : Hid (Blk w4 w2.heap.size #[.string sn, .string si, .string sm, .int .i64 sp, .slice oa tl oc, .int .u64 s6, .int .u64 s7] 27) := KO_w3o.out.below hb
  have KWN_w4 : Hid (Blk w4 w3.heap.size #[.string g1, .string g2, .int .u64 g3, .int .u64 g4] 24) := KWN_w3o.out.below hb
  have RO_w4 : Hid (CellsAt w4 oa TL) := RO_w3o.out.below hb
  have B_w4 : Hid (Below w.heap.size w w4) := B_w3o.out.trans (hb.mono B_w3o.out.size)
  clear KN_w3o KS_w3o KC_w3o KO_w3o KWN_w3o RO_w3o B_w3o
  clear hb ho m_0 m_1 m_2 m_3 m_4 m_5 m_6
  have m_0 := (KC_w4.out.alloc (.cells #[.string f1, .string f2, .string f3, .int .i64 f4, .slice wa fl wc, .int .u64 f6, .int .u64 f7] 27)).cell 0 rfl
  have m_1 := (KC_w4.out.alloc (.cells #[.string f1, .string f2, .string f3, .int .i64 f4, .slice wa fl wc, .int .u64 f6, .int .u64 f7] 27)).cell 1 rfl
  have m_2 := (KC_w4.out.alloc (.cells #[.string f1, .string f2, .string f3, .int .i64 f4, .slice wa fl wc, .int .u64 f6, .int .u64 f7] 27)).cell 2 rfl
  have m_3 := (KC_w4.out.alloc (.cells #[.string f1, .string f2, .string f3, .int .i64 f4, .slice wa fl wc, .int .u64 f6, .int .u64 f7] 27)).cell 3 rfl
  have m_4 := (KC_w4.out.alloc (.cells #[.string f1, .string f2, .string f3, .int .i64 f4, .slice wa fl wc, .int .u64 f6, .int .u64 f7] 27)).cell 4 rfl
  have m_5 := (KC_w4.out.alloc (.cells #[.string f1, .string f2, .string f3, .int .i64 f4, .slice wa fl wc, .int .u64 f6, .int .u64 f7] 27)).cell 5 rfl
  have m_6 := (KC_w4.out.alloc (.cells #[.string f1, .string f2, .string f3, .int .i64 f4, .slice wa fl wc, .int .u64 f6, .int .u64 f7] 27)).cell 6 rfl
  go_wp2_with fail
  obtain ⟨w4o, Hw4o⟩ : ∃ x, Hid (x = w4.alloc (.cells #[.string f1, .string f2, .string f3, .int .i64 f4, .slice wa fl wc, .int .u64 f6, .int .u64 f7] 27)) := ⟨_, rfl⟩
  have hbw4o : Below w4.heap.size w4 w4o := by rw [Hw4o.out]; exact below_new _ _
  have KWS_w4o : Hid (Blk w4o w4.heap.size #[.string f1, .string f2, .string f3, .int .i64 f4, .slice wa fl wc, .int .u64 f6, .int .u64 f7] 27) := by rw [Hw4o.out]; exact Blk.new _ _ _
  have KN_w4o : Hid (Blk w4o w.heap.size #[.string nn, .string na, .int .u64 n3, .int .u64 n4] 24) := KN_w4.out.below hbw4o
  have KS_w4o : Hid (Blk w4o (w.heap.size + 1) #[.string sn, .string si, .string sm, .int .i64 sp, .slice ta tl tc, .int .u64 s6, .int .u64 s7] 27) := KS_w4.out.below hbw4o
  have KC_w4o : Hid (Blk w4o (w.heap.size + 1 + 1) #[.string cn, .string ci, .string cs, .int .i64 ct, .string ce, .int .u64 c6, .int .u64 c7] 29) := KC_w4.out.below hbw4o
  have KO_w4o : Hid (Blk w4o w2.heap.size #[.string sn, .string si, .string sm, .int .i64 sp, .slice oa tl oc, .int .u64 s6, .int .u64 s7] 27) := KO_w4.out.below hbw4o
  have KWN_w4o : Hid (Blk w4o w3.heap.size #[.string g1, .string g2, .int .u64 g3, .int .u64 g4] 24) := KWN_w4.out.below hbw4o
  have B_w4o : Hid (Below w.heap.size w w4o) := B_w4.out.trans (hbw4o.mono B_w4.out.size)
  have RO_w4o : Hid (CellsAt w4o oa TL) := RO_w4.out.below hbw4o
  have RW_w4o : Hid (CellsAt w4o wa FL) := RW_w4.out.below hbw4o
  rw [← Hw4o.out]
  clear Hw4o hbw4o B_w4 KN_w4 KS_w4 KC_w4 KO_w4 KWN_w4 RO_w4 RW_w4
  refine (C5.out w4o).mono ?_
  rintro e w5 ⟨rfl, hb⟩
  have KN_w5 : Hid (Blk w5 w.heap.size #[.string nn, .string na, .int .u64 n3, .int .u64 n4] 24) := KN_w4o.out.below hb
  have KS_w5 : Hid (Blk w5 (w.heap.size + 1) #[.string sn, .string si, .string sm, .int .i64 sp, .slice ta tl tc, .int .u64 s6, .int .u64 s7] 27) := KS_w4o.out.below hb
  have KC_w5 : Hid (Blk w5 (w.heap.size + 1 + 1) #[.string cn, .string ci, .string cs, .int .i64 ct, .string ce, .int .u64 c6, .int .u64 c7] 29) := KC_w4o.out.below hb
  have KO_w5 : Hid (Blk w5 w2.heap.size #[.string sn, .string si, .string sm, .int .i64 sp, .slice oa tl oc, .int .u64 s6, .int .u64 s7] 27) := KO_w4o.out.below hb
  have KWN_w5 : Hid (Blk w5 w3.heap.size #[.string g1, .string g2, .int .u64 g3, .int .u64 g4] 24) := KWN_w4o.out.below hb
  have KWS_w5 : Hid (Blk w5 w4.heap.size #[.string f1, .string f2, .string f3, .int .i64 f4, .slice wa fl wc, .int .u64 f6, .int .u64 f7] 27) := KWS_w4o.out.below hb
  have RO_w5 : Hid (CellsAt w5 oa TL) := RO_w4o.out.below hb
  have RW_w5 : Hid (CellsAt w5 wa FL) := RW_w4o.out.below hb
  have B_w5 : Hid (Below w.heap.size w w5) := B_w4o.out.trans (hb.mono B_w4o.out.size)
  clear KN_w4o KS_w4o KC_w4o KO_w4o KWN_w4o KWS_w4o RO_w4o RW_w4o B_w4o
  clear hb m_0 m_1 m_2 m_3 m_4 m_5 m_6
  have m_0 := (KN_w5.out.alloc (.cells #[.string h1, .string h2, .string h3, .int .i64 h4, .string h5, .int .u64 h6, .int .u64 h7] 29)).cell 0 rfl
  have m_1 := (KN_w5.out.alloc (.cells #[.string h1, .string h2, .string h3, .int .i64 h4, .string h5, .int .u64 h6, .int .u64 h7] 29)).cell 1 rfl
  have m_2 := (KN_w5.out.alloc (.cells #[.string h1, .string h2, .string h3, .int .i64 h4, .string h5, .int .u64 h6, .int .u64 h7] 29)).cell 2 rfl
  have m_3 := (KN_w5.out.alloc (.cells #[.string h1, .string h2, .string h3, .int .i64 h4, .string h5, .int .u64 h6, .int .u64 h7] 29)).cell 3 rfl
  go_wp2_with fail
  obtain ⟨w5o, Hw5o⟩ : ∃ x, Hid (x = w5.alloc (.cells #[.string h1, .string h2, .string h3, .int .i64 h4, .string h5, .int .u64 h6, .int .u64 h7] 29)) := ⟨_, rfl⟩
  have hbw5o : Below w5.heap.size w5 w5o := by rw [Hw5o.out]; exact below_new _ _
  have KWC_w5o : Hid (Blk w5o w5.heap.size #[.string h1, .string h2, .string h3, .int .i64 h4, .string h5, .int .u64 h6, .int .u64 h7] 29) := by rw [Hw5o.out]; exact Blk.new _ _ _
  have KN_w5o : Hid (Blk w5o w.heap.size #[.string nn, .string na, .int .u64 n3, .int .u64 n4] 24) := KN_w5.out.below hbw5o
  have KS_w5o : Hid (Blk w5o (w.heap.size + 1) #[.string sn, .string si, .string sm, .int .i64 sp, .slice ta tl tc, .int .u64 s6, .int .u64 s7] 27) := KS_w5.out.below hbw5o
  have KC_w5o : Hid (Blk w5o (w.heap.size + 1 + 1) #[.string cn, .string ci, .string cs, .int .i64 ct, .string ce, .int .u64 c6, .int .u64 c7] 29) := KC_w5.out.below hbw5o
  have KO_w5o : Hid (Blk w5o w2.heap.size #[.string sn, .string si, .string sm, .int .i64 sp, .slice oa tl oc, .int .u64 s6, .int .u64 s7] 27) := KO_w5.out.below hbw5o
  have KWN_w5o : Hid (Blk w5o w3.heap.size #[.string g1, .string g2, .int .u64 g3, .int .u64 g4] 24) := KWN_w5.out.below hbw5o
  have KWS_w5o : Hid (Blk w5o w4.heap.size #[.string f1, .string f2, .string f3, .int .i64 f4, .slice wa fl wc, .int .u64 f6, .int .u64 f7] 27) := KWS_w5.out.below hbw5o
  have B_w5o : Hid (Below w.heap.size w w5o) := B_w5.out.trans (hbw5o.mono B_w5.out.size)
  have RO_w5o : Hid (CellsAt w5o oa TL) := RO_w5.out.below hbw5o
  have RW_w5o : Hid (CellsAt w5o wa FL) := RW_w5.out.below hbw5o
  rw [← Hw5o.out]
  clear Hw5o hbw5o B_w5 KN_w5 KS_w5 KC_w5 KO_w5 KWN_w5 KWS_w5 RO_w5 RW_w5
  refine (C2.out w5o (HV.out.stay B_w5o.out)).mono ?_
  rintro e w6 ⟨rfl, hb⟩
  have KN_w6 : Hid (Blk w6 w.heap.size #[.string nn, .string na, .int .u64 n3, .int .u64 n4] 24) := KN_w5o.out.below hb
  have KS_w6 : Hid (Blk w6 (w.heap.size + 1) #[.string sn, .string si, .string sm, .int .i64 sp, .slice ta tl tc, .int .u64 s6, .int .u64 s7] 27) := KS_w5o.out.below hb
  have KC_w6 : Hid (Blk w6 (w.heap.size + 1 + 1) #[.string cn, .string ci, .string cs, .int .i64 ct, .string ce, .int .u64 c6, .int .u64 c7] 29) := KC_w5o.out.below hb
  have KO_w6 : Hid (Blk w6 w2.heap.size #[.string sn, .string si, .string sm, .int .i64 sp, .slice oa tl oc, .int .u64 s6, .int .u64 s7] 27) := KO_w5o.out.below hb
  have KWN_w6 : Hid (Blk w6 w3.heap.size #[.string g1, .string g2, .int .u64 g3, .int .u64 g4] 24) := KWN_w5o.out.below hb
  have KWS_w6 : Hid (Blk w6 w4.heap.size #[.string f1, .string f2, .string f3, .int .i64 f4, .slice wa fl wc, .int .u64 f6, .int .u64 f7] 27) := KWS_w5o.out.below hb
  have KWC_w6 : Hid (Blk w6 w5.heap.size #[.string h1, .string h2, .string h3, .int .i64 h4, .string h5, .int .u64 h6, .int .u64 h7] 29) := KWC_w5o.out.below hb
  have RO_w6 : Hid (CellsAt w6 oa TL) := RO_w5o.out.below hb
  have RW_w6 : Hid (CellsAt w6 wa FL) := RW_w5o.out.below hb
  have B_w6 : Hid (Below w.heap.size w w6) := B_w5o.out.trans (hb.mono B_w5o.out.size)
  clear KN_w5o KS_w5o KC_w5o KO_w5o KWN_w5o KWS_w5o KWC_w5o RO_w5o RW_w5o B_w5o
  clear hb m_0 m_1 m_2 m_3
  have m_0 := (KWN_w6.out.alloc (.cells #[.string g1, .string g2, .int .u64 g3, .int .u64 g4] 24)).cell 0 rfl
  have m_1 := (KWN_w6.out.alloc (.cells #[.string g1, .string g2, .int .u64 g3, .int .u64 g4] 24)).cell 1 rfl
  have m_2 := (KWN_w6.out.alloc (.cells #[.string g1, .string g2, .int .u64 g3, .int .u64 g4] 24)).cell 2 rfl
  have m_3 := (KWN_w6.out.alloc (.cells #[.string g1, .string g2, .int .u64 g3, .int .u64 g4] 24)).cell 3 rfl
  have l_0 := (KO_w6.out.alloc (.cells #[.string g1, .string g2, .int .u64 g3, .int .u64 g4] 24)).cell 0 rfl
  have l_1 := (KO_w6.out.alloc (.cells #[.string g1, .string g2, .int .u64 g3, .int .u64 g4] 24)).cell 1 rfl
  have l_2 := (KO_w6.out.alloc (.cells #[.string g1, .string g2, .int .u64 g3, .int .u64 g4] 24)).cell 2 rfl
  have l_3 := (KO_w6.out.alloc (.cells #[.string g1, .string g2, .int .u64 g3, .int .u64 g4] 24)).cell 3 rfl
  have l_4 := (KO_w6.out.alloc (.cells #[.string g1, .string g2, .int .u64 g3, .int .u64 g4] 24)).cell 4 rfl
  have l_5 := (KO_w6.out.alloc (.cells #[.string g1, .string g2, .int .u64 g3, .int .u64 g4] 24)).cell 5 rfl
  have l_6 := (KO_w6.out.alloc (.cells #[.string g1, .string g2, .int .u64 g3, .int .u64 g4] 24)).cell 6 rfl
  have q1 : (g1.toList == g1.toList) = true := beq_self_eq_true _
  have q2 : (g2.toList == g2.toList) = true := beq_self_eq_true _
  have q3 : (g3 == g3) = true := beq_self_eq_true _
  have q4 : (g4 == g4) = true := beq_self_eq_true _
  have q5 : (ne != ne) = false := by simp
  have q6 : (se != se) = false := by simp
  have q7 : (ke == ke) = true := beq_self_eq_true _
  have q8 : (h1.toList == h1.toList) = true := beq_self_eq_true _
  have q9 : (h2.toList == h2.toList) = true := beq_self_eq_true _
  have q10 : (h3.toList == h3.toList) = true := beq_self_eq_true _
  have q11 : (h4 == h4) = true := beq_self_eq_true _
  have q12 : (h5.toList == h5.toList) = true := beq_self_eq_true _
  have q13 : (h6 == h6) = true := beq_self_eq_true _
  have q14 : (h7 == h7) = true := beq_self_eq_true _
  go_wp2_with fail
  obtain ⟨w6o, Hw6o⟩ : ∃ x, Hid (x = w6.alloc (.cells #[.string g1, .string g2, .int .u64 g3, .int .u64 g4] 24)) := ⟨_, rfl⟩
  have hbw6o : Below w6.heap.size w6 w6o := by rw [Hw6o.out]; exact below_new _ _
  have KGN_w6o : Hid (Blk w6o w6.heap.size #[.string g1, .string g2, .int .u64 g3, .int .u64 g4] 24) := by rw [Hw6o.out]; exact Blk.new _ _ _
  have KN_w6o : Hid (Blk w6o w.heap.size #[.string nn, .string na, .int .u64 n3, .int .u64 n4] 24) := KN_w6.out.below hbw6o
  have KS_w6o : Hid (Blk w6o (w.heap.size + 1) #[.string sn, .string si, .string sm, .int .i64 sp, .slice ta tl tc, .int .u64 s6, .int .u64 s7] 27) := KS_w6.out.below hbw6o
  have KC_w6o : Hid (Blk w6o (w.heap.size + 1 + 1) #[.string cn, .string ci, .string cs, .int .i64 ct, .string ce, .int .u64 c6, .int .u64 c7] 29) := KC_w6.out.below hbw6o
  have KO_w6o : Hid (Blk w6o w2.heap.size #[.string sn, .string si, .string sm, .int .i64 sp, .slice oa tl oc, .int .u64 s6, .int .u64 s7] 27) := KO_w6.out.below hbw6o
  have KWN_w6o : Hid (Blk w6o w3.heap.size #[.string g1, .string g2, .int .u64 g3, .int .u64 g4] 24) := KWN_w6.out.below hbw6o
  have KWS_w6o : Hid (Blk w6o w4.heap.size #[.string f1, .string f2, .string f3, .int .i64 f4, .slice wa fl wc, .int .u64 f6, .int .u64 f7] 27) := KWS_w6.out.below hbw6o
  have KWC_w6o : Hid (Blk w6o w5.heap.size #[.string h1, .string h2, .string h3, .int .i64 h4, .string h5, .int .u64 h6, .int .u64 h7] 29) := KWC_w6.out.below hbw6o
  have B_w6o : Hid (Below w.heap.size w w6o) := B_w6.out.trans (hbw6o.mono B_w6.out.size)
  have RO_w6o : Hid (CellsAt w6o oa TL) := RO_w6.out.below hbw6o
  have RW_w6o : Hid (CellsAt w6o wa FL) := RW_w6.out.below hbw6o
  rw [← Hw6o.out]
  clear Hw6o hbw6o B_w6 KN_w6 KS_w6 KC_w6 KO_w6 KWN_w6 KWS_w6 KWC_w6 RO_w6 RW_w6
  refine (C4.out oa oc w6o RO_w6o.out).mono ?_
  rintro e w7 ⟨v, rfl, ho, hb⟩
  obtain ⟨ga, gc, rfl, -⟩ := row_forms ho
  have RG_w7 : Hid (w7.ownsRow w6o.heap.size 9 1 (.slice ga fl gc) fl FL) := ho
  have D_w7 : Hid (Below w6o.heap.size w6o w7) := hb
  clear m_0 m_1 m_2 m_3 l_0 l_1 l_2 l_3 l_4 l_5 l_6
  obtain ⟨w7o, Hw7o⟩ : ∃ x, Hid (x = w7.alloc (.cells #[.string f1, .string f2, .string f3, .int .i64 f4, .slice ga fl gc, .int .u64 f6, .int .u64 f7] 27)) := ⟨_, rfl⟩
  have hb7o : Below w7.heap.size w7 w7o := by rw [Hw7o.out]; exact below_new _ _
  have KGS_w7o : Hid (Blk w7o w7.heap.size #[.string f1, .string f2, .string f3, .int .i64 f4, .slice ga fl gc, .int .u64 f6, .int .u64 f7] 27) := by rw [Hw7o.out]; exact Blk.new _ _ _
  have RG_w7o : Hid (w7o.ownsRow w6o.heap.size 9 1 (.slice ga fl gc) fl FL) := row_below RG_w7.out hb7o
  have D_w7o : Hid (Below w6o.heap.size w6o w7o) := D_w7.out.trans (hb7o.mono D_w7.out.size)
  have HG6 : Hid (w6o.heap.size ≤ w7.heap.size) := D_w7.out.size
  have m_0 := (KWS_w6o.out.below D_w7.out).alloc (.cells #[.string f1, .string f2, .string f3, .int .i64 f4, .slice ga fl gc, .int .u64 f6, .int .u64 f7] 27) |>.cell 0 rfl
  have m_1 := (KWS_w6o.out.below D_w7.out).alloc (.cells #[.string f1, .string f2, .string f3, .int .i64 f4, .slice ga fl gc, .int .u64 f6, .int .u64 f7] 27) |>.cell 1 rfl
  have m_2 := (KWS_w6o.out.below D_w7.out).alloc (.cells #[.string f1, .string f2, .string f3, .int .i64 f4, .slice ga fl gc, .int .u64 f6, .int .u64 f7] 27) |>.cell 2 rfl
  have m_3 := (KWS_w6o.out.below D_w7.out).alloc (.cells #[.string f1, .string f2, .string f3, .int .i64 f4, .slice ga fl gc, .int .u64 f6, .int .u64 f7] 27) |>.cell 3 rfl
  have m_4 := (KWS_w6o.out.below D_w7.out).alloc (.cells #[.string f1, .string f2, .string f3, .int .i64 f4, .slice ga fl gc, .int .u64 f6, .int .u64 f7] 27) |>.cell 4 rfl
  have m_5 := (KWS_w6o.out.below D_w7.out).alloc (.cells #[.string f1, .string f2, .string f3, .int .i64 f4, .slice ga fl gc, .int .u64 f6, .int .u64 f7] 27) |>.cell 5 rfl
  have m_6 := (KWS_w6o.out.below D_w7.out).alloc (.cells #[.string f1, .string f2, .string f3, .int .i64 f4, .slice ga fl gc, .int .u64 f6, .int .u64 f7] 27) |>.cell 6 rfl
  clear ho hb RG_w7 D_w7
  go_wp2_with fail
  rw [← Hw7o.out]
  clear Hw7o
  refine (C9.out ga wa gc wc w7o (row_cells RG_w7o.out) (RW_w6o.out.below D_w7o.out)).mono ?_
  rintro e w8 ⟨rfl, hb⟩
  have KGS_w8 : Hid (Blk w8 w7.heap.size #[.string f1, .string f2, .string f3, .int .i64 f4, .slice ga fl gc, .int .u64 f6, .int .u64 f7] 27) := KGS_w7o.out.below hb
  have RG_w8 : Hid (w8.ownsRow w6o.heap.size 9 1 (.slice ga fl gc) fl FL) := row_below RG_w7o.out hb
  have D_w8 : Hid (Below w6o.heap.size w6o w8) := D_w7o.out.trans (hb.mono D_w7o.out.size)
  clear hb hb7o KGS_w7o RG_w7o D_w7o m_0 m_1 m_2 m_3 m_4 m_5 m_6
  have m_0 := (KO_w6o.out.below D_w8.out).cell 0 rfl
  have m_1 := (KO_w6o.out.below D_w8.out).cell 1 rfl
  have m_2 := (KO_w6o.out.below D_w8.out).cell 2 rfl
  have m_3 := (KO_w6o.out.below D_w8.out).cell 3 rfl
  have m_4 := (KO_w6o.out.below D_w8.out).cell 4 rfl
  have m_5 := (KO_w6o.out.below D_w8.out).cell 5 rfl
  have m_6 := (KO_w6o.out.below D_w8.out).cell 6 rfl
  have l_0 := (KS_w6o.out.below D_w8.out).cell 0 rfl
  have l_1 := (KS_w6o.out.below D_w8.out).cell 1 rfl
  have l_2 := (KS_w6o.out.below D_w8.out).cell 2 rfl
  have l_3 := (KS_w6o.out.below D_w8.out).cell 3 rfl
  have l_4 := (KS_w6o.out.below D_w8.out).cell 4 rfl
  have l_5 := (KS_w6o.out.below D_w8.out).cell 5 rfl
  have l_6 := (KS_w6o.out.below D_w8.out).cell 6 rfl
  go_wp2_with fail
  refine (C8.out oa ta oc tc w8 (RO_w6o.out.below D_w8.out) (HT.out.below (B_w6o.out.trans (D_w8.out.mono B_w6o.out.size)))).mono ?_
  rintro e w9 ⟨rfl, hb⟩
  have KGS_w9 : Hid (Blk w9 w7.heap.size #[.string f1, .string f2, .string f3, .int .i64 f4, .slice ga fl gc, .int .u64 f6, .int .u64 f7] 27) := KGS_w8.out.below hb
  have RG_w9 : Hid (w9.ownsRow w6o.heap.size 9 1 (.slice ga fl gc) fl FL) := row_below RG_w8.out hb
  have D_w9 : Hid (Below w6o.heap.size w6o w9) := D_w8.out.trans (hb.mono D_w8.out.size)
  clear hb KGS_w8 RG_w8 D_w8 m_0 l_0 m_1 l_1 m_2 l_2 m_3 l_3 m_4 l_4 m_5 l_5 m_6 l_6
  have t4 := KGS_w9.out.cell 4 rfl
  go_wp2
  clear t4
  go_loopw [75] (fun i wr => ∃ (k : Nat) (L : List Value), k ≤ fl ∧ i = .int .i64 k ∧ Hid (Blk wr w7.heap.size #[.string f1, .string f2, .string f3, .int .i64 f4, .slice ga fl gc, .int .u64 f6, .int .u64 f7] 27) ∧ Hid (wr.ownsRow w6o.heap.size 9 1 (.slice ga fl gc) fl L) ∧ Hid (Below w6o.heap.size w6o wr)) (fun i _ => fl - (intOf i).toNat)
  case atStart => exact ⟨0, FL, Nat.zero_le _, rfl, KGS_w9, RG_w9, D_w9⟩
  case round =>
    obtain ⟨k, L, hk, rfl, KG, RG, DD⟩ := hrel
    clear KGS_w9 RG_w9 D_w9
    by_cases hlt : k < fl
    · obtain ⟨g, rfl⟩ : ∃ g, ga = some ⟨g, 0, none⟩ := by
        rcases RG.out.2 with ⟨_, h0⟩ | ⟨g, cap, cur, he, _⟩
        · omega
        · injection he with h1; exact ⟨g, h1⟩
      obtain ⟨⟨cv, c0⟩, z0⟩ := row_at RG.out hlt
      obtain ⟨hgB, cur, hcur⟩ := row_blk RG.out
      have hgn : w7.heap.size ≠ g := KG.out.ne hcur (by decide)
      have t4 := KG.out.cell 4 rfl
      have KG2 : Hid (Blk (wr.setCell ⟨g, k, none⟩ (.string ⟨#[109, 97, 114, 107]⟩)) w7.heap.size #[.string f1, .string f2, .string f3, .int .i64 f4, .slice (some ⟨g, 0, none⟩) fl gc, .int .u64 f6, .int .u64 f7] 27) := KG.out.put hgn _
      have RG2 : Hid ((wr.setCell ⟨g, k, none⟩ (.string ⟨#[109, 97, 114, 107]⟩)).ownsRow w6o.heap.size 9 1 (.slice (some ⟨g, 0, none⟩) fl gc) fl (L.set k (.string ⟨#[109, 97, 114, 107]⟩))) := row_store RG.out hlt _
      have DD2 : Hid (Below w6o.heap.size w6o (wr.setCell ⟨g, k, none⟩ (.string ⟨#[109, 97, 114, 107]⟩))) := DD.out.setCell (p := ⟨g, k, none⟩) hgB _
      clear hcur hgn hgB KG RG DD
      go_wp2
      go_roundw
      case rel => exact ⟨k + 1, _, by omega, by go_num, KG2, RG2, DD2⟩
      case measure => simp [intOf]; omega
    · have hkf : k = fl := by omega
      subst hkf
      go_wp2
      go_loopw [18] (fun i wr => ∃ (j m : Nat) (a : Option Addr) (c : Nat) (L : List Value), j ≤ 17 ∧ m ≤ k + j ∧ i = .int .i64 j ∧ Hid (Blk wr w7.heap.size #[.string f1, .string f2, .string f3, .int .i64 f4, .slice a m c, .int .u64 f6, .int .u64 f7] 27) ∧ Hid (wr.ownsRow w6o.heap.size 9 1 (.slice a m c) m L) ∧ Hid (Below w6o.heap.size w6o wr)) (fun i _ => 17 - (intOf i).toNat)
      case atStart => exact ⟨0, k, ga, gc, L, by omega, by omega, rfl, KG, RG, DD⟩
      case round =>
        obtain ⟨j, m, a, c, L2, hj, hm, rfl, KH, RH, DH⟩ := hrel
        clear KG RG DD
        by_cases hlt2 : j < 17
        · have t4 := KH.out.cell 4 rfl
          have hBw : w6o.heap.size ≤ wr.heap.size := DH.out.size
          have ho1 : wr.ownsRow w6o.heap.size 9 1 (.slice a m c) m L2 := RH.out
          go_wp2_with (at_builtin; refine append_row _ rfl (.tmp 88) (.tmp 89) _ 9 _ 1 16 Tryz.underlying25 info_str rfl (by decide) rfl w6o.heap.size _ m _ rfl [.string ⟨#[109, 111, 114, 101]⟩] rfl (by simp [Value.oneCell']) _ _ rfl rfl rfl ho1 (by omega) (by omega) hBw ?_)
          intro v3 w3' ho3 hg3
          obtain ⟨a3, c3, rfl, -⟩ := row_forms ho3
          have KI : Hid (Blk w3' w7.heap.size #[.string f1, .string f2, .string f3, .int .i64 f4, .slice a m c, .int .u64 f6, .int .u64 f7] 27) := row_grewB KH.out ho1 hg3 (by decide)
          have DI : Hid (Below w6o.heap.size w6o w3') := DH.out.trans (hg3.toBelow hBw fun j hj => (World.ownsRow.lt ho1 j hj).1)
          have u4 := KI.out.cell 4 rfl
          have z4 := KI.out.open
          have KI2 : Hid (Blk (w3'.setCell ⟨w7.heap.size, 4, none⟩ (.slice a3 (m + 1) c3)) w7.heap.size #[.string f1, .string f2, .string f3, .int .i64 f4, .slice a3 (m + 1) c3, .int .u64 f6, .int .u64 f7] 27) := KI.out.set _
          have RI2 : Hid ((w3'.setCell ⟨w7.heap.size, 4, none⟩ (.slice a3 (m + 1) c3)).ownsRow w6o.heap.size 9 1 (.slice a3 (m + 1) c3) (m + 1) (L2 ++ [.string ⟨#[109, 111, 114, 101]⟩])) := row_set1 KI.out (by decide) ho3 _
          have DI2 : Hid (Below w6o.heap.size w6o (w3'.setCell ⟨w7.heap.size, 4, none⟩ (.slice a3 (m + 1) c3))) := DI.out.setCell (p := ⟨w7.heap.size, 4, none⟩) HG6.out _
          clear ho1 ho3 hg3 KH RH DH KI DI t4
          go_wp2
          go_roundw
          case rel => exact ⟨j + 1, m + 1, a3, c3, _, by omega, by omega, by go_num, KI2, RI2, DI2⟩
          case measure => simp [intOf]; omega
        · have D_e : Hid (Below w6o.heap.size w6o wr) := DH.out
          clear KH RH DH
          have m_0 := (KO_w6o.out.below D_e.out).cell 0 rfl
          have m_1 := (KO_w6o.out.below D_e.out).cell 1 rfl
          have m_2 := (KO_w6o.out.below D_e.out).cell 2 rfl
          have m_3 := (KO_w6o.out.below D_e.out).cell 3 rfl
          have m_4 := (KO_w6o.out.below D_e.out).cell 4 rfl
          have m_5 := (KO_w6o.out.below D_e.out).cell 5 rfl
          have m_6 := (KO_w6o.out.below D_e.out).cell 6 rfl
          have l_0 := (KS_w6o.out.below D_e.out).cell 0 rfl
          have l_1 := (KS_w6o.out.below D_e.out).cell 1 rfl
          have l_2 := (KS_w6o.out.below D_e.out).cell 2 rfl
          have l_3 := (KS_w6o.out.below D_e.out).cell 3 rfl
          have l_4 := (KS_w6o.out.below D_e.out).cell 4 rfl
          have l_5 := (KS_w6o.out.below D_e.out).cell 5 rfl
          have l_6 := (KS_w6o.out.below D_e.out).cell 6 rfl
          have hj17 : j = 17 := by omega
          subst hj17
          go_wp2_with fail
          refine (C8.out oa ta oc tc wr (RO_w6o.out.below D_e.out) (HT.out.below (B_w6o.out.trans (D_e.out.mono B_w6o.out.size)))).mono ?_
          rintro e wb ⟨rfl, hb⟩
          have D_b : Hid (Below w6o.heap.size w6o wb) := D_e.out.trans (hb.mono D_e.out.size)
          clear hb D_e m_0 l_0 m_1 l_1 m_2 l_2 m_3 l_3 m_4 l_4 m_5 l_5 m_6 l_6
          have m_0 := (KC_w6o.out.below D_b.out).cell 0 rfl
          have m_1 := (KC_w6o.out.below D_b.out).cell 1 rfl
          have m_2 := (KC_w6o.out.below D_b.out).cell 2 rfl
          have m_3 := (KC_w6o.out.below D_b.out).cell 3 rfl
          have m_4 := (KC_w6o.out.below D_b.out).cell 4 rfl
          have m_5 := (KC_w6o.out.below D_b.out).cell 5 rfl
          have m_6 := (KC_w6o.out.below D_b.out).cell 6 rfl
          go_wp2_with fail
          refine (C6.out wb).mono ?_
          rintro e wc ⟨rfl, hb⟩
          have D_c : Hid (Below w6o.heap.size w6o wc) := D_b.out.trans (hb.mono D_b.out.size)
          clear hb D_b m_0 m_1 m_2 m_3 m_4 m_5 m_6
          have m_0 := ((KWC_w6o.out.below D_c.out).alloc (.cells #[.string h1, .string h2, .string h3, .int .i64 h4, .string h5, .int .u64 h6, .int .u64 h7] 29)).cell 0 rfl
          have m_1 := ((KWC_w6o.out.below D_c.out).alloc (.cells #[.string h1, .string h2, .string h3, .int .i64 h4, .string h5, .int .u64 h6, .int .u64 h7] 29)).cell 1 rfl
          have m_2 := ((KWC_w6o.out.below D_c.out).alloc (.cells #[.string h1, .string h2, .string h3, .int .i64 h4, .string h5, .int .u64 h6, .int .u64 h7] 29)).cell 2 rfl
          have m_3 := ((KWC_w6o.out.below D_c.out).alloc (.cells #[.string h1, .string h2, .string h3, .int .i64 h4, .string h5, .int .u64 h6, .int .u64 h7] 29)).cell 3 rfl
          have m_4 := ((KWC_w6o.out.below D_c.out).alloc (.cells #[.string h1, .string h2, .string h3, .int .i64 h4, .string h5, .int .u64 h6, .int .u64 h7] 29)).cell 4 rfl
          have m_5 := ((KWC_w6o.out.below D_c.out).alloc (.cells #[.string h1, .string h2, .string h3, .int .i64 h4, .string h5, .int .u64 h6, .int .u64 h7] 29)).cell 5 rfl
          have m_6 := ((KWC_w6o.out.below D_c.out).alloc (.cells #[.string h1, .string h2, .string h3, .int .i64 h4, .string h5, .int .u64 h6, .int .u64 h7] 29)).cell 6 rfl
          go_wp2
          go_ret
          exact ⟨rfl, (B_w6o.out.trans (D_c.out.mono B_w6o.out.size)).alloc (Nat.le_trans B_w6o.out.size D_c.out.size) _⟩
end Go.Proofs.YtdomajhffmfbbaaGreatDoor
