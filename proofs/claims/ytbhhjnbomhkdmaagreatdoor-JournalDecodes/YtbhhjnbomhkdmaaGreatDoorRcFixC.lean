import Derived.Test.YtbhhjnbomhkdmaaGreatDoorRcLabel
import Derived.Test.YtbhhjnbomhkdmaaGreatDoorRcFixT
import Derived.Test.YtbhhjnbomhkdmaaGreatDoorRcSplit
import Derived.Deep.RegionHeld3
/- Layer 9 (records): FixService. -/
namespace Go.Proofs.YtbhhjnbomhkdmaaGreatDoor
open Go.RowKit
set_option linter.unusedVariables false

/-- A service, plain. -/
structure Sp where
 node : ByteArray
 id : ByteArray
 name : ByteArray
 port : Int
 tags : List ByteArray
 made : Int
 changed : Int
def Sp.v (s : Sp) (t : Value) : Array Value := #[.string s.node, .string s.id, .string s.name, .int .i64 s.port, t, .int .u64 s.made, .int .u64 s.changed]
def svcZ : Sp := ⟨⟨#[]⟩, ⟨#[]⟩, ⟨#[]⟩, 0, [], 0, 0⟩
def tagsB (l : List ByteArray) : List ByteArray := (tagsL l).map fun b => ⟨b.toArray⟩
theorem tagsB_len (l : List ByteArray) : (tagsB l).length = (tagsL l).length := by simp [tagsB]
theorem tagsB_map (l : List ByteArray) : (tagsB l).map Value.string = (tagsL l).map encS := by simp [tagsB, Function.comp_def]
def svcE (s : Sp) : Int := firstE [idE s.node s.id, labE s.name, portE s.port, tagsE s.tags]
def svcF (s : Sp) : Sp := if svcE s = 0 then ⟨labT s.node, labT s.id, labT s.name, s.port, tagsB s.tags, 0, 0⟩ else svcZ
theorem svc_yes {s : Sp} (h : svcE s = 0) : svcF s = ⟨labT s.node, labT s.id, labT s.name, s.port, tagsB s.tags, 0, 0⟩ := if_pos h
theorem svc_no {s : Sp} (h : ¬ svcE s = 0) : svcF s = svcZ := if_neg h
theorem svc_parts {s : Sp} (h : svcE s = 0) : idE s.node s.id = 0 ∧ labE s.name = 0 ∧ portE s.port = 0 ∧ tagsE s.tags = 0 := by
 unfold svcE at h
 simp only [firstE, orE] at h
 split at h
 ·next h1 =>
  split at h
  ·next h2 =>
   split at h
   ·next h3 =>
    split at h
    ·next h4 => exact ⟨h1, h2, h3, h4⟩
    ·next h4 => exact absurd h h4
   ·next h3 => exact absurd h h3
  ·next h2 => exact absurd h h2
 ·next h1 => exact absurd h h1
structure Sp.small (s : Sp) : Prop where
 node : s.node.size ≤ 140737488351296
 id : s.id.size ≤ 140737488351296
 name : s.name.size ≤ 140737488351296
 len : s.tags.length ≤ 8796093022208
 tags : ∀ x ∈ s.tags, x.size ≤ 140737488351296
/-- A service is answered, its tags in memory of their own. -/
def SvcA (w : World) (r : Sp) (x : Int) (e : Ending) (w' : World) : Prop := ∃ v, e = .returned (.tuple #[.agg (r.v v), .int .i64 x]) ∧ w'.ownsRow w.heap.size 9 1 v r.tags.length (r.tags.map Value.string) ∧ Below w.heap.size w w'
theorem info_svc : (Tryz.prog.info? 48).map (·.size) = some 7 := by kernel_rfl
theorem load_svc {w : World} {g : Nat} {cs : Array Value} (h : Blk w g cs 48) (hs : cs.size = 7) : (loadVar 48 ⟨g, 0, none⟩).run Tryz.prog w = .ok (.agg cs) w :=
 run_loadVar_row (P := Tryz.prog) w g 48 48 cs (0, 0) _ h Tryz.underlying48 rfl (by rw [info_svc, hs])

theorem row_weak {w : World} {B B' : Nat} {e : TypeId} {size : Nat} {v : Value} {n : Nat} {l : List Value} (hB : B' ≤ B) (h : w.ownsRow B e size v n l) : w.ownsRow B' e size v n l := by
 refine ⟨h.1, ?_⟩
 rcases h.2 with h1 | ⟨g, cap, cur, h1, h2, h3⟩
 ·exact .inl h1
 ·exact .inr ⟨g, cap, cur, h1, Nat.le_trans hB h2, h3⟩
theorem row_putC {w : World} {B g : Nat} {e T : TypeId} {size : Nat} {v : Value} {n : Nat} {xs : List Value} {cs : Array Value} (hg : Blk w g cs T) (hT : T ≠ e) (h : w.ownsRow B e size v n xs) (l : List Value) : (putC w g 0 l).ownsRow B e size v n xs := by
 refine ⟨h.1, ?_⟩
 rcases h.2 with h1 | ⟨g', cap, cur, h1, h2, h3, h4⟩
 ·exact .inl h1
 ·refine .inr ⟨g', cap, cur, h1, h2, putC_other (fun e' => ?_) l w 0 h3, h4⟩
  subst e'
  have hg' : w.heap[g']? = some (.cells cs T) := hg
  rw [h3] at hg'
  injection hg' with hg'
  injection hg' with _ hg'
  exact hT hg'.symm
set_option maxRecDepth 100000 in
set_option maxHeartbeats 4000000 in
theorem fixService_calls (s : Sp) (ta : Option Addr) (tc : Nat) (w : World) (hs : s.small) (hc : CellsAt w ta (s.tags.map Value.string)) :
  Calls Tryz.prog 77 #[.agg (s.v (.slice ta s.tags.length tc))] w fun e w' => SvcA w (svcF s) (svcE s) e w' := by
 obtain ⟨ne, Hne⟩ : ∃ ne, Hid (ne = svcE s) := ⟨_, rfl⟩
 have HY : Hid (ne = 0 → svcF s = ⟨labT s.node, labT s.id, labT s.name, s.port, tagsB s.tags, 0, 0⟩ ∧ idT s.node s.id s.node = labT s.node ∧ idT s.node s.id s.id = labT s.id) := fun h => by
  have h : svcE s = 0 := by rw [← Hne.out]; exact h
  exact ⟨svc_yes h, id_yes (svc_parts h).1 _, id_yes (svc_parts h).1 _⟩
 have HN : Hid (¬ ne = 0 → svcF s = svcZ) := fun h => svc_no (by rw [← Hne.out]; exact h)
 have HE : Hid (ne = firstE [idE s.node s.id, labE s.name, portE s.port, tagsE s.tags]) := Hne.out
 rw [← Hne.out]
 clear Hne
 obtain ⟨hs1, hs2, hs3, hs4, hs5⟩ := hs
 have HC : Hid (CellsAt w ta (s.tags.map Value.string)) := hc
 have HS5 : Hid (∀ x ∈ s.tags, x.size ≤ 140737488351296) := hs5
 clear hc hs5
 obtain ⟨nd, id, nm, po, tg, mk, ch⟩ := s
 simp only [Sp.v] at *
 obtain ⟨tl, Htl⟩ : ∃ tl, Hid (tl = tg.length) := ⟨_, rfl⟩
 have HT : Hid (∀ w, CellsAt w ta (tg.map Value.string) → Calls Tryz.prog 85 #[.slice ta tl tc] w fun e w' => TagsA w tg e w') := fun w h => by rw [Htl.out]; exact fixTags_calls ta tc tg w hs4 HS5.out h
 rw [← Htl.out]
 obtain ⟨w2, Hw2⟩ : ∃ w2, Hid (w2 = (w.alloc (.cells #[.string nd, .string id, .string nm, .int .i64 po, .slice ta tl tc, .int .u64 mk, .int .u64 ch] 48)).alloc (.cells #[.string ⟨#[]⟩, .string ⟨#[]⟩, .string ⟨#[]⟩, .int .i64 0, .slice none 0 0, .int .u64 0, .int .u64 0] 48)) := ⟨_, rfl⟩
 have hz : (w.alloc (.cells #[.string nd, .string id, .string nm, .int .i64 po, .slice ta tl tc, .int .u64 mk, .int .u64 ch] 48)).heap.size = w.heap.size + 1 := size_new _ _
 have HX : Hid (Blk w2 w.heap.size #[.string nd, .string id, .string nm, .int .i64 po, .slice ta tl tc, .int .u64 mk, .int .u64 ch] 48) := by rw [Hw2.out]; exact (Blk.new _ _ _).alloc _
 have HR : Hid (Blk w2 (w.heap.size + 1) #[.string ⟨#[]⟩, .string ⟨#[]⟩, .string ⟨#[]⟩, .int .i64 0, .slice none 0 0, .int .u64 0, .int .u64 0] 48) := by rw [Hw2.out, ← hz]; exact Blk.new _ _ _
 have HB2 : Hid (Below w.heap.size w w2) := by rw [Hw2.out]; exact (below_new w _).alloc (by rw [hz]; omega) _
 clear hz
 go_enter Tryz.func77, Tryz.ntmps77
 go_wp2_with fail
 rw [← Hw2.out]
 clear Hw2
 refine (fixId_calls nd id w2 hs1 hs2).mono ?_
 rintro e w3 ⟨rfl, hb3⟩
 have HX2 := HX
 have HR2 := HR
 have HX3 : Hid (Blk w3 w.heap.size #[.string nd, .string id, .string nm, .int .i64 po, .slice ta tl tc, .int .u64 mk, .int .u64 ch] 48) := HX2.out.below hb3
 have HR3 : Hid (Blk w3 (w.heap.size + 1) #[.string ⟨#[]⟩, .string ⟨#[]⟩, .string ⟨#[]⟩, .int .i64 0, .slice none 0 0, .int .u64 0, .int .u64 0] 48) := HR2.out.below hb3
 have HB3 : Hid (Below w.heap.size w w3) := HB2.out.trans (hb3.mono HB2.out.size)
 have c2 := HX3.out.cell 2 rfl
 clear hb3 HX2 HR2 HX HR HB2
 go_wp2_with fail
 refine (label_calls nm w3 hs3).mono ?_
 rintro e w4 ⟨rfl, hb4⟩
 have HX4 : Hid (Blk w4 w.heap.size #[.string nd, .string id, .string nm, .int .i64 po, .slice ta tl tc, .int .u64 mk, .int .u64 ch] 48) := HX3.out.below hb4
 have HR4 : Hid (Blk w4 (w.heap.size + 1) #[.string ⟨#[]⟩, .string ⟨#[]⟩, .string ⟨#[]⟩, .int .i64 0, .slice none 0 0, .int .u64 0, .int .u64 0] 48) := HR3.out.below hb4
 have HB4 : Hid (Below w.heap.size w w4) := HB3.out.trans (hb4.mono HB3.out.size)
 have c4 := HX4.out.cell 4 rfl
 clear hb4 HX3 HR3 HB3 c2
 go_wp2_with fail
 refine (HT.out w4 (HC.out.below HB4.out)).mono ?_
 rintro e w5 ⟨v, rfl, ho5, hb5⟩
 obtain ⟨va, vn, vc, rfl⟩ : ∃ va vn vc, v = .slice va vn vc := by
  rcases ho5.2 with ⟨rfl, _⟩ | ⟨g, cap, cur, rfl, _⟩
  ·exact ⟨_, _, _, rfl⟩
  ·exact ⟨_, _, _, rfl⟩
 have HX5 : Hid (Blk w5 w.heap.size #[.string nd, .string id, .string nm, .int .i64 po, .slice ta tl tc, .int .u64 mk, .int .u64 ch] 48) := HX4.out.below hb5
 have HR5 : Hid (Blk w5 (w.heap.size + 1) #[.string ⟨#[]⟩, .string ⟨#[]⟩, .string ⟨#[]⟩, .int .i64 0, .slice none 0 0, .int .u64 0, .int .u64 0] 48) := HR4.out.below hb5
 have HB5 : Hid (Below w.heap.size w w5) := HB4.out.trans (hb5.mono HB4.out.size)
 have HO5 : Hid (w5.ownsRow w4.heap.size 9 1 (.slice va vn vc) (tagsL tg).length ((tagsL tg).map encS)) := ho5
 have HS4 : Hid (w.heap.size ≤ w4.heap.size) := HB4.out.size
 have c3 := HX5.out.cell 3 rfl
 clear hb5 ho5 HX4 HR4 HB4 c4 HT HC
 go_wp2_with fail
 refine (portError_calls po w5).mono ?_
 rintro e w6 ⟨rfl, hw⟩
 subst w6
 go_wp2_with fail
 refine (first4_calls (idE nd id) (labE nm) (portE po) (tagsE tg) _ w5 rfl).mono ?_
 rintro e w6 ⟨he, hw6⟩
 rw [← HE.out] at he
 subst he
 have hb6 : Below w5.heap.size w5 w6 := by rw [hw6]; exact below_new _ _
 have HX6 : Hid (Blk w6 w.heap.size #[.string nd, .string id, .string nm, .int .i64 po, .slice ta tl tc, .int .u64 mk, .int .u64 ch] 48) := HX5.out.below hb6
 have HR6 : Hid (Blk w6 (w.heap.size + 1) #[.string ⟨#[]⟩, .string ⟨#[]⟩, .string ⟨#[]⟩, .int .i64 0, .slice none 0 0, .int .u64 0, .int .u64 0] 48) := HR5.out.below hb6
 have HB6 : Hid (Below w.heap.size w w6) := HB5.out.trans (hb6.mono HB5.out.size)
 have HO6 : Hid (w6.ownsRow w.heap.size 9 1 (.slice va vn vc) (tagsL tg).length ((tagsL tg).map encS)) := row_weak HS4.out (row_below HO5.out hb6)
 have c6 := HX6.out.cell 3 rfl
 have r0 := HR6.out.cell 0 rfl
 have r1 := HR6.out.cell 1 rfl
 have r2 := HR6.out.cell 2 rfl
 have r3 := HR6.out.cell 3 rfl
 have r4 := HR6.out.cell 4 rfl
 have r5 := HR6.out.cell 5 rfl
 have r6 := HR6.out.cell 6 rfl
 have z := HR6.out.open
 have HTy : Hid (∀ (cs : Array Value) (l : List Value), (putC w6 (w.heap.size + 1) 0 l).ownsRow w.heap.size 9 1 (.slice va vn vc) (tagsL tg).length ((tagsL tg).map encS)) := fun _ l => row_putC HR6.out (by decide) HO6.out l
 clear hw6 hb6 HX5 HR5 HB5 HO5 c3
 by_cases h0 : ne = 0
 ·obtain ⟨e1, e2, e3⟩ := HY.out h0
  have HQ : Hid (svcF ⟨nd, id, nm, po, tg, mk, ch⟩ = ⟨labT nd, labT id, labT nm, po, tagsB tg, 0, 0⟩) := e1
  have q : (ne != 0) = false := by simpa using h0
  have H0 : Hid (0 = ne) := h0.symm
  rw [e2, e3]
  clear e1 e2 e3 h0 HY HN
  go_wp2
  refine ret_box (g := w.heap.size + 1) (e := .int .i64 0) rfl rfl rfl rfl (load_svc (putC_all (l := [.string (labT nd), .string (labT id), .string (labT nm), .int .i64 po, .slice va vn vc, .int .u64 0, .int .u64 0]) HR6.out rfl) rfl) ⟨.slice va vn vc, ?_, ?_, putC_below [.string (labT nd), .string (labT id), .string (labT nm), .int .i64 po, .slice va vn vc, .int .u64 0, .int .u64 0] w6 0 HB6.out (by omega)⟩
  ·rw [HQ.out, H0.out]; rfl
  ·rw [HQ.out]
   show World.ownsRow _ _ _ _ _ (tagsB tg).length ((tagsB tg).map Value.string)
   rw [tagsB_len, tagsB_map]
   exact HTy.out #[] [.string (labT nd), .string (labT id), .string (labT nm), .int .i64 po, .slice va vn vc, .int .u64 0, .int .u64 0]
 ·have HQ : Hid (svcF ⟨nd, id, nm, po, tg, mk, ch⟩ = svcZ) := HN.out h0
  have q : (ne != 0) = true := by simpa using h0
  clear HY HN
  go_wp2
  refine ret_box (g := w.heap.size + 1) (e := .int .i64 ne) rfl rfl rfl rfl (load_svc (putC_all (l := [.string ⟨#[]⟩, .string ⟨#[]⟩, .string ⟨#[]⟩, .int .i64 0, .slice none 0 0, .int .u64 0, .int .u64 0]) HR6.out rfl) rfl) ⟨.slice none 0 0, ?_, ?_, putC_below [.string ⟨#[]⟩, .string ⟨#[]⟩, .string ⟨#[]⟩, .int .i64 0, .slice none 0 0, .int .u64 0, .int .u64 0] w6 0 HB6.out (by omega)⟩
  ·rw [HQ.out]; rfl
  ·rw [HQ.out]
   exact World.ownsRow_nil _ _ _ _
end Go.Proofs.YtbhhjnbomhkdmaaGreatDoor

/- Layer 9 (records): FixCheck. -/
namespace Go.Proofs.YtbhhjnbomhkdmaaGreatDoor
open Go.RowKit
set_option linter.unusedVariables false

structure Ck where
 node : ByteArray
 id : ByteArray
 service : ByteArray
 status : Int
 note : ByteArray
 made : Int
 changed : Int
def Ck.v (c : Ck) : Array Value := #[.string c.node, .string c.id, .string c.service, .int .i64 c.status, .string c.note, .int .u64 c.made, .int .u64 c.changed]
def chkZ : Ck := ⟨⟨#[]⟩, ⟨#[]⟩, ⟨#[]⟩, 0, ⟨#[]⟩, 0, 0⟩
def chkE (c : Ck) : Int := firstE [idE c.node c.id, spE c.service, statE c.status, noteE c.note]
def chkF (c : Ck) : Ck := if chkE c = 0 then ⟨labT c.node, labT c.id, spT c.service, c.status, c.note, 0, 0⟩ else chkZ
theorem chk_yes {c : Ck} (h : chkE c = 0) : chkF c = ⟨labT c.node, labT c.id, spT c.service, c.status, c.note, 0, 0⟩ := if_pos h
theorem chk_no {c : Ck} (h : ¬ chkE c = 0) : chkF c = chkZ := if_neg h
theorem chk_parts {c : Ck} (h : chkE c = 0) : idE c.node c.id = 0 ∧ spE c.service = 0 ∧ statE c.status = 0 ∧ noteE c.note = 0 := by
 unfold chkE at h
 simp only [firstE, orE] at h
 split at h
 ·next h1 =>
  split at h
  ·next h2 =>
   split at h
   ·next h3 =>
    split at h
    ·next h4 => exact ⟨h1, h2, h3, h4⟩
    ·next h4 => exact absurd h h4
   ·next h3 => exact absurd h h3
  ·next h2 => exact absurd h h2
 ·next h1 => exact absurd h h1
structure Ck.small (c : Ck) : Prop where
 node : c.node.size ≤ 140737488351296
 id : c.id.size ≤ 140737488351296
 service : c.service.size ≤ 140737488351296
 note : c.note.size ≤ 140737488351296
theorem info_chk : (Tryz.prog.info? 52).map (·.size) = some 7 := by kernel_rfl
theorem load_chk {w : World} {g : Nat} {cs : Array Value} (h : Blk w g cs 52) (hs : cs.size = 7) : (loadVar 52 ⟨g, 0, none⟩).run Tryz.prog w = .ok (.agg cs) w :=
 run_loadVar_row (P := Tryz.prog) w g 52 52 cs (0, 0) _ h Tryz.underlying52 rfl (by rw [info_chk, hs])

set_option maxRecDepth 100000 in
set_option maxHeartbeats 4000000 in
theorem fixCheck_calls (c : Ck) (w : World) (hs : c.small) :
    Calls Tryz.prog 78 #[.agg c.v] w fun e w' => e = .returned (.tuple #[.agg (chkF c).v, .int .i64 (chkE c)]) ∧ Below w.heap.size w w' := by
  obtain ⟨ne, Hne⟩ : ∃ ne, Hid (ne = chkE c) := ⟨_, rfl⟩
  have HY : Hid (ne = 0 → chkF c = ⟨labT c.node, labT c.id, spT c.service, c.status, c.note, 0, 0⟩ ∧ idT c.node c.id c.node = labT c.node ∧ idT c.node c.id c.id = labT c.id) := fun h => by
    have h : chkE c = 0 := by rw [← Hne.out]; exact h
    exact ⟨chk_yes h, id_yes (chk_parts h).1 _, id_yes (chk_parts h).1 _⟩
  have HN : Hid (¬ ne = 0 → chkF c = chkZ) := fun h => chk_no (by rw [← Hne.out]; exact h)
  have HE : Hid (ne = firstE [idE c.node c.id, spE c.service, statE c.status, noteE c.note]) := Hne.out
  rw [← Hne.out]
  clear Hne
  obtain ⟨hs1, hs2, hs3, hs4⟩ := hs
  obtain ⟨nd, id, sv, st, nt, mk, ch⟩ := c
  simp only [Ck.v] at *
  obtain ⟨w2, Hw2⟩ : ∃ w2, Hid (w2 = (w.alloc (.cells #[.string nd, .string id, .string sv, .int .i64 st, .string nt, .int .u64 mk, .int .u64 ch] 52)).alloc (.cells #[.string ⟨#[]⟩, .string ⟨#[]⟩, .string ⟨#[]⟩, .int .i64 0, .string ⟨#[]⟩, .int .u64 0, .int .u64 0] 52)) := ⟨_, rfl⟩
  have hz : (w.alloc (.cells #[.string nd, .string id, .string sv, .int .i64 st, .string nt, .int .u64 mk, .int .u64 ch] 52)).heap.size = w.heap.size + 1 := size_new _ _
  have HX2 : Hid (Blk w2 w.heap.size #[.string nd, .string id, .string sv, .int .i64 st, .string nt, .int .u64 mk, .int .u64 ch] 52) := by rw [Hw2.out]; exact (Blk.new _ _ _).alloc _
  have HR2 : Hid (Blk w2 (w.heap.size + 1) #[.string ⟨#[]⟩, .string ⟨#[]⟩, .string ⟨#[]⟩, .int .i64 0, .string ⟨#[]⟩, .int .u64 0, .int .u64 0] 52) := by rw [Hw2.out, ← hz]; exact Blk.new _ _ _
  have HB2 : Hid (Below w.heap.size w w2) := by rw [Hw2.out]; exact (below_new w _).alloc (by rw [hz]; omega) _
  clear hz
  go_enter Tryz.func78, Tryz.ntmps78
  go_wp2_with fail
  rw [← Hw2.out]
  clear Hw2
  refine (fixId_calls nd id w2 hs1 hs2).mono ?_
  rintro e w3 ⟨rfl, hb3⟩
  have HX3 : Hid (Blk w3 w.heap.size #[.string nd, .string id, .string sv, .int .i64 st, .string nt, .int .u64 mk, .int .u64 ch] 52) := HX2.out.below hb3
  have HR3 : Hid (Blk w3 (w.heap.size + 1) #[.string ⟨#[]⟩, .string ⟨#[]⟩, .string ⟨#[]⟩, .int .i64 0, .string ⟨#[]⟩, .int .u64 0, .int .u64 0] 52) := HR2.out.below hb3
  have HB3 : Hid (Below w.heap.size w w3) := HB2.out.trans (hb3.mono HB2.out.size)
  have c2 := HX3.out.cell 2 rfl
  clear hb3 HX2 HR2 HB2
  go_wp2_with fail
  refine (fixSpokenFor_calls sv w3 hs3).mono ?_
  rintro e w4 ⟨rfl, hb4⟩
  have HX4 : Hid (Blk w4 w.heap.size #[.string nd, .string id, .string sv, .int .i64 st, .string nt, .int .u64 mk, .int .u64 ch] 52) := HX3.out.below hb4
  have HR4 : Hid (Blk w4 (w.heap.size + 1) #[.string ⟨#[]⟩, .string ⟨#[]⟩, .string ⟨#[]⟩, .int .i64 0, .string ⟨#[]⟩, .int .u64 0, .int .u64 0] 52) := HR3.out.below hb4
  have HB4 : Hid (Below w.heap.size w w4) := HB3.out.trans (hb4.mono HB3.out.size)
  have c3 := HX4.out.cell 3 rfl
  have c4 := HX4.out.cell 4 rfl
  clear hb4 HX3 HR3 HB3 c2
  go_wp2
  go_region_held3 (fun W => W.cell? ⟨w.heap.size, 3, none⟩ = some (.int .i64 st) ∧ W.cell? ⟨w.heap.size, 4, none⟩ = some (.string nt)) (first | (exact q6) | (exact ⟨c3, c4⟩) | go_keep)
    (first
      | (go_at_call 88
         refine (statusError_calls st _).mono ?_
         rintro e w5 ⟨rfl, hw5⟩
         subst w5)
      | (go_at_call 89
         refine (noteError_calls nt _ hs4).mono ?_
         rintro e w5 ⟨rfl, hw5⟩
         subst w5)
      | (go_at_call 83
         refine (first4D_calls (idE nd id) (spE sv) (statE st) (noteE nt) _ w4 rfl).mono ?_
         rintro e w6 ⟨he, hw6⟩
         rw [← HE.out] at he
         subst he
         have q6 : w6.cell? ⟨w.heap.size, 3, none⟩ = some (.int .i64 st) ∧ w6.cell? ⟨w.heap.size, 4, none⟩ = some (.string nt) := by rw [hw6]; exact ⟨(HX4.out.alloc _).cell 3 rfl, (HX4.out.alloc _).cell 4 rfl⟩
         have Hw6 : Hid (w6 = _) := hw6
         clear hw6))
  have hb6 : Below w4.heap.size w4 w6 := by rw [Hw6.out]; exact (below_new _ _).drew
  have HX6 : Hid (Blk w6 w.heap.size #[.string nd, .string id, .string sv, .int .i64 st, .string nt, .int .u64 mk, .int .u64 ch] 52) := HX4.out.below hb6
  have HR6 : Hid (Blk w6 (w.heap.size + 1) #[.string ⟨#[]⟩, .string ⟨#[]⟩, .string ⟨#[]⟩, .int .i64 0, .string ⟨#[]⟩, .int .u64 0, .int .u64 0] 52) := HR4.out.below hb6
  have HB6 : Hid (Below w.heap.size w w6) := HB4.out.trans (hb6.mono HB4.out.size)
  clear q6 Hw6 hb6 HX4 HR4 HB4 c3 c4
  by_cases h0 : ne = 0
  · obtain ⟨e1, e2, e3⟩ := HY.out h0
    have HQ : Hid (chkF ⟨nd, id, sv, st, nt, mk, ch⟩ = ⟨labT nd, labT id, spT sv, st, nt, 0, 0⟩) := e1
    have q : (ne != 0) = false := by simpa using h0
    have H0 : Hid (0 = ne) := h0.symm
    rw [e2, e3]
    clear e1 e2 e3 h0 HY HN
    have q0 : w6.drew.cell? ⟨w.heap.size, 3, none⟩ = some (.int .i64 st) ∧ w6.drew.cell? ⟨w.heap.size, 4, none⟩ = some (.string nt) := ⟨HX6.out.cell 3 rfl, HX6.out.cell 4 rfl⟩
    go_wp2
    obtain ⟨q01, q02⟩ := q0
    go_region_law
      (first
        | (go_simp
           go_at_call 84
           refine (rclone_calls nt w6.drew hs4).mono ?_
           rintro e w7 ⟨rfl, hb7⟩
           have hbb := below_undrew hb7
           clear hb7
           have q71 : w7.cell? ⟨w.heap.size, 3, none⟩ = some (.int .i64 st) := (HX6.out.below hbb).cell 3 rfl
           have q72 : w7.cell? ⟨w.heap.size, 4, none⟩ = some (.string nt) := (HX6.out.below hbb).cell 4 rfl
           have HR7 : Hid (Blk w7 (w.heap.size + 1) #[.string ⟨#[]⟩, .string ⟨#[]⟩, .string ⟨#[]⟩, .int .i64 0, .string ⟨#[]⟩, .int .u64 0, .int .u64 0] 52) := HR6.out.below hbb
           have HB7 : Hid (Below w.heap.size w w7) := HB6.out.trans (hbb.mono HB6.out.size)
           have r0 := HR7.out.cell 0 rfl
           have r1 := HR7.out.cell 1 rfl
           have r2 := HR7.out.cell 2 rfl
           have r3 := HR7.out.cell 3 rfl
           have r4 := HR7.out.cell 4 rfl
           have r5 := HR7.out.cell 5 rfl
           have r6 := HR7.out.cell 6 rfl
           have z := HR7.out.open
           clear hbb
           dsimp only))
    all_goals
      go_wp2
      exact ret_box (g := w.heap.size + 1) (e := .int .i64 0) rfl rfl rfl rfl (load_chk (putC_all (l := [.string (labT nd), .string (labT id), .string (spT sv), .int .i64 st, .string nt, .int .u64 0, .int .u64 0]) HR7.out rfl) rfl) ⟨by rw [HQ.out, H0.out], putC_below [.string (labT nd), .string (labT id), .string (spT sv), .int .i64 st, .string nt, .int .u64 0, .int .u64 0] w7 0 HB7.out (by omega)⟩
  · have HQ : Hid (chkF ⟨nd, id, sv, st, nt, mk, ch⟩ = chkZ) := HN.out h0
    have q : (ne != 0) = true := by simpa using h0
    have r0 := HR6.out.cell 0 rfl
    have r1 := HR6.out.cell 1 rfl
    have r2 := HR6.out.cell 2 rfl
    have r3 := HR6.out.cell 3 rfl
    have r4 := HR6.out.cell 4 rfl
    have r5 := HR6.out.cell 5 rfl
    have r6 := HR6.out.cell 6 rfl
    have z := HR6.out.open
    clear HY HN
    go_wp2
    exact ret_box (g := w.heap.size + 1) (e := .int .i64 ne) rfl rfl rfl rfl (load_chk (putC_all (l := [.string ⟨#[]⟩, .string ⟨#[]⟩, .string ⟨#[]⟩, .int .i64 0, .string ⟨#[]⟩, .int .u64 0, .int .u64 0]) HR6.out rfl) rfl) ⟨by rw [HQ.out]; rfl, putC_below [.string ⟨#[]⟩, .string ⟨#[]⟩, .string ⟨#[]⟩, .int .i64 0, .string ⟨#[]⟩, .int .u64 0, .int .u64 0] w6 0 HB6.out (by omega)⟩
end Go.Proofs.YtbhhjnbomhkdmaaGreatDoor
