import Derived.Test.YthgcnmilaifkoaaGreatDoorKLaw
import Derived.Test.YthgcnmilaifkoaaGreatDoorRcFixT
import Derived.Test.YthgcnmilaifkoaaGreatDoorRcSplit
import Derived.Deep.RegionHeld3
/- Layer 9 (records): FixService. -/
namespace Go.Proofs.YthgcnmilaifkoaaGreatDoor
open Go.RowKit
set_option linter.unusedVariables false

/-- A service, plain. -/
structure Sp where
 node : ByteArray
 id : ByteArray
 name : ByteArray
 port : Int
 tags : List ByteArray
 made : Int
 changed : Int
def Sp.v (s : Sp) (t : Value) : Array Value := #[.string s.node, .string s.id, .string s.name, .int .i64 s.port, t, .int .u64 s.made, .int .u64 s.changed]
def svcZ : Sp := ⟨⟨#[]⟩, ⟨#[]⟩, ⟨#[]⟩, 0, [], 0, 0⟩
def tagsB (l : List ByteArray) : List ByteArray := (tagsL l).map fun b => ⟨b.toArray⟩
theorem tagsB_len (l : List ByteArray) : (tagsB l).length = (tagsL l).length := by simp [tagsB]
theorem tagsB_map (l : List ByteArray) : (tagsB l).map Value.string = (tagsL l).map encS := by simp [tagsB, Function.comp_def]
def svcE (s : Sp) : Int := firstE [idE s.node s.id, labE s.name, portE s.port, tagsE s.tags]
def svcF (s : Sp) : Sp := if svcE s = 0 then ⟨labT s.node, labT s.id, labT s.name, s.port, tagsB s.tags, 0, 0⟩ else svcZ
theorem svc_yes {s : Sp} (h : svcE s = 0) : svcF s = ⟨labT s.node, labT s.id, labT s.name, s.port, tagsB s.tags, 0, 0⟩ := if_pos h
theorem svc_no {s : Sp} (h : ¬ svcE s = 0) : svcF s = svcZ := if_neg h
theorem svc_parts {s : Sp} (h : svcE s = 0) : idE s.node s.id = 0 ∧ labE s.name = 0 ∧ portE s.port = 0 ∧ tagsE s.tags = 0 := by
 unfold svcE at h
 simp only [firstE, orE] at h
 split at h
 ·next h1 =>
  split at h
  ·next h2 =>
   split at h
   ·next h3 =>
    split at h
    ·next h4 => exact ⟨h1, h2, h3, h4⟩
    ·next h4 => exact absurd h h4
   ·next h3 => exact absurd h h3
  ·next h2 => exact absurd h h2
 ·next h1 => exact absurd h h1
structure Sp.small (s : Sp) : Prop where
 node : s.node.size ≤ 140737488351296
 id : s.id.size ≤ 140737488351296
 name : s.name.size ≤ 140737488351296
 len : s.tags.length ≤ 8796093022208
 tags : ∀ x ∈ s.tags, x.size ≤ 140737488351296
/-- A service is answered, its tags in memory of their own. -/
def SvcA (w : World) (r : Sp) (x : Int) (e : Ending) (w' : World) : Prop := ∃ v, e = .returned (.tuple #[.agg (r.v v), .int .i64 x]) ∧ w'.ownsRow w.heap.size 9 1 v r.tags.length (r.tags.map Value.string) ∧ Below w.heap.size w w'
theorem info_svc : (Tryz.prog.info? 41).map (·.size) = some 7 := by kernel_rfl
theorem load_svc {w : World} {g : Nat} {cs : Array Value} (h : Blk w g cs 41) (hs : cs.size = 7) : (loadVar 41 ⟨g, 0, none⟩).run Tryz.prog w = .ok (.agg cs) w :=
 run_loadVar_row (P := Tryz.prog) w g 41 41 cs (0, 0) _ h Tryz.underlying41 rfl (by rw [info_svc, hs])

theorem row_weak {w : World} {B B' : Nat} {e : TypeId} {size : Nat} {v : Value} {n : Nat} {l : List Value} (hB : B' ≤ B) (h : w.ownsRow B e size v n l) : w.ownsRow B' e size v n l := by
 refine ⟨h.1, ?_⟩
 rcases h.2 with h1 | ⟨g, cap, cur, h1, h2, h3⟩
 ·exact .inl h1
 ·exact .inr ⟨g, cap, cur, h1, Nat.le_trans hB h2, h3⟩
theorem row_putC {w : World} {B g : Nat} {e T : TypeId} {size : Nat} {v : Value} {n : Nat} {xs : List Value} {cs : Array Value} (hg : Blk w g cs T) (hT : T ≠ e) (h : w.ownsRow B e size v n xs) (l : List Value) : (putC w g 0 l).ownsRow B e size v n xs := by
 refine ⟨h.1, ?_⟩
 rcases h.2 with h1 | ⟨g', cap, cur, h1, h2, h3, h4⟩
 ·exact .inl h1
 ·refine .inr ⟨g', cap, cur, h1, h2, putC_other (fun e' => ?_) l w 0 h3, h4⟩
  subst e'
  have hg' : w.heap[g']? = some (.cells cs T) := hg
  rw [h3] at hg'
  injection hg' with hg'
  injection hg' with _ hg'
  exact hT hg'.symm
set_option maxRecDepth 100000 in
set_option maxHeartbeats 4000000 in
theorem fixService_calls (s : Sp) (ta : Option Addr) (tc : Nat) (w : World) (hs : s.small) (hc : CellsAt w ta (s.tags.map Value.string)) :
  Calls Tryz.prog 67 #[.agg (s.v (.slice ta s.tags.length tc))] w fun e w' => SvcA w (svcF s) (svcE s) e w' := by
 obtain ⟨ne, Hne⟩ : ∃ ne, Hid (ne = svcE s) := ⟨_, rfl⟩
 have HY : Hid (ne = 0 → svcF s = ⟨labT s.node, labT s.id, labT s.name, s.port, tagsB s.tags, 0, 0⟩ ∧ idT s.node s.id s.node = labT s.node ∧ idT s.node s.id s.id = labT s.id) := fun h => by
  have h : svcE s = 0 := by rw [← Hne.out]; exact h
  exact ⟨svc_yes h, id_yes (svc_parts h).1 _, id_yes (svc_parts h).1 _⟩
 have HN : Hid (¬ ne = 0 → svcF s = svcZ) := fun h => svc_no (by rw [← Hne.out]; exact h)
 have HE : Hid (ne = firstE [idE s.node s.id, labE s.name, portE s.port, tagsE s.tags]) := Hne.out
 rw [← Hne.out]
 clear Hne
 obtain ⟨hs1, hs2, hs3, hs4, hs5⟩ := hs
 have HC : Hid (CellsAt w ta (s.tags.map Value.string)) := hc
 have HS5 : Hid (∀ x ∈ s.tags, x.size ≤ 140737488351296) := hs5
 clear hc hs5
 obtain ⟨nd, id, nm, po, tg, mk, ch⟩ := s
 simp only [Sp.v] at *
 obtain ⟨tl, Htl⟩ : ∃ tl, Hid (tl = tg.length) := ⟨_, rfl⟩
 have HT : Hid (∀ w, CellsAt w ta (tg.map Value.string) → Calls Tryz.prog 79 #[.slice ta tl tc] w fun e w' => TagsA w tg e w') := fun w h => by rw [Htl.out]; exact fixTags_calls ta tc tg w hs4 HS5.out h
 rw [← Htl.out]
 obtain ⟨w2, Hw2⟩ : ∃ w2, Hid (w2 = (w.alloc (.cells #[.string nd, .string id, .string nm, .int .i64 po, .slice ta tl tc, .int .u64 mk, .int .u64 ch] 41)).alloc (.cells #[.string ⟨#[]⟩, .string ⟨#[]⟩, .string ⟨#[]⟩, .int .i64 0, .slice none 0 0, .int .u64 0, .int .u64 0] 41)) := ⟨_, rfl⟩
 have hz : (w.alloc (.cells #[.string nd, .string id, .string nm, .int .i64 po, .slice ta tl tc, .int .u64 mk, .int .u64 ch] 41)).heap.size = w.heap.size + 1 := size_new _ _
 have HX : Hid (Blk w2 w.heap.size #[.string nd, .string id, .string nm, .int .i64 po, .slice ta tl tc, .int .u64 mk, .int .u64 ch] 41) := by rw [Hw2.out]; exact (Blk.new _ _ _).alloc _
 have HR : Hid (Blk w2 (w.heap.size + 1) #[.string ⟨#[]⟩, .string ⟨#[]⟩, .string ⟨#[]⟩, .int .i64 0, .slice none 0 0, .int .u64 0, .int .u64 0] 41) := by rw [Hw2.out, ← hz]; exact Blk.new _ _ _
 have HB2 : Hid (Below w.heap.size w w2) := by rw [Hw2.out]; exact (below_new w _).alloc (by rw [hz]; omega) _
 clear hz
 go_enter Tryz.func67, Tryz.ntmps67
 go_wp2_with fail
 rw [← Hw2.out]
 clear Hw2
 refine (fixId_calls nd id w2 hs1 hs2).mono ?_
 rintro e w3 ⟨rfl, hb3⟩
 have HX2 := HX
 have HR2 := HR
 have HX3 : Hid (Blk w3 w.heap.size #[.string nd, .string id, .string nm, .int .i64 po, .slice ta tl tc, .int .u64 mk, .int .u64 ch] 41) := HX2.out.below hb3
 have HR3 : Hid (Blk w3 (w.heap.size + 1) #[.string ⟨#[]⟩, .string ⟨#[]⟩, .string ⟨#[]⟩, .int .i64 0, .slice none 0 0, .int .u64 0, .int .u64 0] 41) := HR2.out.below hb3
 have HB3 : Hid (Below w.heap.size w w3) := HB2.out.trans (hb3.mono HB2.out.size)
 have c2 := HX3.out.cell 2 rfl
 clear hb3 HX2 HR2 HX HR HB2
 go_wp2_with fail
 refine (label_calls nm w3 hs3).mono ?_
 rintro e w4 ⟨rfl, hb4⟩
 have HX4 : Hid (Blk w4 w.heap.size #[.string nd, .string id, .string nm, .int .i64 po, .slice ta tl tc, .int .u64 mk, .int .u64 ch] 41) := HX3.out.below hb4
 have HR4 : Hid (Blk w4 (w.heap.size + 1) #[.string ⟨#[]⟩, .string ⟨#[]⟩, .string ⟨#[]⟩, .int .i64 0, .slice none 0 0, .int .u64 0, .int .u64 0] 41) := HR3.out.below hb4
 have HB4 : Hid (Below w.heap.size w w4) := HB3.out.trans (hb4.mono HB3.out.size)
 have c4 := HX4.out.cell 4 rfl
 clear hb4 HX3 HR3 HB3 c2
 go_wp2_with fail
 refine (HT.out w4 (HC.out.below HB4.out)).mono ?_
 rintro e w5 ⟨v, rfl, ho5, hb5⟩
 obtain ⟨va, vn, vc, rfl⟩ : ∃ va vn vc, v = .slice va vn vc := by
  rcases ho5.2 with ⟨rfl, _⟩ | ⟨g, cap, cur, rfl, _⟩
  ·exact ⟨_, _, _, rfl⟩
  ·exact ⟨_, _, _, rfl⟩
 have HX5 : Hid (Blk w5 w.heap.size #[.string nd, .string id, .string nm, .int .i64 po, .slice ta tl tc, .int .u64 mk, .int .u64 ch] 41) := HX4.out.below hb5
 have HR5 : Hid (Blk w5 (w.heap.size + 1) #[.string ⟨#[]⟩, .string ⟨#[]⟩, .string ⟨#[]⟩, .int .i64 0, .slice none 0 0, .int .u64 0, .int .u64 0] 41) := HR4.out.below hb5
 have HB5 : Hid (Below w.heap.size w w5) := HB4.out.trans (hb5.mono HB4.out.size)
 have HO5 : Hid (w5.ownsRow w4.heap.size 9 1 (.slice va vn vc) (tagsL tg).length ((tagsL tg).map encS)) := ho5
 have HS4 : Hid (w.heap.size ≤ w4.heap.size) := HB4.out.size
 have c3 := HX5.out.cell 3 rfl
 clear hb5 ho5 HX4 HR4 HB4 c4 HT HC
 go_wp2_with fail
 refine (portError_calls po w5).mono ?_
 rintro e w6 ⟨rfl, hw⟩
 subst w6
 go_wp2_with fail
 refine (first4_calls (idE nd id) (labE nm) (portE po) (tagsE tg) _ w5 rfl).mono ?_
 rintro e w6 ⟨he, hw6⟩
 rw [← HE.out] at he
 subst he
 have hb6 : Below w5.heap.size w5 w6 := by rw [hw6]; exact below_new _ _
 have HX6 : Hid (Blk w6 w.heap.size #[.string nd, .string id, .string nm, .int .i64 po, .slice ta tl tc, .int .u64 mk, .int .u64 ch] 41) := HX5.out.below hb6
 have HR6 : Hid (Blk w6 (w.heap.size + 1) #[.string ⟨#[]⟩, .string ⟨#[]⟩, .string ⟨#[]⟩, .int .i64 0, .slice none 0 0, .int .u64 0, .int .u64 0] 41) := HR5.out.below hb6
 have HB6 : Hid (Below w.heap.size w w6) := HB5.out.trans (hb6.mono HB5.out.size)
 have HO6 : Hid (w6.ownsRow w.heap.size 9 1 (.slice va vn vc) (tagsL tg).length ((tagsL tg).map encS)) := row_weak HS4.out (row_below HO5.out hb6)
 have c6 := HX6.out.cell 3 rfl
 have r0 := HR6.out.cell 0 rfl
 have r1 := HR6.out.cell 1 rfl
 have r2 := HR6.out.cell 2 rfl
 have r3 := HR6.out.cell 3 rfl
 have r4 := HR6.out.cell 4 rfl
 have r5 := HR6.out.cell 5 rfl
 have r6 := HR6.out.cell 6 rfl
 have z := HR6.out.open
 have HTy : Hid (∀ (cs : Array Value) (l : List Value), (putC w6 (w.heap.size + 1) 0 l).ownsRow w.heap.size 9 1 (.slice va vn vc) (tagsL tg).length ((tagsL tg).map encS)) := fun _ l => row_putC HR6.out (by decide) HO6.out l
 clear hw6 hb6 HX5 HR5 HB5 HO5 c3
 by_cases h0 : ne = 0
 ·obtain ⟨e1, e2, e3⟩ := HY.out h0
  have HQ : Hid (svcF ⟨nd, id, nm, po, tg, mk, ch⟩ = ⟨labT nd, labT id, labT nm, po, tagsB tg, 0, 0⟩) := e1
  have q : (ne != 0) = false := by simpa using h0
  have H0 : Hid (0 = ne) := h0.symm
  rw [e2, e3]
  clear e1 e2 e3 h0 HY HN
  go_wp2
  refine ret_box (g := w.heap.size + 1) (e := .int .i64 0) rfl rfl rfl rfl (load_svc (putC_all (l := [.string (labT nd), .string (labT id), .string (labT nm), .int .i64 po, .slice va vn vc, .int .u64 0, .int .u64 0]) HR6.out rfl) rfl) ⟨.slice va vn vc, ?_, ?_, putC_below [.string (labT nd), .string (labT id), .string (labT nm), .int .i64 po, .slice va vn vc, .int .u64 0, .int .u64 0] w6 0 HB6.out (by omega)⟩
  ·rw [HQ.out, H0.out]; rfl
  ·rw [HQ.out]
   show World.ownsRow _ _ _ _ _ (tagsB tg).length ((tagsB tg).map Value.string)
   rw [tagsB_len, tagsB_map]
   exact HTy.out #[] [.string (labT nd), .string (labT id), .string (labT nm), .int .i64 po, .slice va vn vc, .int .u64 0, .int .u64 0]
 ·have HQ : Hid (svcF ⟨nd, id, nm, po, tg, mk, ch⟩ = svcZ) := HN.out h0
  have q : (ne != 0) = true := by simpa using h0
  clear HY HN
  go_wp2
  refine ret_box (g := w.heap.size + 1) (e := .int .i64 ne) rfl rfl rfl rfl (load_svc (putC_all (l := [.string ⟨#[]⟩, .string ⟨#[]⟩, .string ⟨#[]⟩, .int .i64 0, .slice none 0 0, .int .u64 0, .int .u64 0]) HR6.out rfl) rfl) ⟨.slice none 0 0, ?_, ?_, putC_below [.string ⟨#[]⟩, .string ⟨#[]⟩, .string ⟨#[]⟩, .int .i64 0, .slice none 0 0, .int .u64 0, .int .u64 0] w6 0 HB6.out (by omega)⟩
  ·rw [HQ.out]; rfl
  ·rw [HQ.out]
   exact World.ownsRow_nil _ _ _ _
end Go.Proofs.YthgcnmilaifkoaaGreatDoor

/- Layer 9 (records): FixCheck. -/
namespace Go.Proofs.YthgcnmilaifkoaaGreatDoor
open Go.RowKit
set_option linter.unusedVariables false

structure Ck where
 node : ByteArray
 id : ByteArray
 service : ByteArray
 status : Int
 note : ByteArray
 made : Int
 changed : Int
def Ck.v (c : Ck) : Array Value := #[.string c.node, .string c.id, .string c.service, .int .i64 c.status, .string c.note, .int .u64 c.made, .int .u64 c.changed]
def chkZ : Ck := ⟨⟨#[]⟩, ⟨#[]⟩, ⟨#[]⟩, 0, ⟨#[]⟩, 0, 0⟩
def chkE (c : Ck) : Int := firstE [idE c.node c.id, spE c.service, statE c.status, noteE c.note]
def chkF (c : Ck) : Ck := if chkE c = 0 then ⟨labT c.node, labT c.id, spT c.service, c.status, c.note, 0, 0⟩ else chkZ
theorem chk_yes {c : Ck} (h : chkE c = 0) : chkF c = ⟨labT c.node, labT c.id, spT c.service, c.status, c.note, 0, 0⟩ := if_pos h
theorem chk_no {c : Ck} (h : ¬ chkE c = 0) : chkF c = chkZ := if_neg h
theorem chk_parts {c : Ck} (h : chkE c = 0) : idE c.node c.id = 0 ∧ spE c.service = 0 ∧ statE c.status = 0 ∧ noteE c.note = 0 := by
 unfold chkE at h
 simp only [firstE, orE] at h
 split at h
 ·next h1 =>
  split at h
  ·next h2 =>
   split at h
   ·next h3 =>
    split at h
    ·next h4 => exact ⟨h1, h2, h3, h4⟩
    ·next h4 => exact absurd h h4
   ·next h3 => exact absurd h h3
  ·next h2 => exact absurd h h2
 ·next h1 => exact absurd h h1
structure Ck.small (c : Ck) : Prop where
 node : c.node.size ≤ 140737488351296
 id : c.id.size ≤ 140737488351296
 service : c.service.size ≤ 140737488351296
 note : c.note.size ≤ 140737488351296
theorem info_chk : (Tryz.prog.info? 45).map (·.size) = some 7 := by kernel_rfl
theorem load_chk {w : World} {g : Nat} {cs : Array Value} (h : Blk w g cs 45) (hs : cs.size = 7) : (loadVar 45 ⟨g, 0, none⟩).run Tryz.prog w = .ok (.agg cs) w :=
 run_loadVar_row (P := Tryz.prog) w g 45 45 cs (0, 0) _ h Tryz.underlying45 rfl (by rw [info_chk, hs])

set_option maxRecDepth 100000 in
set_option maxHeartbeats 4000000 in
theorem fixCheck_calls (c : Ck) (w : World) (hs : c.small) :
    Calls Tryz.prog 68 #[.agg c.v] w fun e w' => e = .returned (.tuple #[.agg (chkF c).v, .int .i64 (chkE c)]) ∧ Below w.heap.size w w' := by
  obtain ⟨ne, Hne⟩ : ∃ ne, Hid (ne = chkE c) := ⟨_, rfl⟩
  have HY : Hid (ne = 0 → chkF c = ⟨labT c.node, labT c.id, spT c.service, c.status, c.note, 0, 0⟩ ∧ idT c.node c.id c.node = labT c.node ∧ idT c.node c.id c.id = labT c.id) := fun h => by
    have h : chkE c = 0 := by rw [← Hne.out]; exact h
    exact ⟨chk_yes h, id_yes (chk_parts h).1 _, id_yes (chk_parts h).1 _⟩
  have HN : Hid (¬ ne = 0 → chkF c = chkZ) := fun h => chk_no (by rw [← Hne.out]; exact h)
  have HE : Hid (ne = firstE [idE c.node c.id, spE c.service, statE c.status, noteE c.note]) := Hne.out
  rw [← Hne.out]
  clear Hne
  obtain ⟨hs1, hs2, hs3, hs4⟩ := hs
  obtain ⟨nd, id, sv, st, nt, mk, ch⟩ := c
  simp only [Ck.v] at *
  obtain ⟨w2, Hw2⟩ : ∃ w2, Hid (w2 = (w.alloc (.cells #[.string nd, .string id, .string sv, .int .i64 st, .string nt, .int .u64 mk, .int .u64 ch] 45)).alloc (.cells #[.string ⟨#[]⟩, .string ⟨#[]⟩, .string ⟨#[]⟩, .int .i64 0, .string ⟨#[]⟩, .int .u64 0, .int .u64 0] 45)) := ⟨_, rfl⟩
  have hz : (w.alloc (.cells #[.string nd, .string id, .string sv, .int .i64 st, .string nt, .int .u64 mk, .int .u64 ch] 45)).heap.size = w.heap.size + 1 := size_new _ _
  have HX2 : Hid (Blk w2 w.heap.size #[.string nd, .string id, .string sv, .int .i64 st, .string nt, .int .u64 mk, .int .u64 ch] 45) := by rw [Hw2.out]; exact (Blk.new _ _ _).alloc _
  have HR2 : Hid (Blk w2 (w.heap.size + 1) #[.string ⟨#[]⟩, .string ⟨#[]⟩, .string ⟨#[]⟩, .int .i64 0, .string ⟨#[]⟩, .int .u64 0, .int .u64 0] 45) := by rw [Hw2.out, ← hz]; exact Blk.new _ _ _
  have HB2 : Hid (Below w.heap.size w w2) := by rw [Hw2.out]; exact (below_new w _).alloc (by rw [hz]; omega) _
  clear hz
  go_enter Tryz.func68, Tryz.ntmps68
  go_wp2_with fail
  rw [← Hw2.out]
  clear Hw2
  refine (fixId_calls nd id w2 hs1 hs2).mono ?_
  rintro e w3 ⟨rfl, hb3⟩
  have HX3 : Hid (Blk w3 w.heap.size #[.string nd, .string id, .string sv, .int .i64 st, .string nt, .int .u64 mk, .int .u64 ch] 45) := HX2.out.below hb3
  have HR3 : Hid (Blk w3 (w.heap.size + 1) #[.string ⟨#[]⟩, .string ⟨#[]⟩, .string ⟨#[]⟩, .int .i64 0, .string ⟨#[]⟩, .int .u64 0, .int .u64 0] 45) := HR2.out.below hb3
  have HB3 : Hid (Below w.heap.size w w3) := HB2.out.trans (hb3.mono HB2.out.size)
  have c2 := HX3.out.cell 2 rfl
  clear hb3 HX2 HR2 HB2
  go_wp2_with fail
  refine (fixSpokenFor_calls sv w3 hs3).mono ?_
  rintro e w4 ⟨rfl, hb4⟩
  have HX4 : Hid (Blk w4 w.heap.size #[.string nd, .string id, .string sv, .int .i64 st, .string nt, .int .u64 mk, .int .u64 ch] 45) := HX3.out.below hb4
  have HR4 : Hid (Blk w4 (w.heap.size + 1) #[.string ⟨#[]⟩, .string ⟨#[]⟩, .string ⟨#[]⟩, .int .i64 0, .string ⟨#[]⟩, .int .u64 0, .int .u64 0] 45) := HR3.out.below hb4
  have HB4 : Hid (Below w.heap.size w w4) := HB3.out.trans (hb4.mono HB3.out.size)
  have c3 := HX4.out.cell 3 rfl
  have c4 := HX4.out.cell 4 rfl
  clear hb4 HX3 HR3 HB3 c2
  go_wp2
  go_region_held3 (fun W => W.cell? ⟨w.heap.size, 3, none⟩ = some (.int .i64 st) ∧ W.cell? ⟨w.heap.size, 4, none⟩ = some (.string nt)) (first | (exact q6) | (exact ⟨c3, c4⟩) | go_keep)
    (first
      | (go_at_call 82
         refine (statusError_calls st _).mono ?_
         rintro e w5 ⟨rfl, hw5⟩
         subst w5)
      | (go_at_call 83
         refine (noteError_calls nt _ hs4).mono ?_
         rintro e w5 ⟨rfl, hw5⟩
         subst w5)
      | (go_at_call 77
         refine (first4D_calls (idE nd id) (spE sv) (statE st) (noteE nt) _ w4 rfl).mono ?_
         rintro e w6 ⟨he, hw6⟩
         rw [← HE.out] at he
         subst he
         have q6 : w6.cell? ⟨w.heap.size, 3, none⟩ = some (.int .i64 st) ∧ w6.cell? ⟨w.heap.size, 4, none⟩ = some (.string nt) := by rw [hw6]; exact ⟨(HX4.out.alloc _).cell 3 rfl, (HX4.out.alloc _).cell 4 rfl⟩
         have Hw6 : Hid (w6 = _) := hw6
         clear hw6))
  have hb6 : Below w4.heap.size w4 w6 := by rw [Hw6.out]; exact (below_new _ _).drew
  have HX6 : Hid (Blk w6 w.heap.size #[.string nd, .string id, .string sv, .int .i64 st, .string nt, .int .u64 mk, .int .u64 ch] 45) := HX4.out.below hb6
  have HR6 : Hid (Blk w6 (w.heap.size + 1) #[.string ⟨#[]⟩, .string ⟨#[]⟩, .string ⟨#[]⟩, .int .i64 0, .string ⟨#[]⟩, .int .u64 0, .int .u64 0] 45) := HR4.out.below hb6
  have HB6 : Hid (Below w.heap.size w w6) := HB4.out.trans (hb6.mono HB4.out.size)
  clear q6 Hw6 hb6 HX4 HR4 HB4 c3 c4
  by_cases h0 : ne = 0
  · obtain ⟨e1, e2, e3⟩ := HY.out h0
    have HQ : Hid (chkF ⟨nd, id, sv, st, nt, mk, ch⟩ = ⟨labT nd, labT id, spT sv, st, nt, 0, 0⟩) := e1
    have q : (ne != 0) = false := by simpa using h0
    have H0 : Hid (0 = ne) := h0.symm
    rw [e2, e3]
    clear e1 e2 e3 h0 HY HN
    have q0 : w6.drew.cell? ⟨w.heap.size, 3, none⟩ = some (.int .i64 st) ∧ w6.drew.cell? ⟨w.heap.size, 4, none⟩ = some (.string nt) := ⟨HX6.out.cell 3 rfl, HX6.out.cell 4 rfl⟩
    go_wp2
    obtain ⟨q01, q02⟩ := q0
    go_region_law
      (first
        | (go_simp
           go_at_call 78
           refine (rclone_calls nt w6.drew hs4).mono ?_
           rintro e w7 ⟨rfl, hb7⟩
           have hbb := below_undrew hb7
           clear hb7
           have q71 : w7.cell? ⟨w.heap.size, 3, none⟩ = some (.int .i64 st) := (HX6.out.below hbb).cell 3 rfl
           have q72 : w7.cell? ⟨w.heap.size, 4, none⟩ = some (.string nt) := (HX6.out.below hbb).cell 4 rfl
           have HR7 : Hid (Blk w7 (w.heap.size + 1) #[.string ⟨#[]⟩, .string ⟨#[]⟩, .string ⟨#[]⟩, .int .i64 0, .string ⟨#[]⟩, .int .u64 0, .int .u64 0] 45) := HR6.out.below hbb
           have HB7 : Hid (Below w.heap.size w w7) := HB6.out.trans (hbb.mono HB6.out.size)
           have r0 := HR7.out.cell 0 rfl
           have r1 := HR7.out.cell 1 rfl
           have r2 := HR7.out.cell 2 rfl
           have r3 := HR7.out.cell 3 rfl
           have r4 := HR7.out.cell 4 rfl
           have r5 := HR7.out.cell 5 rfl
           have r6 := HR7.out.cell 6 rfl
           have z := HR7.out.open
           clear hbb
           dsimp only))
    all_goals
      go_wp2
      exact ret_box (g := w.heap.size + 1) (e := .int .i64 0) rfl rfl rfl rfl (load_chk (putC_all (l := [.string (labT nd), .string (labT id), .string (spT sv), .int .i64 st, .string nt, .int .u64 0, .int .u64 0]) HR7.out rfl) rfl) ⟨by rw [HQ.out, H0.out], putC_below [.string (labT nd), .string (labT id), .string (spT sv), .int .i64 st, .string nt, .int .u64 0, .int .u64 0] w7 0 HB7.out (by omega)⟩
  · have HQ : Hid (chkF ⟨nd, id, sv, st, nt, mk, ch⟩ = chkZ) := HN.out h0
    have q : (ne != 0) = true := by simpa using h0
    have r0 := HR6.out.cell 0 rfl
    have r1 := HR6.out.cell 1 rfl
    have r2 := HR6.out.cell 2 rfl
    have r3 := HR6.out.cell 3 rfl
    have r4 := HR6.out.cell 4 rfl
    have r5 := HR6.out.cell 5 rfl
    have r6 := HR6.out.cell 6 rfl
    have z := HR6.out.open
    clear HY HN
    go_wp2
    exact ret_box (g := w.heap.size + 1) (e := .int .i64 ne) rfl rfl rfl rfl (load_chk (putC_all (l := [.string ⟨#[]⟩, .string ⟨#[]⟩, .string ⟨#[]⟩, .int .i64 0, .string ⟨#[]⟩, .int .u64 0, .int .u64 0]) HR6.out rfl) rfl) ⟨by rw [HQ.out]; rfl, putC_below [.string ⟨#[]⟩, .string ⟨#[]⟩, .string ⟨#[]⟩, .int .i64 0, .string ⟨#[]⟩, .int .u64 0, .int .u64 0] w6 0 HB6.out (by omega)⟩
end Go.Proofs.YthgcnmilaifkoaaGreatDoor

/- Layer 9 (records): operations, plain. -/
namespace Go.Proofs.YthgcnmilaifkoaaGreatDoor
open Go.RowKit
set_option linter.unusedVariables false

structure Opp where
 kind : Int
 node : Nd
 svc : Sp
 chk : Ck
 cas : Bool
 want : Int
def Opp.v (o : Opp) (t : Value) : Array Value := #[.int .i64 o.kind, .string o.node.name, .string o.node.addr, .int .u64 o.node.made, .int .u64 o.node.changed,
 .string o.svc.node, .string o.svc.id, .string o.svc.name, .int .i64 o.svc.port, t, .int .u64 o.svc.made, .int .u64 o.svc.changed,
 .string o.chk.node, .string o.chk.id, .string o.chk.service, .int .i64 o.chk.status, .string o.chk.note, .int .u64 o.chk.made, .int .u64 o.chk.changed, .bool o.cas, .int .u64 o.want]
def oppZ : Opp := ⟨0, nodeZ, svcZ, chkZ, false, 0⟩
def wantF (o : Opp) : Int := if o.cas then o.want else 0
/-- The error of an operation, and its normal form where there is none. -/
def oppE (o : Opp) : Int :=
 if o.kind = 1 then nodeE o.node else if o.kind = 2 then svcE o.svc else if o.kind = 3 then chkE o.chk else
 if o.kind = 4 then labE o.node.name else if o.kind = 5 then idE o.svc.node o.svc.id else if o.kind = 6 then idE o.chk.node o.chk.id else 96
def oppN (o : Opp) : Opp :=
 if o.kind = 1 then ⟨o.kind, fixN o.node, svcZ, chkZ, o.cas, wantF o⟩ else if o.kind = 2 then ⟨o.kind, nodeZ, svcF o.svc, chkZ, o.cas, wantF o⟩ else if o.kind = 3 then ⟨o.kind, nodeZ, svcZ, chkF o.chk, o.cas, wantF o⟩ else
 if o.kind = 4 then ⟨o.kind, ⟨labT o.node.name, ⟨#[]⟩, 0, 0⟩, svcZ, chkZ, o.cas, wantF o⟩ else if o.kind = 5 then ⟨o.kind, nodeZ, ⟨labT o.svc.node, labT o.svc.id, ⟨#[]⟩, 0, [], 0, 0⟩, chkZ, o.cas, wantF o⟩ else
 ⟨o.kind, nodeZ, svcZ, ⟨labT o.chk.node, labT o.chk.id, ⟨#[]⟩, 0, ⟨#[]⟩, 0, 0⟩, o.cas, wantF o⟩
def oppF (o : Opp) : Opp := if oppE o = 0 then oppN o else oppZ
structure Opp.small (o : Opp) : Prop where
 name : o.node.name.size ≤ 140737488351296
 addr : o.node.addr.size ≤ 140737488351296
 svc : o.svc.small
 chk : o.chk.small
/-- An operation is answered, its tags in memory of their own. -/
def OppA (w : World) (r : Opp) (x : Int) (e : Ending) (w' : World) : Prop := ∃ v, e = .returned (.tuple #[.agg (r.v v), .int .i64 x]) ∧ w'.ownsRow w.heap.size 9 1 v r.svc.tags.length (r.svc.tags.map Value.string) ∧ Below w.heap.size w w'
theorem info_op : (Tryz.prog.info? 47).map (·.size) = some 21 := by kernel_rfl
theorem load_op {w : World} {g : Nat} {cs : Array Value} (h : Blk w g cs 47) (hs : cs.size = 21) : (loadVar 47 ⟨g, 0, none⟩).run Tryz.prog w = .ok (.agg cs) w :=
 run_loadVar_row (P := Tryz.prog) w g 47 47 cs (0, 0) _ h Tryz.underlying47 rfl (by rw [info_op, hs])
theorem three_new (w : World) (o1 o2 o3 : Obj) : (((w.alloc o1).alloc o2).alloc o3).heap[w.heap.size]? = some o1 ∧ (((w.alloc o1).alloc o2).alloc o3).heap[w.heap.size + 1]? = some o2 ∧ (((w.alloc o1).alloc o2).alloc o3).heap[w.heap.size + 1 + 1]? = some o3 ∧
  Below w.heap.size w (((w.alloc o1).alloc o2).alloc o3) := ⟨(three_alloc w o1 o2 o3).1, (three_alloc w o1 o2 o3).2.1, (three_alloc w o1 o2 o3).2.2.1, (three_alloc w o1 o2 o3).2.2.2.1⟩
theorem row_putK {w : World} {B g : Nat} {e T : TypeId} {size : Nat} {v : Value} {n : Nat} {xs : List Value} {cs : Array Value} (hg : Blk w g cs T) (hT : T ≠ e) (h : w.ownsRow B e size v n xs) (l : List Value) (k : Nat) : (putC w g k l).ownsRow B e size v n xs := by
 refine ⟨h.1, ?_⟩
 rcases h.2 with h1 | ⟨g', cap, cur, h1, h2, h3, h4⟩
 ·exact .inl h1
 ·refine .inr ⟨g', cap, cur, h1, h2, putC_other (fun e' => ?_) l w k h3, h4⟩
  subst e'
  have hg' : w.heap[g']? = some (.cells cs T) := hg
  rw [h3] at hg'
  injection hg' with hg'
  injection hg' with _ hg'
  exact hT hg'.symm
end Go.Proofs.YthgcnmilaifkoaaGreatDoor

/- Layer 7 (rows): texts put in one after the other, and texts sorted, each once. -/
namespace Go.Proofs.YthgcnmilaifkoaaGreatDoor
open Go.RowKit
set_option linter.unusedVariables false

abbrev Bs := List UInt8
/-- The texts with k among them, as the document puts it. -/
def putR (k : Bs) : Bool → List Bs → List Bs
 | pl, [] => if pl then [] else [k]
 | pl, x :: l => (if !pl && !decide (x < k) then [k] else []) ++ ((if x = k then [] else [x]) ++ putR k (pl || !decide (x < k)) l)
def Rising (l : List Bs) : Prop := l.Pairwise (· < ·)
theorem bs_lt_trans {a b c : Bs} (h1 : a < b) (h2 : b < c) : a < c := List.lt_trans h1 h2
theorem bs_tri (a b : Bs) : a < b ∨ a = b ∨ b < a := by
 rcases Classical.em (a < b) with h | h
 ·exact .inl h
 ·rcases Classical.em (b < a) with h' | h'
  ·exact .inr (.inr h')
  ·exact .inr (.inl (List.le_antisymm (List.not_lt.1 h') (List.not_lt.1 h)))
theorem putR_true (k : Bs) : ∀ l : List Bs, (∀ x ∈ l, k ≤ x) → Rising l → putR k true l = l.filter (fun x => decide (x ≠ k))
 | [], _, _ => rfl
 | x :: l, h, hr => by
  have h2 := putR_true k l (fun y hy => h y (List.mem_cons_of_mem _ hy)) (List.Pairwise.of_cons hr)
  unfold putR
  rw [Bool.true_or, h2]
  by_cases hx : x = k <;> simp [hx]
theorem putR_mem (k : Bs) : ∀ (l : List Bs) (pl : Bool) (y : Bs), y ∈ putR k pl l → y = k ∨ (y ∈ l)
 | [], pl, y, h => by
  unfold putR at h
  cases pl
  ·simp at h; exact .inl h
  ·simp at h
 | x :: l, pl, y, h => by
  unfold putR at h
  rcases List.mem_append.1 h with h | h
  ·split at h
   ·simp at h; exact .inl h
   ·simp at h
  ·rcases List.mem_append.1 h with h | h
   ·split at h
    ·simp at h
    ·simp at h; exact .inr (by simp [h])
   ·rcases putR_mem k l _ y h with h | h
    ·exact .inl h
    ·exact .inr (List.mem_cons_of_mem _ h)
theorem putR_keeps (k : Bs) : ∀ (l : List Bs) (pl : Bool) (y : Bs), y ∈ l → y ≠ k → y ∈ putR k pl l
 | [], pl, y, h, _ => by simp at h
 | x :: l, pl, y, h, hn => by
  unfold putR
  rcases List.mem_cons.1 h with rfl | h
  ·simp [hn]
  ·have := putR_keeps k l (pl || !decide (x < k)) y h hn
   simp only [List.mem_append]
   exact .inr (.inr this)
theorem putR_has (k : Bs) : ∀ (l : List Bs), k ∈ putR k false l
 | [] => by simp [putR]
 | x :: l => by
  unfold putR
  by_cases h : x < k
  ·have := putR_has k l
   simp only [List.mem_append]
   exact .inr (.inr (by simpa [h] using this))
  ·simp [h]
theorem putR_after (k : Bs) : ∀ (l : List Bs), (∀ x ∈ l, k ≤ x) → Rising l → Rising (putR k true l) ∧ ∀ y ∈ putR k true l, k < y := by
 intro l h hr
 rw [putR_true k l h hr]
 refine ⟨List.Pairwise.filter _ hr, fun y hy => ?_⟩
 rw [List.mem_filter] at hy
 have h1 := h y hy.1
 have h2 : y ≠ k := by simpa using hy.2
 rcases bs_tri k y with h3 | h3 | h3
 ·exact h3
 ·exact absurd h3.symm h2
 ·exact absurd h3 (List.not_lt.2 h1)
theorem putR_rising (k : Bs) : ∀ (l : List Bs), Rising l → Rising (putR k false l)
 | [], _ => by simp [putR, Rising]
 | x :: l, hr => by
  have hr2 : Rising l := List.Pairwise.of_cons hr
  have hx : ∀ y ∈ l, x < y := fun y hy => List.rel_of_pairwise_cons hr hy
  unfold putR
  by_cases h : x < k
  ·have ih := putR_rising k l hr2
   have hne : x ≠ k := fun e => by subst e; exact List.lt_irrefl x h
   simp only [h, hne, decide_true, Bool.not_true, Bool.and_false, Bool.or_false, if_false, List.nil_append, Bool.false_eq_true]
   show Rising (x :: putR k false l)
   refine List.Pairwise.cons (fun y hy => ?_) ih
   rcases putR_mem k l false y hy with rfl | hy
   ·exact h
   ·exact hx y hy
  ·have hk : k ≤ x := List.not_lt.1 h
   have ha : ∀ y ∈ l, k ≤ y := fun y hy => List.not_lt.1 fun hl => h (bs_lt_trans (hx y hy) hl)
   obtain ⟨h1, h2⟩ := putR_after k l ha hr2
   simp only [h, decide_false, Bool.not_false, Bool.and_true, Bool.or_true, if_true]
   by_cases hxk : x = k
   ·simp only [hxk, if_true, List.nil_append]
    exact List.Pairwise.cons h2 h1
   ·simp only [hxk, if_false]
    have hlt : k < x := by
     rcases bs_tri k x with h3 | h3 | h3
     ·exact h3
     ·exact absurd h3.symm hxk
     ·exact absurd h3 h
    refine List.Pairwise.cons (fun y hy => ?_) (List.Pairwise.cons (fun y hy => ?_) h1)
    ·rcases List.mem_cons.1 hy with rfl | hy
     ·exact hlt
     ·exact h2 y hy
    ·rcases putR_mem k l true y hy with rfl | hy'
     ·exact absurd (h2 y hy) (List.lt_irrefl y)
     ·exact hx y hy'
/-- All of them, one after the other. -/
def putAll (ks : List Bs) : List Bs := ks.foldl (fun l k => putR k false l) []
theorem putAll_snoc (ks : List Bs) (k : Bs) : putAll (ks ++ [k]) = putR k false (putAll ks) := by
 unfold putAll
 rw [List.foldl_append]
 rfl
theorem foldl_rising (ks : List Bs) : ∀ l : List Bs, Rising l → Rising (ks.foldl (fun l k => putR k false l) l) ∧ ∀ y, y ∈ ks.foldl (fun l k => putR k false l) l ↔ y ∈ l ∨ y ∈ ks := by
 induction ks with
 | nil => intro l hl; exact ⟨hl, fun y => by simp⟩
 | cons k ks ih =>
  intro l hl
  obtain ⟨h1, h2⟩ := ih (putR k false l) (putR_rising k l hl)
  refine ⟨h1, fun y => ?_⟩
  rw [List.foldl_cons, h2]
  constructor
  ·rintro (h | h)
   ·rcases putR_mem k l false y h with rfl | h
    ·simp
    ·simp [h]
   ·simp [h]
  ·rintro (h | h)
   ·by_cases e : y = k
    ·subst e; exact .inl (putR_has _ _)
    ·exact .inl (putR_keeps k l false y h e)
   ·rcases List.mem_cons.1 h with rfl | h
    ·exact .inl (putR_has _ _)
    ·exact .inr h
theorem putAll_rising (ks : List Bs) : Rising (putAll ks) := (foldl_rising ks [] List.Pairwise.nil).1
theorem putAll_mem (ks : List Bs) (y : Bs) : y ∈ putAll ks ↔ y ∈ ks := by
 have := (foldl_rising ks [] List.Pairwise.nil).2 y
 unfold putAll
 simpa using this
theorem rising_uniq {a b : List Bs} (ha : Rising a) (hb : Rising b) (h : ∀ y, y ∈ a ↔ y ∈ b) : a = b := by
 have na : a.Nodup := ha.imp fun h e => by subst e; exact List.lt_irrefl _ h
 have nb : b.Nodup := hb.imp fun h e => by subst e; exact List.lt_irrefl _ h
 refine List.Perm.eq_of_pairwise (le := (· < ·)) (fun x y _ _ h1 h2 => absurd (bs_lt_trans h1 h2) (List.lt_irrefl _)) ha hb ((List.perm_ext_iff_of_nodup na nb).2 h)
open Lib in
theorem compact_rising (zs : List Bs) (h : zs.Pairwise (· ≤ ·)) : Rising (compact zs) := by
 unfold Rising compact compactUpTo
 rw [List.pairwise_map]
 have h0 : (List.range zs.length).Pairwise (· < ·) := List.pairwise_lt_range
 have hle : ∀ i j, i ≤ j → j < zs.length → zs.toArray[i]! ≤ zs.toArray[j]! := by
  intro i j hij hj
  rw [getElem!_pos zs.toArray i (by simpa using (by omega : i < zs.length)), getElem!_pos zs.toArray j (by simpa using hj)]
  simp only [List.getElem_toArray]
  rcases Nat.lt_or_ge i j with h' | h'
  ·exact List.pairwise_iff_getElem.1 h i j _ _ h'
  ·have : i = j := by omega
   subst this
   exact List.le_refl _
 have hm : ∀ x ∈ List.filter (keeps zs.toArray) (List.range zs.length), x < zs.length ∧ keeps zs.toArray x = true := by
  intro x hx
  rw [List.mem_filter, List.mem_range] at hx
  exact hx
 refine List.Pairwise.imp_of_mem (fun {a b} ha hb hab => ?_) (List.Pairwise.filter _ h0)
 obtain ⟨hb1, hb2⟩ := hm b hb
 unfold keeps at hb2
 rw [decide_eq_true_eq] at hb2
 have hb3 : zs.toArray[b]! ≠ zs.toArray[b - 1]! := by
  rcases hb2 with e | e
  ·omega
  ·exact e
 have h1 := hle a (b - 1) (by omega) (by omega)
 have h2 := hle (b - 1) b (by omega) hb1
 rcases bs_tri zs.toArray[a]! zs.toArray[b]! with h3 | h3 | h3
 ·exact h3
 ·refine absurd ?_ hb3
  refine List.le_antisymm ?_ h2
  rw [← h3]; exact h1
 ·exact absurd h3 (List.not_lt.2 (List.le_trans h1 h2))
open Lib in
theorem compact_mem (zs : List Bs) (y : Bs) : y ∈ compact zs ↔ y ∈ zs := by
 unfold compact compactUpTo
 constructor
 ·intro h
  obtain ⟨i, hi, rfl⟩ := List.mem_map.1 h
  rw [List.mem_filter, List.mem_range] at hi
  rw [getElem!_pos zs.toArray i (by simpa using hi.1)]
  simp only [List.getElem_toArray]
  exact List.getElem_mem _
 ·intro h
  obtain ⟨i, hi, rfl⟩ := List.getElem_of_mem h
  clear h
  induction i with
  | zero =>
   refine List.mem_map.2 ⟨0, ?_, ?_⟩
   ·rw [List.mem_filter, List.mem_range]; exact ⟨hi, by simp [keeps]⟩
   ·rw [getElem!_pos zs.toArray 0 (by simpa using hi)]; simp
  | succ i ih =>
   by_cases e : zs[i + 1] = zs[i]
   ·rw [e]; exact ih (by omega)
   ·refine List.mem_map.2 ⟨i + 1, ?_, ?_⟩
    ·rw [List.mem_filter, List.mem_range]
     refine ⟨hi, ?_⟩
     unfold keeps
     rw [decide_eq_true_eq]
     right
     rw [getElem!_pos zs.toArray (i + 1) (by simpa using hi), getElem!_pos zs.toArray (i + 1 - 1) (by simp; omega)]
     simpa using e
    ·rw [getElem!_pos zs.toArray (i + 1) (by simpa using hi)]; simp
/-- Sorted and each once is what is put in one after the other. -/
theorem compact_putAll (ks : List Bs) : Lib.compact (ks.mergeSort fun x y => decide (x ≤ y)) = putAll ks := by
 refine rising_uniq (compact_rising _ ?_) (putAll_rising ks) (fun y => ?_)
 ·have := List.pairwise_mergeSort (le := fun (x y : Bs) => decide (x ≤ y)) (fun a b c h1 h2 => by simp only [decide_eq_true_eq] at *; exact List.le_trans h1 h2) (fun a b => by simp only [Bool.or_eq_true, decide_eq_true_eq]; exact List.le_total a b) ks
  exact this.imp fun h => by simpa using h
 ·rw [compact_mem, List.mem_mergeSort, putAll_mem]
end Go.Proofs.YthgcnmilaifkoaaGreatDoor
