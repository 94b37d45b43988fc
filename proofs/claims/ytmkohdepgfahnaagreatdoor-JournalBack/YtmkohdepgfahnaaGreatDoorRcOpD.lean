import Derived.Test.YtmkohdepgfahnaaGreatDoorRwLowR
import Derived.Test.YtmkohdepgfahnaaGreatDoorRcFix0
import Derived.Deep.RegionHeld3
import Derived.Test.YtmkohdepgfahnaaGreatDoorRwSort
import Derived.Test.YtmkohdepgfahnaaGreatDoorRcFixS
/- Layer 9 (records): FixCheck. -/
namespace Go.Proofs.YtmkohdepgfahnaaGreatDoor
open Go.RowKit
set_option linter.unusedVariables false

structure Ck where
  node : ByteArray
  id : ByteArray
  service : ByteArray
  status : Int
  note : ByteArray
  made : Int
  changed : Int
def Ck.v (c : Ck) : Array Value := #[.string c.node, .string c.id, .string c.service, .int .i64 c.status, .string c.note, .int .u64 c.made, .int .u64 c.changed]
def chkZ : Ck := ⟨⟨#[]⟩, ⟨#[]⟩, ⟨#[]⟩, 0, ⟨#[]⟩, 0, 0⟩
def chkE (c : Ck) : Int := firstE [idE c.node c.id, spE c.service, statE c.status, noteE c.note]
def chkF (c : Ck) : Ck := if chkE c = 0 then ⟨labT c.node, labT c.id, spT c.service, c.status, c.note, 0, 0⟩ else chkZ
theorem chk_yes {c : Ck} (h : chkE c = 0) : chkF c = ⟨labT c.node, labT c.id, spT c.service, c.status, c.note, 0, 0⟩ := if_pos h
theorem chk_no {c : Ck} (h : ¬ chkE c = 0) : chkF c = chkZ := if_neg h
theorem chk_parts {c : Ck} (h : chkE c = 0) : idE c.node c.id = 0 ∧ spE c.service = 0 ∧ statE c.status = 0 ∧ noteE c.note = 0 := by
  unfold chkE at h
  simp only [firstE, orE] at h
  split at h
  · next h1 =>
    split at h
    · next h2 =>
      split at h
      · next h3 =>
        split at h
        · next h4 => exact ⟨h1, h2, h3, h4⟩
        · next h4 => exact absurd h h4
      · next h3 => exact absurd h h3
    · next h2 => exact absurd h h2
  · next h1 => exact absurd h h1
structure Ck.small (c : Ck) : Prop where
  node : c.node.size ≤ 140737488351296
  id : c.id.size ≤ 140737488351296
  service : c.service.size ≤ 140737488351296
  note : c.note.size ≤ 140737488351296
theorem info_chk : (Tryz.prog.info? 53).map (·.size) = some 7 := by kernel_rfl
theorem load_chk {w : World} {g : Nat} {cs : Array Value} (h : Blk w g cs 53) (hs : cs.size = 7) : (loadVar 53 ⟨g, 0, none⟩).run Tryz.prog w = .ok (.agg cs) w :=
  run_loadVar_row (P := Tryz.prog) w g 53 53 cs (0, 0) _ h Tryz.underlying53 rfl (by rw [info_chk, hs])

set_option maxRecDepth 100000 in
set_option maxHeartbeats 4000000 in
theorem fixCheck_calls (c : Ck) (w : World) (hs : c.small) :
    Calls Tryz.prog 69 #[.agg c.v] w fun e w' => e = .returned (.tuple #[.agg (chkF c).v, .int .i64 (chkE c)]) ∧ Below w.heap.size w w' := by
  obtain ⟨ne, Hne⟩ : ∃ ne, Hid (ne = chkE c) := ⟨_, rfl⟩
  have HY : Hid (ne = 0 → chkF c = ⟨labT c.node, labT c.id, spT c.service, c.status, c.note, 0, 0⟩ ∧ idT c.node c.id c.node = labT c.node ∧ idT c.node c.id c.id = labT c.id) := fun h => by
    have h : chkE c = 0 := by rw [← Hne.out]; exact h
    exact ⟨chk_yes h, id_yes (chk_parts h).1 _, id_yes (chk_parts h).1 _⟩
  have HN : Hid (¬ ne = 0 → chkF c = chkZ) := fun h => chk_no (by rw [← Hne.out]; exact h)
  have HE : Hid (ne = firstE [idE c.node c.id, spE c.service, statE c.status, noteE c.note]) := Hne.out
  rw [← Hne.out]
  clear Hne
  obtain ⟨hs1, hs2, hs3, hs4⟩ := hs
  obtain ⟨nd, id, sv, st, nt, mk, ch⟩ := c
  simp only [Ck.v] at *
  obtain ⟨w2, Hw2⟩ : ∃ w2, Hid (w2 = (w.alloc (.cells #[.string nd, .string id, .string sv, .int .i64 st, .string nt, .int .u64 mk, .int .u64 ch] 53)).alloc (.cells #[.string ⟨#[]⟩, .string ⟨#[]⟩, .string ⟨#[]⟩, .int .i64 0, .string ⟨#[]⟩, .int .u64 0, .int .u64 0] 53)) := ⟨_, rfl⟩
  have hz : (w.alloc (.cells #[.string nd, .string id, .string sv, .int .i64 st, .string nt, .int .u64 mk, .int .u64 ch] 53)).heap.size = w.heap.size + 1 := size_new _ _
  have HX2 : Hid (Blk w2 w.heap.size #[.string nd, .string id, .string sv, .int .i64 st, .string nt, .int .u64 mk, .int .u64 ch] 53) := by rw [Hw2.out]; exact (Blk.new _ _ _).alloc _
  have HR2 : Hid (Blk w2 (w.heap.size + 1) #[.string ⟨#[]⟩, .string ⟨#[]⟩, .string ⟨#[]⟩, .int .i64 0, .string ⟨#[]⟩, .int .u64 0, .int .u64 0] 53) := by rw [Hw2.out, ← hz]; exact Blk.new _ _ _
  have HB2 : Hid (Below w.heap.size w w2) := by rw [Hw2.out]; exact (below_new w _).alloc (by rw [hz]; omega) _
  clear hz
  go_enter Tryz.func69, Tryz.ntmps69
  go_wp2_with fail
  rw [← Hw2.out]
  clear Hw2
  refine (fixId_calls nd id w2 hs1 hs2).mono ?_
  rintro e w3 ⟨rfl, hb3⟩
  have HX3 : Hid (Blk w3 w.heap.size #[.string nd, .string id, .string sv, .int .i64 st, .string nt, .int .u64 mk, .int .u64 ch] 53) := HX2.out.below hb3
  have HR3 : Hid (Blk w3 (w.heap.size + 1) #[.string ⟨#[]⟩, .string ⟨#[]⟩, .string ⟨#[]⟩, .int .i64 0, .string ⟨#[]⟩, .int .u64 0, .int .u64 0] 53) := HR2.out.below hb3
  have HB3 : Hid (Below w.heap.size w w3) := HB2.out.trans (hb3.mono HB2.out.size)
  have c2 := HX3.out.cell 2 rfl
  clear hb3 HX2 HR2 HB2
  go_wp2_with fail
  refine (fixSpokenFor_calls sv w3 hs3).mono ?_
  rintro e w4 ⟨rfl, hb4⟩
  have HX4 : Hid (Blk w4 w.heap.size #[.string nd, .string id, .string sv, .int .i64 st, .string nt, .int .u64 mk, .int .u64 ch] 53) := HX3.out.below hb4
  have HR4 : Hid (Blk w4 (w.heap.size + 1) #[.string ⟨#[]⟩, .string ⟨#[]⟩, .string ⟨#[]⟩, .int .i64 0, .string ⟨#[]⟩, .int .u64 0, .int .u64 0] 53) := HR3.out.below hb4
  have HB4 : Hid (Below w.heap.size w w4) := HB3.out.trans (hb4.mono HB3.out.size)
  have c3 := HX4.out.cell 3 rfl
  have c4 := HX4.out.cell 4 rfl
  clear hb4 HX3 HR3 HB3 c2
  go_wp2
  go_region_held3 (fun W => W.cell? ⟨w.heap.size, 3, none⟩ = some (.int .i64 st) ∧ W.cell? ⟨w.heap.size, 4, none⟩ = some (.string nt)) (first | (exact q6) | (exact ⟨c3, c4⟩) | go_keep)
    (first
      | (go_at_call 82
         refine (statusError_calls st _).mono ?_
         rintro e w5 ⟨rfl, hw5⟩
         subst w5)
      | (go_at_call 83
         refine (noteError_calls nt _ hs4).mono ?_
         rintro e w5 ⟨rfl, hw5⟩
         subst w5)
      | (go_at_call 77
         refine (first4D_calls (idE nd id) (spE sv) (statE st) (noteE nt) _ w4 rfl).mono ?_
         rintro e w6 ⟨he, hw6⟩
         rw [← HE.out] at he
         subst he
         have q6 : w6.cell? ⟨w.heap.size, 3, none⟩ = some (.int .i64 st) ∧ w6.cell? ⟨w.heap.size, 4, none⟩ = some (.string nt) := by rw [hw6]; exact ⟨(HX4.out.alloc _).cell 3 rfl, (HX4.out.alloc _).cell 4 rfl⟩
         have Hw6 : Hid (w6 = _) := hw6
         clear hw6))
  have hb6 : Below w4.heap.size w4 w6 := by rw [Hw6.out]; exact (below_new _ _).drew
  have HX6 : Hid (Blk w6 w.heap.size #[.string nd, .string id, .string sv, .int .i64 st, .string nt, .int .u64 mk, .int .u64 ch] 53) := HX4.out.below hb6
  have HR6 : Hid (Blk w6 (w.heap.size + 1) #[.string ⟨#[]⟩, .string ⟨#[]⟩, .string ⟨#[]⟩, .int .i64 0, .string ⟨#[]⟩, .int .u64 0, .int .u64 0] 53) := HR4.out.below hb6
  have HB6 : Hid (Below w.heap.size w w6) := HB4.out.trans (hb6.mono HB4.out.size)
  clear q6 Hw6 hb6 HX4 HR4 HB4 c3 c4
  by_cases h0 : ne = 0
  · obtain ⟨e1, e2, e3⟩ := HY.out h0
    have HQ : Hid (chkF ⟨nd, id, sv, st, nt, mk, ch⟩ = ⟨labT nd, labT id, spT sv, st, nt, 0, 0⟩) := e1
    have q : (ne != 0) = false := by simpa using h0
    have H0 : Hid (0 = ne) := h0.symm
    rw [e2, e3]
    clear e1 e2 e3 h0 HY HN
    have q0 : w6.drew.cell? ⟨w.heap.size, 3, none⟩ = some (.int .i64 st) ∧ w6.drew.cell? ⟨w.heap.size, 4, none⟩ = some (.string nt) := ⟨HX6.out.cell 3 rfl, HX6.out.cell 4 rfl⟩
    go_wp2
    obtain ⟨q01, q02⟩ := q0
    go_region_law
      (first
        | (go_simp
           go_at_call 78
           refine (rclone_calls nt w6.drew hs4).mono ?_
           rintro e w7 ⟨rfl, hb7⟩
           have hbb := below_undrew hb7
           clear hb7
           have q71 : w7.cell? ⟨w.heap.size, 3, none⟩ = some (.int .i64 st) := (HX6.out.below hbb).cell 3 rfl
           have q72 : w7.cell? ⟨w.heap.size, 4, none⟩ = some (.string nt) := (HX6.out.below hbb).cell 4 rfl
           have HR7 : Hid (Blk w7 (w.heap.size + 1) #[.string ⟨#[]⟩, .string ⟨#[]⟩, .string ⟨#[]⟩, .int .i64 0, .string ⟨#[]⟩, .int .u64 0, .int .u64 0] 53) := HR6.out.below hbb
           have HB7 : Hid (Below w.heap.size w w7) := HB6.out.trans (hbb.mono HB6.out.size)
           have r0 := HR7.out.cell 0 rfl
           have r1 := HR7.out.cell 1 rfl
           have r2 := HR7.out.cell 2 rfl
           have r3 := HR7.out.cell 3 rfl
           have r4 := HR7.out.cell 4 rfl
           have r5 := HR7.out.cell 5 rfl
           have r6 := HR7.out.cell 6 rfl
           have z := HR7.out.open
           clear hbb
           dsimp only))
    all_goals
      go_wp2
      exact ret_box (g := w.heap.size + 1) (e := .int .i64 0) rfl rfl rfl rfl (load_chk (putC_all (l := [.string (labT nd), .string (labT id), .string (spT sv), .int .i64 st, .string nt, .int .u64 0, .int .u64 0]) HR7.out rfl) rfl) ⟨by rw [HQ.out, H0.out], putC_below [.string (labT nd), .string (labT id), .string (spT sv), .int .i64 st, .string nt, .int .u64 0, .int .u64 0] w7 0 HB7.out (by omega)⟩
  · have HQ : Hid (chkF ⟨nd, id, sv, st, nt, mk, ch⟩ = chkZ) := HN.out h0
    have q : (ne != 0) = true := by simpa using h0
    have r0 := HR6.out.cell 0 rfl
    have r1 := HR6.out.cell 1 rfl
    have r2 := HR6.out.cell 2 rfl
    have r3 := HR6.out.cell 3 rfl
    have r4 := HR6.out.cell 4 rfl
    have r5 := HR6.out.cell 5 rfl
    have r6 := HR6.out.cell 6 rfl
    have z := HR6.out.open
    clear HY HN
    go_wp2
    exact ret_box (g := w.heap.size + 1) (e := .int .i64 ne) rfl rfl rfl rfl (load_chk (putC_all (l := [.string ⟨#[]⟩, .string ⟨#[]⟩, .string ⟨#[]⟩, .int .i64 0, .string ⟨#[]⟩, .int .u64 0, .int .u64 0]) HR6.out rfl) rfl) ⟨by rw [HQ.out]; rfl, putC_below [.string ⟨#[]⟩, .string ⟨#[]⟩, .string ⟨#[]⟩, .int .i64 0, .string ⟨#[]⟩, .int .u64 0, .int .u64 0] w6 0 HB6.out (by omega)⟩
end Go.Proofs.YtmkohdepgfahnaaGreatDoor

/- Layer 9 (records): operations, plain. -/
namespace Go.Proofs.YtmkohdepgfahnaaGreatDoor
open Go.RowKit
set_option linter.unusedVariables false

structure Opp where
  kind : Int
  node : Nd
  svc : Sp
  chk : Ck
  cas : Bool
  want : Int
def Opp.v (o : Opp) (t : Value) : Array Value := #[.int .i64 o.kind, .string o.node.name, .string o.node.addr, .int .u64 o.node.made, .int .u64 o.node.changed,
  .string o.svc.node, .string o.svc.id, .string o.svc.name, .int .i64 o.svc.port, t, .int .u64 o.svc.made, .int .u64 o.svc.changed,
  .string o.chk.node, .string o.chk.id, .string o.chk.service, .int .i64 o.chk.status, .string o.chk.note, .int .u64 o.chk.made, .int .u64 o.chk.changed, .bool o.cas, .int .u64 o.want]
def oppZ : Opp := ⟨0, nodeZ, svcZ, chkZ, false, 0⟩
def wantF (o : Opp) : Int := if o.cas then o.want else 0
/-- The error of an operation, and its normal form where there is none. -/
def oppE (o : Opp) : Int :=
  if o.kind = 1 then nodeE o.node else if o.kind = 2 then svcE o.svc else if o.kind = 3 then chkE o.chk else
  if o.kind = 4 then labE o.node.name else if o.kind = 5 then idE o.svc.node o.svc.id else if o.kind = 6 then idE o.chk.node o.chk.id else 96
def oppN (o : Opp) : Opp :=
  if o.kind = 1 then ⟨o.kind, fixN o.node, svcZ, chkZ, o.cas, wantF o⟩ else if o.kind = 2 then ⟨o.kind, nodeZ, svcF o.svc, chkZ, o.cas, wantF o⟩ else if o.kind = 3 then ⟨o.kind, nodeZ, svcZ, chkF o.chk, o.cas, wantF o⟩ else
  if o.kind = 4 then ⟨o.kind, ⟨labT o.node.name, ⟨#[]⟩, 0, 0⟩, svcZ, chkZ, o.cas, wantF o⟩ else if o.kind = 5 then ⟨o.kind, nodeZ, ⟨labT o.svc.node, labT o.svc.id, ⟨#[]⟩, 0, [], 0, 0⟩, chkZ, o.cas, wantF o⟩ else
  ⟨o.kind, nodeZ, svcZ, ⟨labT o.chk.node, labT o.chk.id, ⟨#[]⟩, 0, ⟨#[]⟩, 0, 0⟩, o.cas, wantF o⟩
def oppF (o : Opp) : Opp := if oppE o = 0 then oppN o else oppZ
structure Opp.small (o : Opp) : Prop where
  name : o.node.name.size ≤ 140737488351296
  addr : o.node.addr.size ≤ 140737488351296
  svc : o.svc.small
  chk : o.chk.small
/-- An operation is answered, its tags in memory of their own. -/
def OppA (w : World) (r : Opp) (x : Int) (e : Ending) (w' : World) : Prop := ∃ v, e = .returned (.tuple #[.agg (r.v v), .int .i64 x]) ∧ w'.ownsRow w.heap.size 9 1 v r.svc.tags.length (r.svc.tags.map Value.string) ∧ Below w.heap.size w w'
theorem info_op : (Tryz.prog.info? 55).map (·.size) = some 21 := by kernel_rfl
theorem load_op {w : World} {g : Nat} {cs : Array Value} (h : Blk w g cs 55) (hs : cs.size = 21) : (loadVar 55 ⟨g, 0, none⟩).run Tryz.prog w = .ok (.agg cs) w :=
  run_loadVar_row (P := Tryz.prog) w g 55 55 cs (0, 0) _ h Tryz.underlying55 rfl (by rw [info_op, hs])
theorem three_new (w : World) (o1 o2 o3 : Obj) : (((w.alloc o1).alloc o2).alloc o3).heap[w.heap.size]? = some o1 ∧ (((w.alloc o1).alloc o2).alloc o3).heap[w.heap.size + 1]? = some o2 ∧ (((w.alloc o1).alloc o2).alloc o3).heap[w.heap.size + 1 + 1]? = some o3 ∧
    Below w.heap.size w (((w.alloc o1).alloc o2).alloc o3) := ⟨(three_alloc w o1 o2 o3).1, (three_alloc w o1 o2 o3).2.1, (three_alloc w o1 o2 o3).2.2.1, (three_alloc w o1 o2 o3).2.2.2.1⟩
theorem row_putK {w : World} {B g : Nat} {e T : TypeId} {size : Nat} {v : Value} {n : Nat} {xs : List Value} {cs : Array Value} (hg : Blk w g cs T) (hT : T ≠ e) (h : w.ownsRow B e size v n xs) (l : List Value) (k : Nat) : (putC w g k l).ownsRow B e size v n xs := by
  refine ⟨h.1, ?_⟩
  rcases h.2 with h1 | ⟨g', cap, cur, h1, h2, h3, h4⟩
  · exact .inl h1
  · refine .inr ⟨g', cap, cur, h1, h2, putC_other (fun e' => ?_) l w k h3, h4⟩
    subst e'
    have hg' : w.heap[g']? = some (.cells cs T) := hg
    rw [h3] at hg'
    injection hg' with hg'
    injection hg' with _ hg'
    exact hT hg'.symm
end Go.Proofs.YtmkohdepgfahnaaGreatDoor
