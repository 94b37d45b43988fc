import Derived.Test.YtieonnnlhhdfpaaGreatDoorRcLabel
import Derived.Test.YtieonnnlhhdfpaaGreatDoorRcSplit
import Derived.Deep.RegionHeld3
import Derived.Test.YtieonnnlhhdfpaaGreatDoorRwSort
import Derived.Test.YtieonnnlhhdfpaaGreatDoorRcFixS
import Derived.Test.YtieonnnlhhdfpaaGreatDoorJNum
import Derived.Lib.AppendStr
/- Layer 9 (records): FixCheck. -/
namespace Go.Proofs.YtieonnnlhhdfpaaGreatDoor
open Go.RowKit
set_option linter.unusedVariables false

structure Ck where
  node : ByteArray
  id : ByteArray
  service : ByteArray
  status : Int
  note : ByteArray
  made : Int
  changed : Int
def Ck.v (c : Ck) : Array Value := #[.string c.node, .string c.id, .string c.service, .int .i64 c.status, .string c.note, .int .u64 c.made, .int .u64 c.changed]
def chkZ : Ck := ⟨⟨#[]⟩, ⟨#[]⟩, ⟨#[]⟩, 0, ⟨#[]⟩, 0, 0⟩
def chkE (c : Ck) : Int := firstE [idE c.node c.id, spE c.service, statE c.status, noteE c.note]
def chkF (c : Ck) : Ck := if chkE c = 0 then ⟨labT c.node, labT c.id, spT c.service, c.status, c.note, 0, 0⟩ else chkZ
theorem chk_yes {c : Ck} (h : chkE c = 0) : chkF c = ⟨labT c.node, labT c.id, spT c.service, c.status, c.note, 0, 0⟩ := if_pos h
theorem chk_no {c : Ck} (h : ¬ chkE c = 0) : chkF c = chkZ := if_neg h
theorem chk_parts {c : Ck} (h : chkE c = 0) : idE c.node c.id = 0 ∧ spE c.service = 0 ∧ statE c.status = 0 ∧ noteE c.note = 0 := by
  unfold chkE at h
  simp only [firstE, orE] at h
  split at h
  · next h1 =>
    split at h
    · next h2 =>
      split at h
      · next h3 =>
        split at h
        · next h4 => exact ⟨h1, h2, h3, h4⟩
        · next h4 => exact absurd h h4
      · next h3 => exact absurd h h3
    · next h2 => exact absurd h h2
  · next h1 => exact absurd h h1
structure Ck.small (c : Ck) : Prop where
  node : c.node.size ≤ 140737488351296
  id : c.id.size ≤ 140737488351296
  service : c.service.size ≤ 140737488351296
  note : c.note.size ≤ 140737488351296
theorem info_chk : (Tryz.prog.info? 56).map (·.size) = some 7 := by kernel_rfl
theorem load_chk {w : World} {g : Nat} {cs : Array Value} (h : Blk w g cs 56) (hs : cs.size = 7) : (loadVar 56 ⟨g, 0, none⟩).run Tryz.prog w = .ok (.agg cs) w :=
  run_loadVar_row (P := Tryz.prog) w g 56 56 cs (0, 0) _ h Tryz.underlying56 rfl (by rw [info_chk, hs])

set_option maxRecDepth 100000 in
set_option maxHeartbeats 4000000 in
theorem fixCheck_calls (c : Ck) (w : World) (hs : c.small) :
    Calls Tryz.prog 76 #[.agg c.v] w fun e w' => e = .returned (.tuple #[.agg (chkF c).v, .int .i64 (chkE c)]) ∧ Below w.heap.size w w' := by
  obtain ⟨ne, Hne⟩ : ∃ ne, Hid (ne = chkE c) := ⟨_, rfl⟩
  have HY : Hid (ne = 0 → chkF c = ⟨labT c.node, labT c.id, spT c.service, c.status, c.note, 0, 0⟩ ∧ idT c.node c.id c.node = labT c.node ∧ idT c.node c.id c.id = labT c.id) := fun h => by
    have h : chkE c = 0 := by rw [← Hne.out]; exact h
    exact ⟨chk_yes h, id_yes (chk_parts h).1 _, id_yes (chk_parts h).1 _⟩
  have HN : Hid (¬ ne = 0 → chkF c = chkZ) := fun h => chk_no (by rw [← Hne.out]; exact h)
  have HE : Hid (ne = firstE [idE c.node c.id, spE c.service, statE c.status, noteE c.note]) := Hne.out
  rw [← Hne.out]
  clear Hne
  obtain ⟨hs1, hs2, hs3, hs4⟩ := hs
  obtain ⟨nd, id, sv, st, nt, mk, ch⟩ := c
  simp only [Ck.v] at *
  obtain ⟨w2, Hw2⟩ : ∃ w2, Hid (w2 = (w.alloc (.cells #[.string nd, .string id, .string sv, .int .i64 st, .string nt, .int .u64 mk, .int .u64 ch] 56)).alloc (.cells #[.string ⟨#[]⟩, .string ⟨#[]⟩, .string ⟨#[]⟩, .int .i64 0, .string ⟨#[]⟩, .int .u64 0, .int .u64 0] 56)) := ⟨_, rfl⟩
  have hz : (w.alloc (.cells #[.string nd, .string id, .string sv, .int .i64 st, .string nt, .int .u64 mk, .int .u64 ch] 56)).heap.size = w.heap.size + 1 := size_new _ _
  have HX2 : Hid (Blk w2 w.heap.size #[.string nd, .string id, .string sv, .int .i64 st, .string nt, .int .u64 mk, .int .u64 ch] 56) := by rw [Hw2.out]; exact (Blk.new _ _ _).alloc _
  have HR2 : Hid (Blk w2 (w.heap.size + 1) #[.string ⟨#[]⟩, .string ⟨#[]⟩, .string ⟨#[]⟩, .int .i64 0, .string ⟨#[]⟩, .int .u64 0, .int .u64 0] 56) := by rw [Hw2.out, ← hz]; exact Blk.new _ _ _
  have HB2 : Hid (Below w.heap.size w w2) := by rw [Hw2.out]; exact (below_new w _).alloc (by rw [hz]; omega) _
  clear hz
  go_enter Tryz.func76, Tryz.ntmps76
  go_wp2_with fail
  rw [← Hw2.out]
  clear Hw2
  refine (fixId_calls nd id w2 hs1 hs2).mono ?_
  rintro e w3 ⟨rfl, hb3⟩
  have HX3 : Hid (Blk w3 w.heap.size #[.string nd, .string id, .string sv, .int .i64 st, .string nt, .int .u64 mk, .int .u64 ch] 56) := HX2.out.below hb3
  have HR3 : Hid (Blk w3 (w.heap.size + 1) #[.string ⟨#[]⟩, .string ⟨#[]⟩, .string ⟨#[]⟩, .int .i64 0, .string ⟨#[]⟩, .int .u64 0, .int .u64 0] 56) := HR2.out.below hb3
  have HB3 : Hid (Below w.heap.size w w3) := HB2.out.trans (hb3.mono HB2.out.size)
  have c2 := HX3.out.cell 2 rfl
  clear hb3 HX2 HR2 HB2
  go_wp2_with fail
  refine (fixSpokenFor_calls sv w3 hs3).mono ?_
  rintro e w4 ⟨rfl, hb4⟩
  have HX4 : Hid (Blk w4 w.heap.size #[.string nd, .string id, .string sv, .int .i64 st, .string nt, .int .u64 mk, .int .u64 ch] 56) := HX3.out.below hb4
  have HR4 : Hid (Blk w4 (w.heap.size + 1) #[.string ⟨#[]⟩, .string ⟨#[]⟩, .string ⟨#[]⟩, .int .i64 0, .string ⟨#[]⟩, .int .u64 0, .int .u64 0] 56) := HR3.out.below hb4
  have HB4 : Hid (Below w.heap.size w w4) := HB3.out.trans (hb4.mono HB3.out.size)
  have c3 := HX4.out.cell 3 rfl
  have c4 := HX4.out.cell 4 rfl
  clear hb4 HX3 HR3 HB3 c2
  go_wp2
  go_region_held3 (fun W => W.cell? ⟨w.heap.size, 3, none⟩ = some (.int .i64 st) ∧ W.cell? ⟨w.heap.size, 4, none⟩ = some (.string nt)) (first | (exact q6) | (exact ⟨c3, c4⟩) | go_keep)
    (first
      | (go_at_call 89
         refine (statusError_calls st _).mono ?_
         rintro e w5 ⟨rfl, hw5⟩
         subst w5)
      | (go_at_call 90
         refine (noteError_calls nt _ hs4).mono ?_
         rintro e w5 ⟨rfl, hw5⟩
         subst w5)
      | (go_at_call 84
         refine (first4D_calls (idE nd id) (spE sv) (statE st) (noteE nt) _ w4 rfl).mono ?_
         rintro e w6 ⟨he, hw6⟩
         rw [← HE.out] at he
         subst he
         have q6 : w6.cell? ⟨w.heap.size, 3, none⟩ = some (.int .i64 st) ∧ w6.cell? ⟨w.heap.size, 4, none⟩ = some (.string nt) := by rw [hw6]; exact ⟨(HX4.out.alloc _).cell 3 rfl, (HX4.out.alloc _).cell 4 rfl⟩
         have Hw6 : Hid (w6 = _) := hw6
         clear hw6))
  have hb6 : Below w4.heap.size w4 w6 := by rw [Hw6.out]; exact (below_new _ _).drew
  have HX6 : Hid (Blk w6 w.heap.size #[.string nd, .string id, .string sv, .int .i64 st, .string nt, .int .u64 mk, .int .u64 ch] 56) := HX4.out.below hb6
  have HR6 : Hid (Blk w6 (w.heap.size + 1) #[.string ⟨#[]⟩, .string ⟨#[]⟩, .string ⟨#[]⟩, .int .i64 0, .string ⟨#[]⟩, .int .u64 0, .int .u64 0] 56) := HR4.out.below hb6
  have HB6 : Hid (Below w.heap.size w w6) := HB4.out.trans (hb6.mono HB4.out.size)
  clear q6 Hw6 hb6 HX4 HR4 HB4 c3 c4
  by_cases h0 : ne = 0
  · obtain ⟨e1, e2, e3⟩ := HY.out h0
    have HQ : Hid (chkF ⟨nd, id, sv, st, nt, mk, ch⟩ = ⟨labT nd, labT id, spT sv, st, nt, 0, 0⟩) := e1
    have q : (ne != 0) = false := by simpa using h0
    have H0 : Hid (0 = ne) := h0.symm
    rw [e2, e3]
    clear e1 e2 e3 h0 HY HN
    have q0 : w6.drew.cell? ⟨w.heap.size, 3, none⟩ = some (.int .i64 st) ∧ w6.drew.cell? ⟨w.heap.size, 4, none⟩ = some (.string nt) := ⟨HX6.out.cell 3 rfl, HX6.out.cell 4 rfl⟩
    go_wp2
    obtain ⟨q01, q02⟩ := q0
    go_region_law
      (first
        | (go_simp
           go_at_call 85
           refine (rclone_calls nt w6.drew hs4).mono ?_
           rintro e w7 ⟨rfl, hb7⟩
           have hbb := below_undrew hb7
           clear hb7
           have q71 : w7.cell? ⟨w.heap.size, 3, none⟩ = some (.int .i64 st) := (HX6.out.below hbb).cell 3 rfl
           have q72 : w7.cell? ⟨w.heap.size, 4, none⟩ = some (.string nt) := (HX6.out.below hbb).cell 4 rfl
           have HR7 : Hid (Blk w7 (w.heap.size + 1) #[.string ⟨#[]⟩, .string ⟨#[]⟩, .string ⟨#[]⟩, .int .i64 0, .string ⟨#[]⟩, .int .u64 0, .int .u64 0] 56) := HR6.out.below hbb
           have HB7 : Hid (Below w.heap.size w w7) := HB6.out.trans (hbb.mono HB6.out.size)
           have r0 := HR7.out.cell 0 rfl
           have r1 := HR7.out.cell 1 rfl
           have r2 := HR7.out.cell 2 rfl
           have r3 := HR7.out.cell 3 rfl
           have r4 := HR7.out.cell 4 rfl
           have r5 := HR7.out.cell 5 rfl
           have r6 := HR7.out.cell 6 rfl
           have z := HR7.out.open
           clear hbb
           dsimp only))
    all_goals
      go_wp2
      exact ret_box (g := w.heap.size + 1) (e := .int .i64 0) rfl rfl rfl rfl (load_chk (putC_all (l := [.string (labT nd), .string (labT id), .string (spT sv), .int .i64 st, .string nt, .int .u64 0, .int .u64 0]) HR7.out rfl) rfl) ⟨by rw [HQ.out, H0.out], putC_below [.string (labT nd), .string (labT id), .string (spT sv), .int .i64 st, .string nt, .int .u64 0, .int .u64 0] w7 0 HB7.out (by omega)⟩
  · have HQ : Hid (chkF ⟨nd, id, sv, st, nt, mk, ch⟩ = chkZ) := HN.out h0
    have q : (ne != 0) = true := by simpa using h0
    have r0 := HR6.out.cell 0 rfl
    have r1 := HR6.out.cell 1 rfl
    have r2 := HR6.out.cell 2 rfl
    have r3 := HR6.out.cell 3 rfl
    have r4 := HR6.out.cell 4 rfl
    have r5 := HR6.out.cell 5 rfl
    have r6 := HR6.out.cell 6 rfl
    have z := HR6.out.open
    clear HY HN
    go_wp2
    exact ret_box (g := w.heap.size + 1) (e := .int .i64 ne) rfl rfl rfl rfl (load_chk (putC_all (l := [.string ⟨#[]⟩, .string ⟨#[]⟩, .string ⟨#[]⟩, .int .i64 0, .string ⟨#[]⟩, .int .u64 0, .int .u64 0]) HR6.out rfl) rfl) ⟨by rw [HQ.out]; rfl, putC_below [.string ⟨#[]⟩, .string ⟨#[]⟩, .string ⟨#[]⟩, .int .i64 0, .string ⟨#[]⟩, .int .u64 0, .int .u64 0] w6 0 HB6.out (by omega)⟩
end Go.Proofs.YtieonnnlhhdfpaaGreatDoor

/- Layer 9 (records): operations, plain. -/
namespace Go.Proofs.YtieonnnlhhdfpaaGreatDoor
open Go.RowKit
set_option linter.unusedVariables false

structure Opp where
  kind : Int
  node : Nd
  svc : Sp
  chk : Ck
  cas : Bool
  want : Int
def Opp.v (o : Opp) (t : Value) : Array Value := #[.int .i64 o.kind, .string o.node.name, .string o.node.addr, .int .u64 o.node.made, .int .u64 o.node.changed,
  .string o.svc.node, .string o.svc.id, .string o.svc.name, .int .i64 o.svc.port, t, .int .u64 o.svc.made, .int .u64 o.svc.changed,
  .string o.chk.node, .string o.chk.id, .string o.chk.service, .int .i64 o.chk.status, .string o.chk.note, .int .u64 o.chk.made, .int .u64 o.chk.changed, .bool o.cas, .int .u64 o.want]
def oppZ : Opp := ⟨0, nodeZ, svcZ, chkZ, false, 0⟩
def wantF (o : Opp) : Int := if o.cas then o.want else 0
/-- The error of an operation, and its normal form where there is none. -/
def oppE (o : Opp) : Int :=
  if o.kind = 1 then nodeE o.node else if o.kind = 2 then svcE o.svc else if o.kind = 3 then chkE o.chk else
  if o.kind = 4 then labE o.node.name else if o.kind = 5 then idE o.svc.node o.svc.id else if o.kind = 6 then idE o.chk.node o.chk.id else 96
def oppN (o : Opp) : Opp :=
  if o.kind = 1 then ⟨o.kind, fixN o.node, svcZ, chkZ, o.cas, wantF o⟩ else if o.kind = 2 then ⟨o.kind, nodeZ, svcF o.svc, chkZ, o.cas, wantF o⟩ else if o.kind = 3 then ⟨o.kind, nodeZ, svcZ, chkF o.chk, o.cas, wantF o⟩ else
  if o.kind = 4 then ⟨o.kind, ⟨labT o.node.name, ⟨#[]⟩, 0, 0⟩, svcZ, chkZ, o.cas, wantF o⟩ else if o.kind = 5 then ⟨o.kind, nodeZ, ⟨labT o.svc.node, labT o.svc.id, ⟨#[]⟩, 0, [], 0, 0⟩, chkZ, o.cas, wantF o⟩ else
  ⟨o.kind, nodeZ, svcZ, ⟨labT o.chk.node, labT o.chk.id, ⟨#[]⟩, 0, ⟨#[]⟩, 0, 0⟩, o.cas, wantF o⟩
def oppF (o : Opp) : Opp := if oppE o = 0 then oppN o else oppZ
structure Opp.small (o : Opp) : Prop where
  name : o.node.name.size ≤ 140737488351296
  addr : o.node.addr.size ≤ 140737488351296
  svc : o.svc.small
  chk : o.chk.small
/-- An operation is answered, its tags in memory of their own. -/
def OppA (w : World) (r : Opp) (x : Int) (e : Ending) (w' : World) : Prop := ∃ v, e = .returned (.tuple #[.agg (r.v v), .int .i64 x]) ∧ w'.ownsRow w.heap.size 9 1 v r.svc.tags.length (r.svc.tags.map Value.string) ∧ Below w.heap.size w w'
theorem info_op : (Tryz.prog.info? 58).map (·.size) = some 21 := by kernel_rfl
theorem load_op {w : World} {g : Nat} {cs : Array Value} (h : Blk w g cs 58) (hs : cs.size = 21) : (loadVar 58 ⟨g, 0, none⟩).run Tryz.prog w = .ok (.agg cs) w :=
  run_loadVar_row (P := Tryz.prog) w g 58 58 cs (0, 0) _ h Tryz.underlying58 rfl (by rw [info_op, hs])
theorem three_new (w : World) (o1 o2 o3 : Obj) : (((w.alloc o1).alloc o2).alloc o3).heap[w.heap.size]? = some o1 ∧ (((w.alloc o1).alloc o2).alloc o3).heap[w.heap.size + 1]? = some o2 ∧ (((w.alloc o1).alloc o2).alloc o3).heap[w.heap.size + 1 + 1]? = some o3 ∧
    Below w.heap.size w (((w.alloc o1).alloc o2).alloc o3) := ⟨(three_alloc w o1 o2 o3).1, (three_alloc w o1 o2 o3).2.1, (three_alloc w o1 o2 o3).2.2.1, (three_alloc w o1 o2 o3).2.2.2.1⟩
theorem row_putK {w : World} {B g : Nat} {e T : TypeId} {size : Nat} {v : Value} {n : Nat} {xs : List Value} {cs : Array Value} (hg : Blk w g cs T) (hT : T ≠ e) (h : w.ownsRow B e size v n xs) (l : List Value) (k : Nat) : (putC w g k l).ownsRow B e size v n xs := by
  refine ⟨h.1, ?_⟩
  rcases h.2 with h1 | ⟨g', cap, cur, h1, h2, h3, h4⟩
  · exact .inl h1
  · refine .inr ⟨g', cap, cur, h1, h2, putC_other (fun e' => ?_) l w k h3, h4⟩
    subst e'
    have hg' : w.heap[g']? = some (.cells cs T) := hg
    rw [h3] at hg'
    injection hg' with hg'
    injection hg' with _ hg'
    exact hT hg'.symm
end Go.Proofs.YtieonnnlhhdfpaaGreatDoor

/- Layer 7 (rows): texts put in one after the other, and texts sorted, each once. -/
namespace Go.Proofs.YtieonnnlhhdfpaaGreatDoor
open Go.RowKit
set_option linter.unusedVariables false

abbrev Bs := List UInt8
/-- The texts with k among them, as the document puts it. -/
def putR (k : Bs) : Bool → List Bs → List Bs
  | pl, [] => if pl then [] else [k]
  | pl, x :: l => (if !pl && !decide (x < k) then [k] else []) ++ ((if x = k then [] else [x]) ++ putR k (pl || !decide (x < k)) l)
def Rising (l : List Bs) : Prop := l.Pairwise (· < ·)
theorem bs_lt_trans {a b c : Bs} (h1 : a < b) (h2 : b < c) : a < c := List.lt_trans h1 h2
theorem bs_tri (a b : Bs) : a < b ∨ a = b ∨ b < a := by
  rcases Classical.em (a < b) with h | h
  · exact .inl h
  · rcases Classical.em (b < a) with h' | h'
    · exact .inr (.inr h')
    · exact .inr (.inl (List.le_antisymm (List.not_lt.1 h') (List.not_lt.1 h)))
theorem putR_true (k : Bs) : ∀ l : List Bs, (∀ x ∈ l, k ≤ x) → Rising l → putR k true l = l.filter (fun x => decide (x ≠ k))
  | [], _, _ => rfl
  | x :: l, h, hr => by
    have h2 := putR_true k l (fun y hy => h y (List.mem_cons_of_mem _ hy)) (List.Pairwise.of_cons hr)
    unfold putR
    rw [Bool.true_or, h2]
    by_cases hx : x = k <;> simp [hx]
theorem putR_mem (k : Bs) : ∀ (l : List Bs) (pl : Bool) (y : Bs), y ∈ putR k pl l → y = k ∨ (y ∈ l)
  | [], pl, y, h => by
    unfold putR at h
    cases pl
    · simp at h; exact .inl h
    · simp at h
  | x :: l, pl, y, h => by
    unfold putR at h
    rcases List.mem_append.1 h with h | h
    · split at h
      · simp at h; exact .inl h
      · simp at h
    · rcases List.mem_append.1 h with h | h
      · split at h
        · simp at h
        · simp at h; exact .inr (by simp [h])
      · rcases putR_mem k l _ y h with h | h
        · exact .inl h
        · exact .inr (List.mem_cons_of_mem _ h)
theorem putR_keeps (k : Bs) : ∀ (l : List Bs) (pl : Bool) (y : Bs), y ∈ l → y ≠ k → y ∈ putR k pl l
  | [], pl, y, h, _ => by simp at h
  | x :: l, pl, y, h, hn => by
    unfold putR
    rcases List.mem_cons.1 h with rfl | h
    · simp [hn]
    · have := putR_keeps k l (pl || !decide (x < k)) y h hn
      simp only [List.mem_append]
      exact .inr (.inr this)
theorem putR_has (k : Bs) : ∀ (l : List Bs), k ∈ putR k false l
  | [] => by simp [putR]
  | x :: l => by
    unfold putR
    by_cases h : x < k
    · have := putR_has k l
      simp only [List.mem_append]
      exact .inr (.inr (by simpa [h] using this))
    · simp [h]
theorem putR_after (k : Bs) : ∀ (l : List Bs), (∀ x ∈ l, k ≤ x) → Rising l → Rising (putR k true l) ∧ ∀ y ∈ putR k true l, k < y := by
  intro l h hr
  rw [putR_true k l h hr]
  refine ⟨List.Pairwise.filter _ hr, fun y hy => ?_⟩
  rw [List.mem_filter] at hy
  have h1 := h y hy.1
  have h2 : y ≠ k := by simpa using hy.2
  rcases bs_tri k y with h3 | h3 | h3
  · exact h3
  · exact absurd h3.symm h2
  · exact absurd h3 (List.not_lt.2 h1)
theorem putR_rising (k : Bs) : ∀ (l : List Bs), Rising l → Rising (putR k false l)
  | [], _ => by simp [putR, Rising]
  | x :: l, hr => by
    have hr2 : Rising l := List.Pairwise.of_cons hr
    have hx : ∀ y ∈ l, x < y := fun y hy => List.rel_of_pairwise_cons hr hy
    unfold putR
    by_cases h : x < k
    · have ih := putR_rising k l hr2
      have hne : x ≠ k := fun e => by subst e; exact List.lt_irrefl x h
      simp only [h, hne, decide_true, Bool.not_true, Bool.and_false, Bool.or_false, if_false, List.nil_append, Bool.false_eq_true]
      show Rising (x :: putR k false l)
      refine List.Pairwise.cons (fun y hy => ?_) ih
      rcases putR_mem k l false y hy with rfl | hy
      · exact h
      · exact hx y hy
    · have hk : k ≤ x := List.not_lt.1 h
      have ha : ∀ y ∈ l, k ≤ y := fun y hy => List.not_lt.1 fun hl => h (bs_lt_trans (hx y hy) hl)
      obtain ⟨h1, h2⟩ := putR_after k l ha hr2
      simp only [h, decide_false, Bool.not_false, Bool.and_true, Bool.or_true, if_true]
      by_cases hxk : x = k
      · simp only [hxk, if_true, List.nil_append]
        exact List.Pairwise.cons h2 h1
      · simp only [hxk, if_false]
        have hlt : k < x := by
          rcases bs_tri k x with h3 | h3 | h3
          · exact h3
          · exact absurd h3.symm hxk
          · exact absurd h3 h
        refine List.Pairwise.cons (fun y hy => ?_) (List.Pairwise.cons (fun y hy => ?_) h1)
        · rcases List.mem_cons.1 hy with rfl | hy
          · exact hlt
          · exact h2 y hy
        · rcases putR_mem k l true y hy with rfl | hy'
          · exact absurd (h2 y hy) (List.lt_irrefl y)
          · exact hx y hy'
/-- All of them, one after the other. -/
def putAll (ks : List Bs) : List Bs := ks.foldl (fun l k => putR k false l) []
theorem putAll_snoc (ks : List Bs) (k : Bs) : putAll (ks ++ [k]) = putR k false (putAll ks) := by
  unfold putAll
  rw [List.foldl_append]
  rfl
theorem foldl_rising (ks : List Bs) : ∀ l : List Bs, Rising l → Rising (ks.foldl (fun l k => putR k false l) l) ∧ ∀ y, y ∈ ks.foldl (fun l k => putR k false l) l ↔ y ∈ l ∨ y ∈ ks := by
  induction ks with
  | nil => intro l hl; exact ⟨hl, fun y => by simp⟩
  | cons k ks ih =>
    intro l hl
    obtain ⟨h1, h2⟩ := ih (putR k false l) (putR_rising k l hl)
    refine ⟨h1, fun y => ?_⟩
    rw [List.foldl_cons, h2]
    constructor
    · rintro (h | h)
      · rcases putR_mem k l false y h with rfl | h
        · simp
        · simp [h]
      · simp [h]
    · rintro (h | h)
      · by_cases e : y = k
        · subst e; exact .inl (putR_has _ _)
        · exact .inl (putR_keeps k l false y h e)
      · rcases List.mem_cons.1 h with rfl | h
        · exact .inl (putR_has _ _)
        · exact .inr h
theorem putAll_rising (ks : List Bs) : Rising (putAll ks) := (foldl_rising ks [] List.Pairwise.nil).1
theorem putAll_mem (ks : List Bs) (y : Bs) : y ∈ putAll ks ↔ y ∈ ks := by
  have := (foldl_rising ks [] List.Pairwise.nil).2 y
  unfold putAll
  simpa using this
theorem rising_uniq {a b : List Bs} (ha : Rising a) (hb : Rising b) (h : ∀ y, y ∈ a ↔ y ∈ b) : a = b := by
  have na : a.Nodup := ha.imp fun h e => by subst e; exact List.lt_irrefl _ h
  have nb : b.Nodup := hb.imp fun h e => by subst e; exact List.lt_irrefl _ h
  refine List.Perm.eq_of_pairwise (le := (· < ·)) (fun x y _ _ h1 h2 => absurd (bs_lt_trans h1 h2) (List.lt_irrefl _)) ha hb ((List.perm_ext_iff_of_nodup na nb).2 h)
open Lib in
theorem compact_rising (zs : List Bs) (h : zs.Pairwise (· ≤ ·)) : Rising (compact zs) := by
  unfold Rising compact compactUpTo
  rw [List.pairwise_map]
  have h0 : (List.range zs.length).Pairwise (· < ·) := List.pairwise_lt_range
  have hle : ∀ i j, i ≤ j → j < zs.length → zs.toArray[i]! ≤ zs.toArray[j]! := by
    intro i j hij hj
    rw [getElem!_pos zs.toArray i (by simpa using (by omega : i < zs.length)), getElem!_pos zs.toArray j (by simpa using hj)]
    simp only [List.getElem_toArray]
    rcases Nat.lt_or_ge i j with h' | h'
    · exact List.pairwise_iff_getElem.1 h i j _ _ h'
    · have : i = j := by omega
      subst this
      exact List.le_refl _
  have hm : ∀ x ∈ List.filter (keeps zs.toArray) (List.range zs.length), x < zs.length ∧ keeps zs.toArray x = true := by
    intro x hx
    rw [List.mem_filter, List.mem_range] at hx
    exact hx
  refine List.Pairwise.imp_of_mem (fun {a b} ha hb hab => ?_) (List.Pairwise.filter _ h0)
  obtain ⟨hb1, hb2⟩ := hm b hb
  unfold keeps at hb2
  rw [decide_eq_true_eq] at hb2
  have hb3 : zs.toArray[b]! ≠ zs.toArray[b - 1]! := by
    rcases hb2 with e | e
    · omega
    · exact e
  have h1 := hle a (b - 1) (by omega) (by omega)
  have h2 := hle (b - 1) b (by omega) hb1
  rcases bs_tri zs.toArray[a]! zs.toArray[b]! with h3 | h3 | h3
  · exact h3
  · refine absurd ?_ hb3
    refine List.le_antisymm ?_ h2
    rw [← h3]; exact h1
  · exact absurd h3 (List.not_lt.2 (List.le_trans h1 h2))
open Lib in
theorem compact_mem (zs : List Bs) (y : Bs) : y ∈ compact zs ↔ y ∈ zs := by
  unfold compact compactUpTo
  constructor
  · intro h
    obtain ⟨i, hi, rfl⟩ := List.mem_map.1 h
    rw [List.mem_filter, List.mem_range] at hi
    rw [getElem!_pos zs.toArray i (by simpa using hi.1)]
    simp only [List.getElem_toArray]
    exact List.getElem_mem _
  · intro h
    obtain ⟨i, hi, rfl⟩ := List.getElem_of_mem h
    clear h
    induction i with
    | zero =>
      refine List.mem_map.2 ⟨0, ?_, ?_⟩
      · rw [List.mem_filter, List.mem_range]; exact ⟨hi, by simp [keeps]⟩
      · rw [getElem!_pos zs.toArray 0 (by simpa using hi)]; simp
    | succ i ih =>
      by_cases e : zs[i + 1] = zs[i]
      · rw [e]; exact ih (by omega)
      · refine List.mem_map.2 ⟨i + 1, ?_, ?_⟩
        · rw [List.mem_filter, List.mem_range]
          refine ⟨hi, ?_⟩
          unfold keeps
          rw [decide_eq_true_eq]
          right
          rw [getElem!_pos zs.toArray (i + 1) (by simpa using hi), getElem!_pos zs.toArray (i + 1 - 1) (by simp; omega)]
          simpa using e
        · rw [getElem!_pos zs.toArray (i + 1) (by simpa using hi)]; simp
/-- Sorted and each once is what is put in one after the other. -/
theorem compact_putAll (ks : List Bs) : Lib.compact (ks.mergeSort fun x y => decide (x ≤ y)) = putAll ks := by
  refine rising_uniq (compact_rising _ ?_) (putAll_rising ks) (fun y => ?_)
  · have := List.pairwise_mergeSort (le := fun (x y : Bs) => decide (x ≤ y)) (fun a b c h1 h2 => by simp only [decide_eq_true_eq] at *; exact List.le_trans h1 h2) (fun a b => by simp only [Bool.or_eq_true, decide_eq_true_eq]; exact List.le_total a b) ks
    exact this.imp fun h => by simpa using h
  · rw [compact_mem, List.mem_mergeSort, putAll_mem]
end Go.Proofs.YtieonnnlhhdfpaaGreatDoor

/- Layer 9 (records): what is fixed stays as it is; small letters and great ones are fixed alike. Plain. -/
namespace Go.Proofs.YtieonnnlhhdfpaaGreatDoor
open Go.RowKit

theorem lab_zero {s : ByteArray} (h : labE s = 0) : labB s = true := by
  unfold labE at h
  split at h
  · assumption
  · cases h
theorem lab_again {s : ByteArray} (h : labE s = 0) : labE (labT s) = 0 ∧ labT (labT s) = labT s := by
  rw [(lab_yes (lab_zero h)).1, labE_low, labT_low, (lab_yes (lab_zero h)).1]
  exact ⟨h, rfl⟩
theorem orE_zero {a b : Int} (h : orE a b = 0) : a = 0 ∧ b = 0 := by
  unfold orE at h
  split at h
  · exact ⟨by assumption, h⟩
  · exact absurd h (by assumption)
theorem node_again {n : Nd} (h : nodeE n = 0) : nodeE (fixN n) = 0 ∧ fixN (fixN n) = fixN n := by
  obtain ⟨h1, h2⟩ := orE_zero h
  obtain ⟨k1, k2⟩ := lab_again h1
  have e : fixN n = ⟨labT n.name, n.addr, 0, 0⟩ := if_pos h
  have e2 : nodeE ⟨labT n.name, n.addr, 0, 0⟩ = 0 := by
    unfold nodeE orE
    rw [if_pos k1]
    exact h2
  rw [e]
  refine ⟨e2, ?_⟩
  unfold fixN
  rw [if_pos e2]
  show (⟨labT (labT n.name), n.addr, 0, 0⟩ : Nd) = _
  rw [k2]
theorem lowL_low (x : ByteArray) : lowL (lowS x) = lowL x := by
  unfold lowL
  rw [lowS_low]
theorem tagsOk_low (l : List ByteArray) : tagsOk (l.map lowS) ↔ tagsOk l := by
  unfold tagsOk
  rw [List.length_map]
  constructor
  · rintro ⟨h1, h2⟩
    exact ⟨h1, fun x hx => by rw [← labB_low]; exact h2 _ (List.mem_map_of_mem hx)⟩
  · rintro ⟨h1, h2⟩
    refine ⟨h1, fun x hx => ?_⟩
    obtain ⟨y, hy, rfl⟩ := List.mem_map.1 hx
    rw [labB_low]
    exact h2 y hy
theorem tagsE_low (l : List ByteArray) : tagsE (l.map lowS) = tagsE l := by
  by_cases h : tagsOk l
  · rw [(tags_yes h).1, (tags_yes ((tagsOk_low l).2 h)).1]
  · rw [(tags_no h).1, (tags_no (fun e => h ((tagsOk_low l).1 e))).1]
theorem tagsL_low (l : List ByteArray) : tagsL (l.map lowS) = tagsL l := by
  by_cases h : tagsOk l
  · rw [(tags_yes h).2, (tags_yes ((tagsOk_low l).2 h)).2, List.map_map]
    have : lowL ∘ lowS = lowL := funext lowL_low
    rw [this]
  · rw [(tags_no h).2, (tags_no (fun e => h ((tagsOk_low l).1 e))).2]
theorem tagsB_low (l : List ByteArray) : tagsB (l.map lowS) = tagsB l := by
  unfold tagsB
  rw [tagsL_low]
theorem tagsL_put {l : List ByteArray} (h : tagsOk l) : tagsL l = putAll (l.map lowL) := (tags_yes h).2.trans (compact_putAll _)
theorem tagsL_rising (l : List ByteArray) : Rising (tagsL l) := by
  by_cases h : tagsOk l
  · rw [tagsL_put h]; exact putAll_rising _
  · rw [(tags_no h).2]; exact List.Pairwise.nil
theorem tagsL_mem {l : List ByteArray} (h : tagsOk l) (y : List UInt8) : y ∈ tagsL l ↔ ∃ x ∈ l, lowL x = y := by
  rw [tagsL_put h, putAll_mem, List.mem_map]
theorem tagsB_mem {l : List ByteArray} (h : tagsOk l) {y : ByteArray} (hy : y ∈ tagsB l) : ∃ x ∈ l, lowS x = y := by
  unfold tagsB at hy
  obtain ⟨b, hb, rfl⟩ := List.mem_map.1 hy
  obtain ⟨x, hx, rfl⟩ := (tagsL_mem h b).1 hb
  exact ⟨x, hx, rfl⟩
theorem tagsOk_again {l : List ByteArray} (h : tagsOk l) : tagsOk (tagsB l) := by
  refine ⟨?_, fun y hy => ?_⟩
  · rw [tagsB_len, (tags_yes h).2]
    refine Nat.le_trans (compact_le _) ?_
    rw [List.length_mergeSort, List.length_map]
    exact h.1
  · obtain ⟨x, hx, rfl⟩ := tagsB_mem h hy
    rw [labB_low]
    exact h.2 x hx
theorem tagsB_lowL {l : List ByteArray} (h : tagsOk l) : (tagsB l).map lowL = tagsL l := by
  unfold tagsB
  rw [List.map_map]
  conv => rhs; rw [← List.map_id (tagsL l)]
  refine List.map_congr_left fun b hb => ?_
  obtain ⟨x, hx, rfl⟩ := (tagsL_mem h b).1 hb
  exact lowL_low x
theorem tagsL_again {l : List ByteArray} (h : tagsOk l) : tagsL (tagsB l) = tagsL l := by
  rw [tagsL_put (tagsOk_again h), tagsB_lowL h]
  exact rising_uniq (putAll_rising _) (tagsL_rising l) fun y => putAll_mem _ y
theorem tagsB_again {l : List ByteArray} (h : tagsOk l) : tagsB (tagsB l) = tagsB l := by
  have := tagsL_again h
  unfold tagsB at this ⊢
  rw [this]
theorem tags_zero {l : List ByteArray} (h : tagsE l = 0) : tagsOk l := by
  unfold tagsE at h
  split at h
  · assumption
  · cases h
theorem svc_again {s : Sp} (h : svcE s = 0) : svcE (svcF s) = 0 ∧ svcF (svcF s) = svcF s := by
  obtain ⟨h1, h2, h3, h4⟩ := svc_parts h
  obtain ⟨i1, i2⟩ := orE_zero h1
  obtain ⟨a1, a2⟩ := lab_again i1
  obtain ⟨b1, b2⟩ := lab_again i2
  obtain ⟨c1, c2⟩ := lab_again h2
  have ht := tags_zero h4
  rw [svc_yes h]
  have e : svcE ⟨labT s.node, labT s.id, labT s.name, s.port, tagsB s.tags, 0, 0⟩ = 0 := by
    unfold svcE
    simp only [firstE, orE, idE, a1, b1, c1, h3, (tags_yes (tagsOk_again ht)).1, if_true]
  refine ⟨e, ?_⟩
  rw [svc_yes e]
  simp only [a2, b2, c2, tagsB_again ht]
end Go.Proofs.YtieonnnlhhdfpaaGreatDoor

/- append of a text's bytes to a slice of bytes that the call made itself, as one step of a walk. -/
namespace Go.Proofs.YtieonnnlhhdfpaaGreatDoor
open Go.RowKit Go.Lib
set_option linter.unusedVariables false

theorem strCells_bs (s : ByteArray) : strCells s = bs s.data.toList := by simp [strCells, bs]
theorem append_text (w : World) {ops : Array Oper} {rest : List Oper} {o : Oper} {a : Act} {Q : Exit → Act → World → Prop} (hgd : o.guard = none) (sl x : Operand)
    (ho : o.op = .call { callee := .builtin .append, args := #[sl, x], argTypes := #[28, 9] })
    (B : Nat) (v : Value) (l : List UInt8) (hs : a.eval sl = v) (hown : Own w B v l) (s : ByteArray) (hx : a.eval x = .string s)
    (hlen : l.length + s.size ≤ 140737488355328) (hB : B ≤ w.heap.size)
    (h : ∀ v' w', Own w' B v' (l ++ s.data.toList) → Grew w w' v v' → wpList Tryz.prog ops Q rest (a.put o.dst v') w') : wpList Tryz.prog ops Q (o :: rest) a w := by
  obtain ⟨i, hi, hz0, hz1, hz2⟩ := info_parts info_u8
  refine wpList_plain hgd fun K hK => ?_
  obtain ⟨v', w', hr, h2, h3, h4⟩ := run_append_own_string (P := Tryz.prog) w B 28 9 o.type 5 i Tryz.underlying28 Tryz.underlying9 hi hz0 hz1 hz2 v l.length (bs l) hown s (by unfold maxLen; omega) hlen hB
  have hown2 : Own w' B v' (l ++ s.data.toList) := by
    unfold Own
    rw [bs_append, List.length_append, ← strCells_bs]
    have : s.data.toList.length = s.size := by simp
    rw [this]
    exact h2
  have hg : Grew w w' v v' := by
    refine ⟨h3, ?_⟩
    intro k hk
    rcases hown.2 with ⟨rfl, h0⟩ | ⟨g, cap, cur, rfl, hbg, hgg, hnc, hcm, hcs, htake⟩
    · by_cases hm : s.size = 0
      · have := h4.2 ⟨rfl, hm⟩; subst this; simp [Value.ownBlock] at hk
      · have hr2 := run_append_nil_string (P := Tryz.prog) w 28 9 o.type 5 i (.int .u8 0) Tryz.underlying28 Tryz.underlying9 hi hz0 s (by omega) (by omega) (by rw [hz2]; omega)
        rw [hr] at hr2
        injection hr2 with e1 e2
        subst e1
        simp [Value.ownBlock] at hk
        right; omega
    · have hcs' : cur.size = cap := by simpa using hcs
      by_cases hroom : l.length + s.size ≤ cap
      · have hr2 := run_append_room_string (P := Tryz.prog) w 28 9 o.type 5 i Tryz.underlying28 Tryz.underlying9 hi hz1 g l.length cap cur hgg s hroom (by omega)
        rw [hr] at hr2
        injection hr2 with e1 e2
        subst e1
        left; exact hk
      · have holds : ∀ j u, (bs l)[j]? = some u → w.cell? ((⟨g, 0, none⟩ : Addr).add j) = some u := World.ownsRow.cells (g := g) hown rfl
        have hr2 := run_append_grow_string (P := Tryz.prog) w 28 9 o.type 5 i (.int .u8 0) Tryz.underlying28 Tryz.underlying9 hi hz0 ⟨g, 0, none⟩ l.length cap (bs l) (by rw [hz1, bs_length]; omega) holds s (by omega) (by omega) (by rw [hz2]; exact growslice_fits (by omega) (by omega))
        rw [hr] at hr2
        injection hr2 with e1 e2
        subst e1
        simp [Value.ownBlock] at hk
        right; omega
  unfold Oper.wp execOp
  simp only [ho, resolve, invoke, builtin, Sem.run_bind, Sem.run_pure, Result.andThen_ok, List.map_toArray, List.map_cons, List.map_nil, hs, hx, hr]
  exact hK _ _ (h v' w' hown2 hg)
end Go.Proofs.YtieonnnlhhdfpaaGreatDoor
