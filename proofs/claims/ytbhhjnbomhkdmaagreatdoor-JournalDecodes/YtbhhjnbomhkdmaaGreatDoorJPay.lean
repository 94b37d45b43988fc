import Derived.Test.YtbhhjnbomhkdmaaGreatDoorRcFixT
import Derived.Test.YtbhhjnbomhkdmaaGreatDoorRcFixC
import Derived.Test.YtbhhjnbomhkdmaaGreatDoorJPayOf
import Derived.Lib.AppendStr
import Derived.Laws.BytesArg
/- Layer 9 (records): operations, plain. -/
namespace Go.Proofs.YtbhhjnbomhkdmaaGreatDoor
open Go.RowKit
set_option linter.unusedVariables false

structure Opp where
 kind : Int
 node : Nd
 svc : Sp
 chk : Ck
 cas : Bool
 want : Int
def Opp.v (o : Opp) (t : Value) : Array Value := #[.int .i64 o.kind, .string o.node.name, .string o.node.addr, .int .u64 o.node.made, .int .u64 o.node.changed,
 .string o.svc.node, .string o.svc.id, .string o.svc.name, .int .i64 o.svc.port, t, .int .u64 o.svc.made, .int .u64 o.svc.changed,
 .string o.chk.node, .string o.chk.id, .string o.chk.service, .int .i64 o.chk.status, .string o.chk.note, .int .u64 o.chk.made, .int .u64 o.chk.changed, .bool o.cas, .int .u64 o.want]
def oppZ : Opp := ⟨0, nodeZ, svcZ, chkZ, false, 0⟩
def wantF (o : Opp) : Int := if o.cas then o.want else 0
/-- The error of an operation, and its normal form where there is none. -/
def oppE (o : Opp) : Int :=
 if o.kind = 1 then nodeE o.node else if o.kind = 2 then svcE o.svc else if o.kind = 3 then chkE o.chk else
 if o.kind = 4 then labE o.node.name else if o.kind = 5 then idE o.svc.node o.svc.id else if o.kind = 6 then idE o.chk.node o.chk.id else 96
def oppN (o : Opp) : Opp :=
 if o.kind = 1 then ⟨o.kind, fixN o.node, svcZ, chkZ, o.cas, wantF o⟩ else if o.kind = 2 then ⟨o.kind, nodeZ, svcF o.svc, chkZ, o.cas, wantF o⟩ else if o.kind = 3 then ⟨o.kind, nodeZ, svcZ, chkF o.chk, o.cas, wantF o⟩ else
 if o.kind = 4 then ⟨o.kind, ⟨labT o.node.name, ⟨#[]⟩, 0, 0⟩, svcZ, chkZ, o.cas, wantF o⟩ else if o.kind = 5 then ⟨o.kind, nodeZ, ⟨labT o.svc.node, labT o.svc.id, ⟨#[]⟩, 0, [], 0, 0⟩, chkZ, o.cas, wantF o⟩ else
 ⟨o.kind, nodeZ, svcZ, ⟨labT o.chk.node, labT o.chk.id, ⟨#[]⟩, 0, ⟨#[]⟩, 0, 0⟩, o.cas, wantF o⟩
def oppF (o : Opp) : Opp := if oppE o = 0 then oppN o else oppZ
structure Opp.small (o : Opp) : Prop where
 name : o.node.name.size ≤ 140737488351296
 addr : o.node.addr.size ≤ 140737488351296
 svc : o.svc.small
 chk : o.chk.small
/-- An operation is answered, its tags in memory of their own. -/
def OppA (w : World) (r : Opp) (x : Int) (e : Ending) (w' : World) : Prop := ∃ v, e = .returned (.tuple #[.agg (r.v v), .int .i64 x]) ∧ w'.ownsRow w.heap.size 9 1 v r.svc.tags.length (r.svc.tags.map Value.string) ∧ Below w.heap.size w w'
theorem info_op : (Tryz.prog.info? 54).map (·.size) = some 21 := by kernel_rfl
theorem load_op {w : World} {g : Nat} {cs : Array Value} (h : Blk w g cs 54) (hs : cs.size = 21) : (loadVar 54 ⟨g, 0, none⟩).run Tryz.prog w = .ok (.agg cs) w :=
 run_loadVar_row (P := Tryz.prog) w g 54 54 cs (0, 0) _ h Tryz.underlying54 rfl (by rw [info_op, hs])
theorem three_new (w : World) (o1 o2 o3 : Obj) : (((w.alloc o1).alloc o2).alloc o3).heap[w.heap.size]? = some o1 ∧ (((w.alloc o1).alloc o2).alloc o3).heap[w.heap.size + 1]? = some o2 ∧ (((w.alloc o1).alloc o2).alloc o3).heap[w.heap.size + 1 + 1]? = some o3 ∧
  Below w.heap.size w (((w.alloc o1).alloc o2).alloc o3) := ⟨(three_alloc w o1 o2 o3).1, (three_alloc w o1 o2 o3).2.1, (three_alloc w o1 o2 o3).2.2.1, (three_alloc w o1 o2 o3).2.2.2.1⟩
theorem row_putK {w : World} {B g : Nat} {e T : TypeId} {size : Nat} {v : Value} {n : Nat} {xs : List Value} {cs : Array Value} (hg : Blk w g cs T) (hT : T ≠ e) (h : w.ownsRow B e size v n xs) (l : List Value) (k : Nat) : (putC w g k l).ownsRow B e size v n xs := by
 refine ⟨h.1, ?_⟩
 rcases h.2 with h1 | ⟨g', cap, cur, h1, h2, h3, h4⟩
 ·exact .inl h1
 ·refine .inr ⟨g', cap, cur, h1, h2, putC_other (fun e' => ?_) l w k h3, h4⟩
  subst e'
  have hg' : w.heap[g']? = some (.cells cs T) := hg
  rw [h3] at hg'
  injection hg' with hg'
  injection hg' with _ hg'
  exact hT hg'.symm
end Go.Proofs.YtbhhjnbomhkdmaaGreatDoor

/- Layer 7 (rows): texts put in one after the other, and texts sorted, each once. -/
namespace Go.Proofs.YtbhhjnbomhkdmaaGreatDoor
open Go.RowKit
set_option linter.unusedVariables false

abbrev Bs := List UInt8
/-- The texts with k among them, as the document puts it. -/
def putR (k : Bs) : Bool → List Bs → List Bs
 | pl, [] => if pl then [] else [k]
 | pl, x :: l => (if !pl && !decide (x < k) then [k] else []) ++ ((if x = k then [] else [x]) ++ putR k (pl || !decide (x < k)) l)
def Rising (l : List Bs) : Prop := l.Pairwise (· < ·)
theorem bs_lt_trans {a b c : Bs} (h1 : a < b) (h2 : b < c) : a < c := List.lt_trans h1 h2
theorem bs_tri (a b : Bs) : a < b ∨ a = b ∨ b < a := by
 rcases Classical.em (a < b) with h | h
 ·exact .inl h
 ·rcases Classical.em (b < a) with h' | h'
  ·exact .inr (.inr h')
  ·exact .inr (.inl (List.le_antisymm (List.not_lt.1 h') (List.not_lt.1 h)))
theorem putR_true (k : Bs) : ∀ l : List Bs, (∀ x ∈ l, k ≤ x) → Rising l → putR k true l = l.filter (fun x => decide (x ≠ k))
 | [], _, _ => rfl
 | x :: l, h, hr => by
  have h2 := putR_true k l (fun y hy => h y (List.mem_cons_of_mem _ hy)) (List.Pairwise.of_cons hr)
  unfold putR
  rw [Bool.true_or, h2]
  by_cases hx : x = k <;> simp [hx]
theorem putR_mem (k : Bs) : ∀ (l : List Bs) (pl : Bool) (y : Bs), y ∈ putR k pl l → y = k ∨ (y ∈ l)
 | [], pl, y, h => by
  unfold putR at h
  cases pl
  ·simp at h; exact .inl h
  ·simp at h
 | x :: l, pl, y, h => by
  unfold putR at h
  rcases List.mem_append.1 h with h | h
  ·split at h
   ·simp at h; exact .inl h
   ·simp at h
  ·rcases List.mem_append.1 h with h | h
   ·split at h
    ·simp at h
    ·simp at h; exact .inr (by simp [h])
   ·rcases putR_mem k l _ y h with h | h
    ·exact .inl h
    ·exact .inr (List.mem_cons_of_mem _ h)
theorem putR_keeps (k : Bs) : ∀ (l : List Bs) (pl : Bool) (y : Bs), y ∈ l → y ≠ k → y ∈ putR k pl l
 | [], pl, y, h, _ => by simp at h
 | x :: l, pl, y, h, hn => by
  unfold putR
  rcases List.mem_cons.1 h with rfl | h
  ·simp [hn]
  ·have := putR_keeps k l (pl || !decide (x < k)) y h hn
   simp only [List.mem_append]
   exact .inr (.inr this)
theorem putR_has (k : Bs) : ∀ (l : List Bs), k ∈ putR k false l
 | [] => by simp [putR]
 | x :: l => by
  unfold putR
  by_cases h : x < k
  ·have := putR_has k l
   simp only [List.mem_append]
   exact .inr (.inr (by simpa [h] using this))
  ·simp [h]
theorem putR_after (k : Bs) : ∀ (l : List Bs), (∀ x ∈ l, k ≤ x) → Rising l → Rising (putR k true l) ∧ ∀ y ∈ putR k true l, k < y := by
 intro l h hr
 rw [putR_true k l h hr]
 refine ⟨List.Pairwise.filter _ hr, fun y hy => ?_⟩
 rw [List.mem_filter] at hy
 have h1 := h y hy.1
 have h2 : y ≠ k := by simpa using hy.2
 rcases bs_tri k y with h3 | h3 | h3
 ·exact h3
 ·exact absurd h3.symm h2
 ·exact absurd h3 (List.not_lt.2 h1)
theorem putR_rising (k : Bs) : ∀ (l : List Bs), Rising l → Rising (putR k false l)
 | [], _ => by simp [putR, Rising]
 | x :: l, hr => by
  have hr2 : Rising l := List.Pairwise.of_cons hr
  have hx : ∀ y ∈ l, x < y := fun y hy => List.rel_of_pairwise_cons hr hy
  unfold putR
  by_cases h : x < k
  ·have ih := putR_rising k l hr2
   have hne : x ≠ k := fun e => by subst e; exact List.lt_irrefl x h
   simp only [h, hne, decide_true, Bool.not_true, Bool.and_false, Bool.or_false, if_false, List.nil_append, Bool.false_eq_true]
   show Rising (x :: putR k false l)
   refine List.Pairwise.cons (fun y hy => ?_) ih
   rcases putR_mem k l false y hy with rfl | hy
   ·exact h
   ·exact hx y hy
  ·have hk : k ≤ x := List.not_lt.1 h
   have ha : ∀ y ∈ l, k ≤ y := fun y hy => List.not_lt.1 fun hl => h (bs_lt_trans (hx y hy) hl)
   obtain ⟨h1, h2⟩ := putR_after k l ha hr2
   simp only [h, decide_false, Bool.not_false, Bool.and_true, Bool.or_true, if_true]
   by_cases hxk : x = k
   ·simp only [hxk, if_true, List.nil_append]
    exact List.Pairwise.cons h2 h1
   ·simp only [hxk, if_false]
    have hlt : k < x := by
     rcases bs_tri k x with h3 | h3 | h3
     ·exact h3
     ·exact absurd h3.symm hxk
     ·exact absurd h3 h
    refine List.Pairwise.cons (fun y hy => ?_) (List.Pairwise.cons (fun y hy => ?_) h1)
    ·rcases List.mem_cons.1 hy with rfl | hy
     ·exact hlt
     ·exact h2 y hy
    ·rcases putR_mem k l true y hy with rfl | hy'
     ·exact absurd (h2 y hy) (List.lt_irrefl y)
     ·exact hx y hy'
/-- All of them, one after the other. -/
def putAll (ks : List Bs) : List Bs := ks.foldl (fun l k => putR k false l) []
theorem putAll_snoc (ks : List Bs) (k : Bs) : putAll (ks ++ [k]) = putR k false (putAll ks) := by
 unfold putAll
 rw [List.foldl_append]
 rfl
theorem foldl_rising (ks : List Bs) : ∀ l : List Bs, Rising l → Rising (ks.foldl (fun l k => putR k false l) l) ∧ ∀ y, y ∈ ks.foldl (fun l k => putR k false l) l ↔ y ∈ l ∨ y ∈ ks := by
 induction ks with
 | nil => intro l hl; exact ⟨hl, fun y => by simp⟩
 | cons k ks ih =>
  intro l hl
  obtain ⟨h1, h2⟩ := ih (putR k false l) (putR_rising k l hl)
  refine ⟨h1, fun y => ?_⟩
  rw [List.foldl_cons, h2]
  constructor
  ·rintro (h | h)
   ·rcases putR_mem k l false y h with rfl | h
    ·simp
    ·simp [h]
   ·simp [h]
  ·rintro (h | h)
   ·by_cases e : y = k
    ·subst e; exact .inl (putR_has _ _)
    ·exact .inl (putR_keeps k l false y h e)
   ·rcases List.mem_cons.1 h with rfl | h
    ·exact .inl (putR_has _ _)
    ·exact .inr h
theorem putAll_rising (ks : List Bs) : Rising (putAll ks) := (foldl_rising ks [] List.Pairwise.nil).1
theorem putAll_mem (ks : List Bs) (y : Bs) : y ∈ putAll ks ↔ y ∈ ks := by
 have := (foldl_rising ks [] List.Pairwise.nil).2 y
 unfold putAll
 simpa using this
theorem rising_uniq {a b : List Bs} (ha : Rising a) (hb : Rising b) (h : ∀ y, y ∈ a ↔ y ∈ b) : a = b := by
 have na : a.Nodup := ha.imp fun h e => by subst e; exact List.lt_irrefl _ h
 have nb : b.Nodup := hb.imp fun h e => by subst e; exact List.lt_irrefl _ h
 refine List.Perm.eq_of_pairwise (le := (· < ·)) (fun x y _ _ h1 h2 => absurd (bs_lt_trans h1 h2) (List.lt_irrefl _)) ha hb ((List.perm_ext_iff_of_nodup na nb).2 h)
open Lib in
theorem compact_rising (zs : List Bs) (h : zs.Pairwise (· ≤ ·)) : Rising (compact zs) := by
 unfold Rising compact compactUpTo
 rw [List.pairwise_map]
 have h0 : (List.range zs.length).Pairwise (· < ·) := List.pairwise_lt_range
 have hle : ∀ i j, i ≤ j → j < zs.length → zs.toArray[i]! ≤ zs.toArray[j]! := by
  intro i j hij hj
  rw [getElem!_pos zs.toArray i (by simpa using (by omega : i < zs.length)), getElem!_pos zs.toArray j (by simpa using hj)]
  simp only [List.getElem_toArray]
  rcases Nat.lt_or_ge i j with h' | h'
  ·exact List.pairwise_iff_getElem.1 h i j _ _ h'
  ·have : i = j := by omega
   subst this
   exact List.le_refl _
 have hm : ∀ x ∈ List.filter (keeps zs.toArray) (List.range zs.length), x < zs.length ∧ keeps zs.toArray x = true := by
  intro x hx
  rw [List.mem_filter, List.mem_range] at hx
  exact hx
 refine List.Pairwise.imp_of_mem (fun {a b} ha hb hab => ?_) (List.Pairwise.filter _ h0)
 obtain ⟨hb1, hb2⟩ := hm b hb
 unfold keeps at hb2
 rw [decide_eq_true_eq] at hb2
 have hb3 : zs.toArray[b]! ≠ zs.toArray[b - 1]! := by
  rcases hb2 with e | e
  ·omega
  ·exact e
 have h1 := hle a (b - 1) (by omega) (by omega)
 have h2 := hle (b - 1) b (by omega) hb1
 rcases bs_tri zs.toArray[a]! zs.toArray[b]! with h3 | h3 | h3
 ·exact h3
 ·refine absurd ?_ hb3
  refine List.le_antisymm ?_ h2
  rw [← h3]; exact h1
 ·exact absurd h3 (List.not_lt.2 (List.le_trans h1 h2))
open Lib in
theorem compact_mem (zs : List Bs) (y : Bs) : y ∈ compact zs ↔ y ∈ zs := by
 unfold compact compactUpTo
 constructor
 ·intro h
  obtain ⟨i, hi, rfl⟩ := List.mem_map.1 h
  rw [List.mem_filter, List.mem_range] at hi
  rw [getElem!_pos zs.toArray i (by simpa using hi.1)]
  simp only [List.getElem_toArray]
  exact List.getElem_mem _
 ·intro h
  obtain ⟨i, hi, rfl⟩ := List.getElem_of_mem h
  clear h
  induction i with
  | zero =>
   refine List.mem_map.2 ⟨0, ?_, ?_⟩
   ·rw [List.mem_filter, List.mem_range]; exact ⟨hi, by simp [keeps]⟩
   ·rw [getElem!_pos zs.toArray 0 (by simpa using hi)]; simp
  | succ i ih =>
   by_cases e : zs[i + 1] = zs[i]
   ·rw [e]; exact ih (by omega)
   ·refine List.mem_map.2 ⟨i + 1, ?_, ?_⟩
    ·rw [List.mem_filter, List.mem_range]
     refine ⟨hi, ?_⟩
     unfold keeps
     rw [decide_eq_true_eq]
     right
     rw [getElem!_pos zs.toArray (i + 1) (by simpa using hi), getElem!_pos zs.toArray (i + 1 - 1) (by simp; omega)]
     simpa using e
    ·rw [getElem!_pos zs.toArray (i + 1) (by simpa using hi)]; simp
/-- Sorted and each once is what is put in one after the other. -/
theorem compact_putAll (ks : List Bs) : Lib.compact (ks.mergeSort fun x y => decide (x ≤ y)) = putAll ks := by
 refine rising_uniq (compact_rising _ ?_) (putAll_rising ks) (fun y => ?_)
 ·have := List.pairwise_mergeSort (le := fun (x y : Bs) => decide (x ≤ y)) (fun a b c h1 h2 => by simp only [decide_eq_true_eq] at *; exact List.le_trans h1 h2) (fun a b => by simp only [Bool.or_eq_true, decide_eq_true_eq]; exact List.le_total a b) ks
  exact this.imp fun h => by simpa using h
 ·rw [compact_mem, List.mem_mergeSort, putAll_mem]
end Go.Proofs.YtbhhjnbomhkdmaaGreatDoor

/- Layer 9 (records): what is fixed stays as it is; small letters and great ones are fixed alike. Plain. -/
namespace Go.Proofs.YtbhhjnbomhkdmaaGreatDoor
open Go.RowKit

theorem tagsL_put {l : List ByteArray} (h : tagsOk l) : tagsL l = putAll (l.map lowL) := (tags_yes h).2.trans (compact_putAll _)
theorem tagsL_mem {l : List ByteArray} (h : tagsOk l) (y : List UInt8) : y ∈ tagsL l ↔ ∃ x ∈ l, lowL x = y := by
 rw [tagsL_put h, putAll_mem, List.mem_map]
theorem tagsB_mem {l : List ByteArray} (h : tagsOk l) {y : ByteArray} (hy : y ∈ tagsB l) : ∃ x ∈ l, lowS x = y := by
 unfold tagsB at hy
 obtain ⟨b, hb, rfl⟩ := List.mem_map.1 hy
 obtain ⟨x, hx, rfl⟩ := (tagsL_mem h b).1 hb
 exact ⟨x, hx, rfl⟩
end Go.Proofs.YtbhhjnbomhkdmaaGreatDoor

/- append of a text's bytes to a slice of bytes that the call made itself, as one step of a walk. -/
namespace Go.Proofs.YtbhhjnbomhkdmaaGreatDoor
open Go.RowKit Go.Lib
set_option linter.unusedVariables false

theorem strCells_bs (s : ByteArray) : strCells s = bs s.data.toList := by simp [strCells, bs]
theorem append_text (w : World) {ops : Array Oper} {rest : List Oper} {o : Oper} {a : Act} {Q : Exit → Act → World → Prop} (hgd : o.guard = none) (sl x : Operand)
  (ho : o.op = .call { callee := .builtin .append, args := #[sl, x], argTypes := #[22, 9] })
  (B : Nat) (v : Value) (l : List UInt8) (hs : a.eval sl = v) (hown : Own w B v l) (s : ByteArray) (hx : a.eval x = .string s)
  (hlen : l.length + s.size ≤ 140737488355328) (hB : B ≤ w.heap.size)
  (h : ∀ v' w', Own w' B v' (l ++ s.data.toList) → Grew w w' v v' → wpList Tryz.prog ops Q rest (a.put o.dst v') w') : wpList Tryz.prog ops Q (o :: rest) a w := by
 obtain ⟨i, hi, hz0, hz1, hz2⟩ := info_parts info_u8
 refine wpList_plain hgd fun K hK => ?_
 obtain ⟨v', w', hr, h2, h3, h4⟩ := run_append_own_string (P := Tryz.prog) w B 22 9 o.type 5 i Tryz.underlying22 Tryz.underlying9 hi hz0 hz1 hz2 v l.length (bs l) hown s (by unfold maxLen; omega) hlen hB
 have hown2 : Own w' B v' (l ++ s.data.toList) := by
  unfold Own
  rw [bs_append, List.length_append, ← strCells_bs]
  have : s.data.toList.length = s.size := by simp
  rw [this]
  exact h2
 have hg : Grew w w' v v' := by
  refine ⟨h3, ?_⟩
  intro k hk
  rcases hown.2 with ⟨rfl, h0⟩ | ⟨g, cap, cur, rfl, hbg, hgg, hnc, hcm, hcs, htake⟩
  ·by_cases hm : s.size = 0
   ·have := h4.2 ⟨rfl, hm⟩; subst this; simp [Value.ownBlock] at hk
   ·have hr2 := run_append_nil_string (P := Tryz.prog) w 22 9 o.type 5 i (.int .u8 0) Tryz.underlying22 Tryz.underlying9 hi hz0 s (by omega) (by omega) (by rw [hz2]; omega)
    rw [hr] at hr2
    injection hr2 with e1 e2
    subst e1
    simp [Value.ownBlock] at hk
    right; omega
  ·have hcs' : cur.size = cap := by simpa using hcs
   by_cases hroom : l.length + s.size ≤ cap
   ·have hr2 := run_append_room_string (P := Tryz.prog) w 22 9 o.type 5 i Tryz.underlying22 Tryz.underlying9 hi hz1 g l.length cap cur hgg s hroom (by omega)
    rw [hr] at hr2
    injection hr2 with e1 e2
    subst e1
    left; exact hk
   ·have holds : ∀ j u, (bs l)[j]? = some u → w.cell? ((⟨g, 0, none⟩ : Addr).add j) = some u := World.ownsRow.cells (g := g) hown rfl
    have hr2 := run_append_grow_string (P := Tryz.prog) w 22 9 o.type 5 i (.int .u8 0) Tryz.underlying22 Tryz.underlying9 hi hz0 ⟨g, 0, none⟩ l.length cap (bs l) (by rw [hz1, bs_length]; omega) holds s (by omega) (by omega) (by rw [hz2]; exact growslice_fits (by omega) (by omega))
    rw [hr] at hr2
    injection hr2 with e1 e2
    subst e1
    simp [Value.ownBlock] at hk
    right; omega
 unfold Oper.wp execOp
 simp only [ho, resolve, invoke, builtin, Sem.run_bind, Sem.run_pure, Result.andThen_ok, List.map_toArray, List.map_cons, List.map_nil, hs, hx, hr]
 exact hK _ _ (h v' w' hown2 hg)
end Go.Proofs.YtbhhjnbomhkdmaaGreatDoor

/- Layer 13 (journal): texts as bytes: writeTexts. -/
namespace Go.Proofs.YtbhhjnbomhkdmaaGreatDoor
open Go.RowKit
set_option linter.unusedVariables false

def txtB (s : ByteArray) : List UInt8 := byteOf s.size :: s.data.toList
def txtsB (l : List ByteArray) : List UInt8 := l.flatMap txtB
theorem txtB_length (s : ByteArray) : (txtB s).length = s.size + 1 := by simp [txtB]
theorem txtsB_snoc (l : List ByteArray) (s : ByteArray) : txtsB (l ++ [s]) = txtsB l ++ txtB s := by simp [txtsB]
theorem txtsB_take_le : ∀ (l : List ByteArray) (k N : Nat), (∀ x ∈ l, x.size ≤ N) → (txtsB (l.take k)).length ≤ k * (N + 1)
 | [], k, N, _ => by simp [txtsB]
 | x :: l, 0, N, _ => by simp [txtsB]
 | x :: l, k + 1, N, h => by
  have ih := txtsB_take_le l k N (fun y hy => h y (List.mem_cons_of_mem _ hy))
  have h1 := h x (List.mem_cons_self ..)
  have e : txtsB ((x :: l).take (k + 1)) = txtB x ++ txtsB (l.take k) := by simp [txtsB]
  rw [e, List.length_append, txtB_length, Nat.succ_mul]
  omega

/-- Cells that lie apart from the slice v's own block. -/
def Apt (w : World) (v : Value) (ta : Option Addr) (cs : List Value) : Prop := CellsAt w ta cs ∧ (cs ≠ [] → ∀ k, v.ownBlock = some k → ∀ b off, ta = some ⟨b, off, none⟩ → b ≠ k)
theorem Apt.grew {w w' : World} {v v' : Value} {ta : Option Addr} {cs : List Value} (h : Apt w v ta cs) (hg : Grew w w' v v') : Apt w' v' ta cs := by
 constructor
 ·intro hne
  obtain ⟨b, off, ha, hc⟩ := h.1 hne
  exact ⟨b, off, ha, fun j u hj => hg.cell (hc j u hj) fun e => h.2 hne b e.symm b off ha rfl⟩
 ·intro hne k hk b off ha e
  subst e
  rcases hg.place b hk with h1 | h1
  ·exact h.2 hne b h1 b off ha rfl
  ·obtain ⟨b', off', ha', hc⟩ := h.1 hne
   rw [ha] at ha'
   injection ha' with ha'
   injection ha' with e1 e2
   obtain ⟨u, r, rfl⟩ := List.exists_cons_of_ne_nil hne
   have := World.block_lt_of_cell? w _ (hc 0 u rfl)
   simp only at this
   omega
theorem Apt.alloc {w : World} {v : Value} {ta : Option Addr} {cs : List Value} (h : Apt w v ta cs) (o : Obj) : Apt (w.alloc o) v ta cs := ⟨h.1.below ((Below.refl _ _).alloc (Nat.le_refl _) o), h.2⟩
theorem Apt.base {w w0 : World} {B : Nat} {v : Value} {l : List UInt8} {ta : Option Addr} {cs : List Value} (ho : Own w B v l) (hB : w0.heap.size ≤ B) (hb : Below w0.heap.size w0 w) (hc : CellsAt w0 ta cs) : Apt w v ta cs := by
 refine ⟨hc.below hb, fun hne k hk b off ha e => ?_⟩
 subst e
 have h1 := (ho.lt b hk).1
 obtain ⟨b', off', ha', hc⟩ := hc hne
 rw [ha] at ha'
 injection ha' with ha'
 injection ha' with e1 e2
 obtain ⟨u, r, rfl⟩ := List.exists_cons_of_ne_nil hne
 have := World.block_lt_of_cell? w0 _ (hc 0 u rfl)
 simp only at this
 omega

set_option maxRecDepth 100000 in
set_option maxHeartbeats 1000000 in
theorem writeTexts_calls (B : Nat) (v : Value) (l : List UInt8) (ta : Option Addr) (tc : Nat) (ts : List ByteArray) (w : World) (hown : Own w B v l) (hB : B ≤ w.heap.size) (hl : l.length ≤ 70368744177664) (hn : ts.length ≤ 1024) (ht : ∀ x ∈ ts, x.size ≤ 1048576) (hap : Apt w v ta (ts.map Value.string)) :
  Calls Tryz.prog 69 #[v, .slice ta ts.length tc] w fun e w' => ∃ v', e = .returned v' ∧ Own w' B v' (l ++ txtsB ts) ∧ Grew w w' v v' := by
 go_enter Tryz.func69, Tryz.ntmps69
 go_wp2
 go_loopw [0, 9] (fun x i wr => ∃ k : Nat, k ≤ ts.length ∧ i = .int .i64 k ∧ Own wr B x (l ++ txtsB (ts.take k)) ∧ Grew w wr v x) (fun _ i _ => ts.length - (intOf i).toNat)
 case atStart => exact ⟨0, Nat.zero_le _, rfl, by simpa [txtsB] using hown, Grew.refl _ _⟩
 case round =>
  obtain ⟨k, hk, rfl, ho, hg⟩ := hrel
  have hsz := hg.size
  by_cases hlt : k < ts.length
  ·have hle : (l ++ txtsB (ts.take k)).length ≤ 70368744177664 + 1024 * 1048577 := by
    have := txtsB_take_le ts k 1048576 ht
    simp only [List.length_append]
    have : k * 1048577 ≤ 1024 * 1048577 := Nat.mul_le_mul_right _ (by omega)
    omega
   obtain ⟨s, Hs⟩ : ∃ s, Hid (s = ts[k]'hlt) := ⟨_, rfl⟩
   have hss : s.size ≤ 1048576 := by rw [Hs.out]; exact ht _ (List.getElem_mem hlt)
   obtain ⟨b, off, rfl, hcell⟩ := (hap.grew hg).1.str k hlt
   rw [← Hs.out] at hcell
   have HT : Hid (l ++ txtsB (ts.take (k + 1)) = l ++ txtsB (ts.take k) ++ [byteOf s.size] ++ s.data.toList) := by
    show _ = _
    rw [list_take_snoc ts k hlt, txtsB_snoc, ← Hs.out]
    simp [txtB]
   have HN : Hid (bs [byteOf s.size] = [.int .u8 ((s.size : Int) % 256)]) := by simp [bs, byteOf_val, Hid]
   clear Hs
   obtain ⟨p, Hp⟩ : ∃ p, Hid (p = l ++ txtsB (ts.take k)) := ⟨_, rfl⟩
   rw [← Hp.out] at ho hle HT
   clear Hp
   go_wp2_with (at_builtin; refine append_bytes _ rfl (.tmp 13) (.tmp 17) rfl B _ _ rfl (ho.alloc _) ⟨wr.heap.size, 0, none⟩ 1 1 [byteOf s.size] rfl rfl (by intro j u hj; rw [HN.out] at hj; exact cells_new _ _ _ j u hj) (by omega) (by simp; omega) ?_)
   intro v1 w1 ho1 hg1
   have hg2 := hg.trans hg1.ofAlloc
   have hsz2 := hg2.size
   clear ho hg hg1 hcell
   have hle1 : (p ++ [byteOf s.size]).length ≤ 70368744177664 + 1024 * 1048577 + 1 := by simp only [List.length_append, List.length_cons, List.length_nil]; omega
   obtain ⟨p1, Hp1⟩ : ∃ p1, Hid (p1 = p ++ [byteOf s.size]) := ⟨_, rfl⟩
   rw [← Hp1.out] at ho1 hle1 HT
   clear Hp1
   go_wp2_with (at_builtin; refine append_text _ rfl (.tmp 19) (.tmp 20) rfl B _ _ rfl ho1 s rfl (by omega) (by omega) ?_)
   intro v2 w2 ho2 hg3
   have hg4 := hg2.trans hg3
   clear ho1 hg2 hg3
   go_wp2
   go_roundw
   case rel => exact ⟨k + 1, by omega, by go_num, by rw [HT.out]; exact ho2, hg4⟩
   case measure => simp [intOf]; omega
  ·obtain rfl : k = ts.length := by omega
   go_wp2
   go_ret
   exact ⟨_, rfl, by rw [List.take_of_length_le (by omega)] at ho; exact ho, hg⟩
theorem writeTexts_lit (B : Nat) (v : Value) (l : List UInt8) (ts : List ByteArray) (g n c : Nat) (cs : Array Value) (W : World) (hown : Own W B v l) (hB : B ≤ W.heap.size) (hl : l.length ≤ 70368744177664) (hg : g = W.heap.size) (hn : ts.length = n) (hcs : cs = (ts.map Value.string).toArray) (hk : n ≤ 1024) (ht : ∀ x ∈ ts, x.size ≤ 1048576) :
  Calls Tryz.prog 69 #[v, .slice (some ⟨g, 0, none⟩) n c] (W.alloc (.cells cs 9)) fun e w' => ∃ v', e = .returned v' ∧ Own w' B v' (l ++ txtsB ts) ∧ Grew W w' v v' := by
 subst hg hn hcs
 refine (writeTexts_calls B v l (some ⟨W.heap.size, 0, none⟩) c ts _ (hown.alloc _) (by simp; omega) hl hk ht ⟨?_, ?_⟩).mono ?_
 ·intro hne
  refine ⟨W.heap.size, 0, rfl, fun j u hj => ?_⟩
  rw [Nat.zero_add, World.cell?_alloc_mark]
  simpa using hj
 ·intro _ k hk b off e e2
  injection e with e
  injection e with e1
  subst e1 e2
  have := (hown.lt _ hk).2
  omega
 ·rintro e w' ⟨v', rfl, h1, h2⟩
  exact ⟨v', rfl, h1, h2.ofAlloc⟩
end Go.Proofs.YtbhhjnbomhkdmaaGreatDoor

/- Layer 13 (journal): the bytes of operations and entries, plain; what is sound. -/
namespace Go.Proofs.YtbhhjnbomhkdmaaGreatDoor
open Go.RowKit
set_option linter.unusedVariables false

def casB (o : Opp) : List UInt8 := if o.cas then 1 :: big 8 o.want else [0]
def svcB (s : Sp) : List UInt8 := txtsB [s.node, s.id, s.name] ++ big 2 s.port ++ [byteOf s.tags.length] ++ txtsB s.tags
def chkB (c : Ck) : List UInt8 := txtsB [c.node, c.id, c.service] ++ [byteOf c.status] ++ txtsB [c.note]
def bodyB (o : Opp) : List UInt8 :=
 if o.kind = 1 then txtsB [o.node.name, o.node.addr] else if o.kind = 2 then svcB o.svc else if o.kind = 3 then chkB o.chk else
 if o.kind = 4 then txtsB [o.node.name] else if o.kind = 5 then txtsB [o.svc.node, o.svc.id] else txtsB [o.chk.node, o.chk.id]
def opB (o : Opp) : List UInt8 := byteOf o.kind :: casB o ++ bodyB o
def opsB (os : List Opp) : List UInt8 := os.flatMap opB
def payB (i : Int) (os : List Opp) : List UInt8 := big 8 i ++ [byteOf os.length] ++ opsB os
def frameB (p : List UInt8) : List UInt8 := [77] ++ big 4 p.length ++ p ++ big 4 (sumB p)

def sameN (a b : Nd) : Bool := decide (a.name = b.name) && decide (a.addr = b.addr) && (a.made == b.made) && (a.changed == b.changed)
def sameS (a b : Sp) : Bool := decide (a.node = b.node) && decide (a.id = b.id) && decide (a.name = b.name) && (a.port == b.port) && decide (a.tags = b.tags) && (a.made == b.made) && (a.changed == b.changed)
def sameC (a b : Ck) : Bool := decide (a.node = b.node) && decide (a.id = b.id) && decide (a.service = b.service) && (a.status == b.status) && decide (a.note = b.note) && (a.made == b.made) && (a.changed == b.changed)
def sameO (a b : Opp) : Bool := (a.kind == b.kind) && sameN a.node b.node && sameS a.svc b.svc && sameC a.chk b.chk && (a.cas == b.cas) && (a.want == b.want)
theorem sameN_iff (a b : Nd) : sameN a b = true ↔ a = b := by
 obtain ⟨a1, a2, a3, a4⟩ := a
 obtain ⟨b1, b2, b3, b4⟩ := b
 simp [sameN, and_assoc]
theorem sameS_iff (a b : Sp) : sameS a b = true ↔ a = b := by
 obtain ⟨a1, a2, a3, a4, a5, a6, a7⟩ := a
 obtain ⟨b1, b2, b3, b4, b5, b6, b7⟩ := b
 simp [sameS, and_assoc]
theorem sameC_iff (a b : Ck) : sameC a b = true ↔ a = b := by
 obtain ⟨a1, a2, a3, a4, a5, a6, a7⟩ := a
 obtain ⟨b1, b2, b3, b4, b5, b6, b7⟩ := b
 simp [sameC, and_assoc]
theorem sameO_iff (a b : Opp) : sameO a b = true ↔ a = b := by
 obtain ⟨a1, a2, a3, a4, a5, a6⟩ := a
 obtain ⟨b1, b2, b3, b4, b5, b6⟩ := b
 simp [sameO, and_assoc, sameN_iff, sameS_iff, sameC_iff]
/-- An operation that is its own normal form. -/
def sndB (o : Opp) : Bool := decide (oppE o = 0) && sameO o (oppF o)
theorem sndB_iff (o : Opp) : sndB o = true ↔ oppE o = 0 ∧ o = oppF o := by simp [sndB, sameO_iff]
/-- An entry that is sound. -/
def soundB (os : List Opp) : Bool := decide (1 ≤ os.length) && decide (os.length ≤ 64) && os.all sndB

theorem lab_le {s : ByteArray} : (labT s).size ≤ 63 := by
 unfold labT
 split
 ·rename_i h
  have := (labB_all h).2.1
  rw [lowS_size]
  exact this
 ·exact Nat.zero_le _
theorem dec_le {n : Nat} (h : n ≤ 255) : (Lib.decDigits n).length ≤ 3 := by
 by_cases h1 : n < 10
 ·rw [dec_one h1]; simp
 rw [dec_more h1]
 by_cases h2 : n / 10 < 10
 ·rw [dec_one h2]; simp
 rw [dec_more h2]
 rw [dec_one (by omega)]
 simp
theorem oct_short {l : List UInt8} (h : (octP l).isSome = true) : l.length ≤ 3 := by
 obtain ⟨n, hn⟩ := Option.isSome_iff_exists.1 h
 obtain ⟨h1, h2⟩ := oct_dec hn
 rw [← h1]
 exact dec_le h2
theorem sp_sum (c : UInt8) : ∀ l : List UInt8, (sp c l).flatten.length + (sp c l).length = l.length + 1
 | [] => by simp [sp]
 | b :: l => by
  have ih := sp_sum c l
  rw [sp_cons]
  split
  ·simp only [List.flatten_cons, List.length_append, List.length_cons, List.length_nil]; omega
  ·split
   ·next p r e =>
    rw [e] at ih
    simp only [List.flatten_cons, List.length_append, List.length_cons] at ih ⊢
    omega
   ·next e => exact absurd e (sp_ne c l)
theorem flat_le (N : Nat) : ∀ l : List (List UInt8), (∀ p ∈ l, p.length ≤ N) → l.flatten.length ≤ l.length * N
 | [], _ => by simp
 | p :: l, h => by
  have ih := flat_le N l fun q hq => h q (List.mem_cons_of_mem _ hq)
  have := h p (List.mem_cons_self ..)
  simp only [List.flatten_cons, List.length_append, List.length_cons, Nat.succ_mul]
  omega
theorem sp_total (c : UInt8) (l : List UInt8) (h1 : (sp c l).length ≤ 4) (h2 : ∀ p ∈ sp c l, p.length ≤ 3) : l.length ≤ 15 := by
 have a := sp_sum c l
 have b := flat_le 3 _ h2
 omega
theorem adr_le {s : ByteArray} (h : adrE s = 0) : s.size ≤ 15 := by
 have hk : adrOk s = true := by
  cases hk : adrOk s
  ·rw [(adr_no hk).2] at h; cases h
  ·rfl
 simp only [adrOk, Bool.and_eq_true, beq_iff_eq, List.all_eq_true] at hk
 have e := ws_sp s 46
 have hl : (sp 46 s.data.toList).length = 4 := by rw [← e, List.length_map]; exact hk.1
 have := sp_total 46 s.data.toList (by omega) (fun p hp => by
  rw [← e] at hp
  obtain ⟨q, hq, rfl⟩ := List.mem_map.1 hp
  exact oct_short (hk.2 q hq))
 simpa using this

/-- The six kinds of operations that are their own normal form. -/
inductive Snd : Opp → Prop
 | node (n a : ByteArray) (b : Bool) (x : Int) : (b = false → x = 0) → n.size ≤ 63 → a.size ≤ 15 → Snd ⟨1, ⟨n, a, 0, 0⟩, svcZ, chkZ, b, x⟩
 | svc (n i m : ByteArray) (p : Int) (t : List ByteArray) (b : Bool) (x : Int) : (b = false → x = 0) → n.size ≤ 63 → i.size ≤ 63 → m.size ≤ 63 → 1 ≤ p → p ≤ 65535 → t.length ≤ 16 → (∀ y ∈ t, y.size ≤ 63) → Snd ⟨2, nodeZ, ⟨n, i, m, p, t, 0, 0⟩, chkZ, b, x⟩
 | chk (n i m : ByteArray) (p : Int) (t : ByteArray) (b : Bool) (x : Int) : (b = false → x = 0) → n.size ≤ 63 → i.size ≤ 63 → m.size ≤ 63 → 1 ≤ p → p ≤ 3 → t.size ≤ 200 → Snd ⟨3, nodeZ, svcZ, ⟨n, i, m, p, t, 0, 0⟩, b, x⟩
 | dnode (n : ByteArray) (b : Bool) (x : Int) : (b = false → x = 0) → n.size ≤ 63 → Snd ⟨4, ⟨n, ⟨#[]⟩, 0, 0⟩, svcZ, chkZ, b, x⟩
 | dsvc (n i : ByteArray) (b : Bool) (x : Int) : (b = false → x = 0) → n.size ≤ 63 → i.size ≤ 63 → Snd ⟨5, nodeZ, ⟨n, i, ⟨#[]⟩, 0, [], 0, 0⟩, chkZ, b, x⟩
 | dchk (n i : ByteArray) (b : Bool) (x : Int) : (b = false → x = 0) → n.size ≤ 63 → i.size ≤ 63 → Snd ⟨6, nodeZ, svcZ, ⟨n, i, ⟨#[]⟩, 0, ⟨#[]⟩, 0, 0⟩, b, x⟩
theorem want_no {o : Opp} : o.cas = false → wantF o = 0 := fun h => by unfold wantF; rw [h]; rfl
theorem orE_zeros {a b : Int} (h : orE a b = 0) : a = 0 ∧ b = 0 := by
 unfold orE at h
 split at h
 ·rename_i h2; exact ⟨h2, h⟩
 ·rename_i h2; exact absurd h h2
theorem spT_le {s : ByteArray} : (spT s).size ≤ 63 := by
 unfold spT
 split
 ·exact Nat.zero_le _
 ·exact lab_le
theorem tagsB_le {l : List ByteArray} (h : tagsE l = 0) : (tagsB l).length ≤ 16 ∧ ∀ y ∈ tagsB l, y.size ≤ 63 := by
 by_cases hk : tagsOk l
 ·have h2 := (tags_yes hk).2
  constructor
  ·rw [tagsB_len, h2]
   refine Nat.le_trans (compact_le _) ?_
   rw [List.length_mergeSort, List.length_map]
   exact hk.1
  ·intro y hy
   obtain ⟨x, hx, rfl⟩ := tagsB_mem hk hy
   have := (labB_all (hk.2 x hx)).2.1
   rw [lowS_size]
   exact this
 ·rw [(tags_no hk).1] at h
  cases h
theorem snd_shape {o : Opp} (h : sndB o = true) : Snd o := by
 obtain ⟨he, hf⟩ := (sndB_iff o).1 h
 unfold oppF at hf
 rw [if_pos he] at hf
 rw [hf]
 unfold oppE at he
 unfold oppN
 by_cases h1 : o.kind = 1
 ·rw [if_pos h1] at he ⊢
  have hz := orE_zeros he
  rw [fixN_yes he, h1]
  exact .node _ _ _ _ want_no lab_le (adr_le hz.2)
 rw [if_neg h1] at he ⊢
 by_cases h2 : o.kind = 2
 ·rw [if_pos h2] at he ⊢
  have hz := svc_parts he
  rw [svc_yes he, h2]
  have hp := hz.2.2.1
  unfold portE at hp
  split at hp
  ·cases hp
  ·exact .svc _ _ _ _ _ _ _ want_no lab_le lab_le lab_le (by omega) (by omega) (tagsB_le hz.2.2.2).1 (tagsB_le hz.2.2.2).2
 rw [if_neg h2] at he ⊢
 by_cases h3 : o.kind = 3
 ·rw [if_pos h3] at he ⊢
  have hz := chk_parts he
  rw [chk_yes he, h3]
  have hp := hz.2.2.1
  have hn := hz.2.2.2
  unfold statE at hp
  unfold noteE at hn
  split at hp
  ·split at hn
   ·rename_i hh hh2
    exact .chk _ _ _ _ _ _ _ want_no lab_le lab_le spT_le (by omega) (by omega) hh2.1
   ·cases hn
  ·cases hp
 rw [if_neg h3] at he ⊢
 by_cases h4 : o.kind = 4
 ·rw [if_pos h4, h4]
  exact .dnode _ _ _ want_no lab_le
 rw [if_neg h4] at he ⊢
 by_cases h5 : o.kind = 5
 ·rw [if_pos h5, h5]
  exact .dsvc _ _ _ _ want_no lab_le lab_le
 rw [if_neg h5] at he ⊢
 by_cases h6 : o.kind = 6
 ·rw [h6]
  exact .dchk _ _ _ _ want_no lab_le lab_le
 rw [if_neg h6] at he
 cases he
end Go.Proofs.YtbhhjnbomhkdmaaGreatDoor
