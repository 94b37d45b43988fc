import Derived.Test.YtgjcchafmcccjaaGreatDoorRcFix0
import Derived.Deep.RegionHeld3
import Derived.Test.YtgjcchafmcccjaaGreatDoorRwSort
import Derived.Test.YtgjcchafmcccjaaGreatDoorRcFixS
/- Layer 9 (records): FixCheck. -/
namespace Go.Proofs.YtgjcchafmcccjaaGreatDoor
open Go.RowKit
set_option linter.unusedVariables false

structure Ck where
  node : ByteArray
  id : ByteArray
  service : ByteArray
  status : Int
  note : ByteArray
  made : Int
  changed : Int
def Ck.v (c : Ck) : Array Value := #[.string c.node, .string c.id, .string c.service, .int .i64 c.status, .string c.note, .int .u64 c.made, .int .u64 c.changed]
def chkZ : Ck := ⟨⟨#[]⟩, ⟨#[]⟩, ⟨#[]⟩, 0, ⟨#[]⟩, 0, 0⟩
def chkE (c : Ck) : Int := firstE [idE c.node c.id, spE c.service, statE c.status, noteE c.note]
def chkF (c : Ck) : Ck := if chkE c = 0 then ⟨labT c.node, labT c.id, spT c.service, c.status, c.note, 0, 0⟩ else chkZ
theorem chk_yes {c : Ck} (h : chkE c = 0) : chkF c = ⟨labT c.node, labT c.id, spT c.service, c.status, c.note, 0, 0⟩ := if_pos h
theorem chk_no {c : Ck} (h : ¬ chkE c = 0) : chkF c = chkZ := if_neg h
theorem chk_parts {c : Ck} (h : chkE c = 0) : idE c.node c.id = 0 ∧ spE c.service = 0 ∧ statE c.status = 0 ∧ noteE c.note = 0 := by
  unfold chkE at h
  simp only [firstE, orE] at h
  split at h
  · next h1 =>
    split at h
    · next h2 =>
      split at h
      · next h3 =>
        split at h
        · next h4 => exact ⟨h1, h2, h3, h4⟩
        · next h4 => exact absurd h h4
      · next h3 => exact absurd h h3
    · next h2 => exact absurd h h2
  · next h1 => exact absurd h h1
structure Ck.small (c : Ck) : Prop where
  node : c.node.size ≤ 140737488351296
  id : c.id.size ≤ 140737488351296
  service : c.service.size ≤ 140737488351296
  note : c.note.size ≤ 140737488351296
end Go.Proofs.YtgjcchafmcccjaaGreatDoor

/- Layer 9 (records): operations, plain. -/
namespace Go.Proofs.YtgjcchafmcccjaaGreatDoor
open Go.RowKit
set_option linter.unusedVariables false

structure Opp where
  kind : Int
  node : Nd
  svc : Sp
  chk : Ck
  cas : Bool
  want : Int
def Opp.v (o : Opp) (t : Value) : Array Value := #[.int .i64 o.kind, .string o.node.name, .string o.node.addr, .int .u64 o.node.made, .int .u64 o.node.changed,
  .string o.svc.node, .string o.svc.id, .string o.svc.name, .int .i64 o.svc.port, t, .int .u64 o.svc.made, .int .u64 o.svc.changed,
  .string o.chk.node, .string o.chk.id, .string o.chk.service, .int .i64 o.chk.status, .string o.chk.note, .int .u64 o.chk.made, .int .u64 o.chk.changed, .bool o.cas, .int .u64 o.want]
def oppZ : Opp := ⟨0, nodeZ, svcZ, chkZ, false, 0⟩
def wantF (o : Opp) : Int := if o.cas then o.want else 0
/-- The error of an operation, and its normal form where there is none. -/
def oppE (o : Opp) : Int :=
  if o.kind = 1 then nodeE o.node else if o.kind = 2 then svcE o.svc else if o.kind = 3 then chkE o.chk else
  if o.kind = 4 then labE o.node.name else if o.kind = 5 then idE o.svc.node o.svc.id else if o.kind = 6 then idE o.chk.node o.chk.id else 96
def oppN (o : Opp) : Opp :=
  if o.kind = 1 then ⟨o.kind, fixN o.node, svcZ, chkZ, o.cas, wantF o⟩ else if o.kind = 2 then ⟨o.kind, nodeZ, svcF o.svc, chkZ, o.cas, wantF o⟩ else if o.kind = 3 then ⟨o.kind, nodeZ, svcZ, chkF o.chk, o.cas, wantF o⟩ else
  if o.kind = 4 then ⟨o.kind, ⟨labT o.node.name, ⟨#[]⟩, 0, 0⟩, svcZ, chkZ, o.cas, wantF o⟩ else if o.kind = 5 then ⟨o.kind, nodeZ, ⟨labT o.svc.node, labT o.svc.id, ⟨#[]⟩, 0, [], 0, 0⟩, chkZ, o.cas, wantF o⟩ else
  ⟨o.kind, nodeZ, svcZ, ⟨labT o.chk.node, labT o.chk.id, ⟨#[]⟩, 0, ⟨#[]⟩, 0, 0⟩, o.cas, wantF o⟩
def oppF (o : Opp) : Opp := if oppE o = 0 then oppN o else oppZ
structure Opp.small (o : Opp) : Prop where
  name : o.node.name.size ≤ 140737488351296
  addr : o.node.addr.size ≤ 140737488351296
  svc : o.svc.small
  chk : o.chk.small
/-- An operation is answered, its tags in memory of their own. -/
def OppA (w : World) (r : Opp) (x : Int) (e : Ending) (w' : World) : Prop := ∃ v, e = .returned (.tuple #[.agg (r.v v), .int .i64 x]) ∧ w'.ownsRow w.heap.size 9 1 v r.svc.tags.length (r.svc.tags.map Value.string) ∧ Below w.heap.size w w'
theorem three_new (w : World) (o1 o2 o3 : Obj) : (((w.alloc o1).alloc o2).alloc o3).heap[w.heap.size]? = some o1 ∧ (((w.alloc o1).alloc o2).alloc o3).heap[w.heap.size + 1]? = some o2 ∧ (((w.alloc o1).alloc o2).alloc o3).heap[w.heap.size + 1 + 1]? = some o3 ∧
    Below w.heap.size w (((w.alloc o1).alloc o2).alloc o3) := ⟨(three_alloc w o1 o2 o3).1, (three_alloc w o1 o2 o3).2.1, (three_alloc w o1 o2 o3).2.2.1, (three_alloc w o1 o2 o3).2.2.2.1⟩
theorem row_putK {w : World} {B g : Nat} {e T : TypeId} {size : Nat} {v : Value} {n : Nat} {xs : List Value} {cs : Array Value} (hg : Blk w g cs T) (hT : T ≠ e) (h : w.ownsRow B e size v n xs) (l : List Value) (k : Nat) : (putC w g k l).ownsRow B e size v n xs := by
  refine ⟨h.1, ?_⟩
  rcases h.2 with h1 | ⟨g', cap, cur, h1, h2, h3, h4⟩
  · exact .inl h1
  · refine .inr ⟨g', cap, cur, h1, h2, putC_other (fun e' => ?_) l w k h3, h4⟩
    subst e'
    have hg' : w.heap[g']? = some (.cells cs T) := hg
    rw [h3] at hg'
    injection hg' with hg'
    injection hg' with _ hg'
    exact hT hg'.symm
end Go.Proofs.YtgjcchafmcccjaaGreatDoor

/- Layer 7 (rows): texts put in one after the other, and texts sorted, each once. -/
namespace Go.Proofs.YtgjcchafmcccjaaGreatDoor
open Go.RowKit
set_option linter.unusedVariables false

abbrev Bs := List UInt8
/-- The texts with k among them, as the document puts it. -/
def putR (k : Bs) : Bool → List Bs → List Bs
  | pl, [] => if pl then [] else [k]
  | pl, x :: l => (if !pl && !decide (x < k) then [k] else []) ++ ((if x = k then [] else [x]) ++ putR k (pl || !decide (x < k)) l)
def Rising (l : List Bs) : Prop := l.Pairwise (· < ·)
theorem bs_lt_trans {a b c : Bs} (h1 : a < b) (h2 : b < c) : a < c := List.lt_trans h1 h2
theorem bs_tri (a b : Bs) : a < b ∨ a = b ∨ b < a := by
  rcases Classical.em (a < b) with h | h
  · exact .inl h
  · rcases Classical.em (b < a) with h' | h'
    · exact .inr (.inr h')
    · exact .inr (.inl (List.le_antisymm (List.not_lt.1 h') (List.not_lt.1 h)))
theorem putR_true (k : Bs) : ∀ l : List Bs, (∀ x ∈ l, k ≤ x) → Rising l → putR k true l = l.filter (fun x => decide (x ≠ k))
  | [], _, _ => rfl
  | x :: l, h, hr => by
    have h2 := putR_true k l (fun y hy => h y (List.mem_cons_of_mem _ hy)) (List.Pairwise.of_cons hr)
    unfold putR
    rw [Bool.true_or, h2]
    by_cases hx : x = k <;> simp [hx]
theorem putR_mem (k : Bs) : ∀ (l : List Bs) (pl : Bool) (y : Bs), y ∈ putR k pl l → y = k ∨ (y ∈ l)
  | [], pl, y, h => by
    unfold putR at h
    cases pl
    · simp at h; exact .inl h
    · simp at h
  | x :: l, pl, y, h => by
    unfold putR at h
    rcases List.mem_append.1 h with h | h
    · split at h
      · simp at h; exact .inl h
      · simp at h
    · rcases List.mem_append.1 h with h | h
      · split at h
        · simp at h
        · simp at h; exact .inr (by simp [h])
      · rcases putR_mem k l _ y h with h | h
        · exact .inl h
        · exact .inr (List.mem_cons_of_mem _ h)
theorem putR_keeps (k : Bs) : ∀ (l : List Bs) (pl : Bool) (y : Bs), y ∈ l → y ≠ k → y ∈ putR k pl l
  | [], pl, y, h, _ => by simp at h
  | x :: l, pl, y, h, hn => by
    unfold putR
    rcases List.mem_cons.1 h with rfl | h
    · simp [hn]
    · have := putR_keeps k l (pl || !decide (x < k)) y h hn
      simp only [List.mem_append]
      exact .inr (.inr this)
theorem putR_has (k : Bs) : ∀ (l : List Bs), k ∈ putR k false l
  | [] => by simp [putR]
  | x :: l => by
    unfold putR
    by_cases h : x < k
    · have := putR_has k l
      simp only [List.mem_append]
      exact .inr (.inr (by simpa [h] using this))
    · simp [h]
theorem putR_after (k : Bs) : ∀ (l : List Bs), (∀ x ∈ l, k ≤ x) → Rising l → Rising (putR k true l) ∧ ∀ y ∈ putR k true l, k < y := by
  intro l h hr
  rw [putR_true k l h hr]
  refine ⟨List.Pairwise.filter _ hr, fun y hy => ?_⟩
  rw [List.mem_filter] at hy
  have h1 := h y hy.1
  have h2 : y ≠ k := by simpa using hy.2
  rcases bs_tri k y with h3 | h3 | h3
  · exact h3
  · exact absurd h3.symm h2
  · exact absurd h3 (List.not_lt.2 h1)
theorem putR_rising (k : Bs) : ∀ (l : List Bs), Rising l → Rising (putR k false l)
  | [], _ => by simp [putR, Rising]
  | x :: l, hr => by
    have hr2 : Rising l := List.Pairwise.of_cons hr
    have hx : ∀ y ∈ l, x < y := fun y hy => List.rel_of_pairwise_cons hr hy
    unfold putR
    by_cases h : x < k
    · have ih := putR_rising k l hr2
      have hne : x ≠ k := fun e => by subst e; exact List.lt_irrefl x h
      simp only [h, hne, decide_true, Bool.not_true, Bool.and_false, Bool.or_false, if_false, List.nil_append, Bool.false_eq_true]
      show Rising (x :: putR k false l)
      refine List.Pairwise.cons (fun y hy => ?_) ih
      rcases putR_mem k l false y hy with rfl | hy
      · exact h
      · exact hx y hy
    · have hk : k ≤ x := List.not_lt.1 h
      have ha : ∀ y ∈ l, k ≤ y := fun y hy => List.not_lt.1 fun hl => h (bs_lt_trans (hx y hy) hl)
      obtain ⟨h1, h2⟩ := putR_after k l ha hr2
      simp only [h, decide_false, Bool.not_false, Bool.and_true, Bool.or_true, if_true]
      by_cases hxk : x = k
      · simp only [hxk, if_true, List.nil_append]
        exact List.Pairwise.cons h2 h1
      · simp only [hxk, if_false]
        have hlt : k < x := by
          rcases bs_tri k x with h3 | h3 | h3
          · exact h3
          · exact absurd h3.symm hxk
          · exact absurd h3 h
        refine List.Pairwise.cons (fun y hy => ?_) (List.Pairwise.cons (fun y hy => ?_) h1)
        · rcases List.mem_cons.1 hy with rfl | hy
          · exact hlt
          · exact h2 y hy
        · rcases putR_mem k l true y hy with rfl | hy'
          · exact absurd (h2 y hy) (List.lt_irrefl y)
          · exact hx y hy'
/-- All of them, one after the other. -/
def putAll (ks : List Bs) : List Bs := ks.foldl (fun l k => putR k false l) []
theorem putAll_snoc (ks : List Bs) (k : Bs) : putAll (ks ++ [k]) = putR k false (putAll ks) := by
  unfold putAll
  rw [List.foldl_append]
  rfl
theorem foldl_rising (ks : List Bs) : ∀ l : List Bs, Rising l → Rising (ks.foldl (fun l k => putR k false l) l) ∧ ∀ y, y ∈ ks.foldl (fun l k => putR k false l) l ↔ y ∈ l ∨ y ∈ ks := by
  induction ks with
  | nil => intro l hl; exact ⟨hl, fun y => by simp⟩
  | cons k ks ih =>
    intro l hl
    obtain ⟨h1, h2⟩ := ih (putR k false l) (putR_rising k l hl)
    refine ⟨h1, fun y => ?_⟩
    rw [List.foldl_cons, h2]
    constructor
    · rintro (h | h)
      · rcases putR_mem k l false y h with rfl | h
        · simp
        · simp [h]
      · simp [h]
    · rintro (h | h)
      · by_cases e : y = k
        · subst e; exact .inl (putR_has _ _)
        · exact .inl (putR_keeps k l false y h e)
      · rcases List.mem_cons.1 h with rfl | h
        · exact .inl (putR_has _ _)
        · exact .inr h
theorem putAll_rising (ks : List Bs) : Rising (putAll ks) := (foldl_rising ks [] List.Pairwise.nil).1
theorem putAll_mem (ks : List Bs) (y : Bs) : y ∈ putAll ks ↔ y ∈ ks := by
  have := (foldl_rising ks [] List.Pairwise.nil).2 y
  unfold putAll
  simpa using this
theorem rising_uniq {a b : List Bs} (ha : Rising a) (hb : Rising b) (h : ∀ y, y ∈ a ↔ y ∈ b) : a = b := by
  have na : a.Nodup := ha.imp fun h e => by subst e; exact List.lt_irrefl _ h
  have nb : b.Nodup := hb.imp fun h e => by subst e; exact List.lt_irrefl _ h
  refine List.Perm.eq_of_pairwise (le := (· < ·)) (fun x y _ _ h1 h2 => absurd (bs_lt_trans h1 h2) (List.lt_irrefl _)) ha hb ((List.perm_ext_iff_of_nodup na nb).2 h)
open Lib in
theorem compact_rising (zs : List Bs) (h : zs.Pairwise (· ≤ ·)) : Rising (compact zs) := by
  unfold Rising compact compactUpTo
  rw [List.pairwise_map]
  have h0 : (List.range zs.length).Pairwise (· < ·) := List.pairwise_lt_range
  have hle : ∀ i j, i ≤ j → j < zs.length → zs.toArray[i]! ≤ zs.toArray[j]! := by
    intro i j hij hj
    rw [getElem!_pos zs.toArray i (by simpa using (by omega : i < zs.length)), getElem!_pos zs.toArray j (by simpa using hj)]
    simp only [List.getElem_toArray]
    rcases Nat.lt_or_ge i j with h' | h'
    · exact List.pairwise_iff_getElem.1 h i j _ _ h'
    · have : i = j := by omega
      subst this
      exact List.le_refl _
  have hm : ∀ x ∈ List.filter (keeps zs.toArray) (List.range zs.length), x < zs.length ∧ keeps zs.toArray x = true := by
    intro x hx
    rw [List.mem_filter, List.mem_range] at hx
    exact hx
  refine List.Pairwise.imp_of_mem (fun {a b} ha hb hab => ?_) (List.Pairwise.filter _ h0)
  obtain ⟨hb1, hb2⟩ := hm b hb
  unfold keeps at hb2
  rw [decide_eq_true_eq] at hb2
  have hb3 : zs.toArray[b]! ≠ zs.toArray[b - 1]! := by
    rcases hb2 with e | e
    · omega
    · exact e
  have h1 := hle a (b - 1) (by omega) (by omega)
  have h2 := hle (b - 1) b (by omega) hb1
  rcases bs_tri zs.toArray[a]! zs.toArray[b]! with h3 | h3 | h3
  · exact h3
  · refine absurd ?_ hb3
    refine List.le_antisymm ?_ h2
    rw [← h3]; exact h1
  · exact absurd h3 (List.not_lt.2 (List.le_trans h1 h2))
open Lib in
theorem compact_mem (zs : List Bs) (y : Bs) : y ∈ compact zs ↔ y ∈ zs := by
  unfold compact compactUpTo
  constructor
  · intro h
    obtain ⟨i, hi, rfl⟩ := List.mem_map.1 h
    rw [List.mem_filter, List.mem_range] at hi
    rw [getElem!_pos zs.toArray i (by simpa using hi.1)]
    simp only [List.getElem_toArray]
    exact List.getElem_mem _
  · intro h
    obtain ⟨i, hi, rfl⟩ := List.getElem_of_mem h
    clear h
    induction i with
    | zero =>
      refine List.mem_map.2 ⟨0, ?_, ?_⟩
      · rw [List.mem_filter, List.mem_range]; exact ⟨hi, by simp [keeps]⟩
      · rw [getElem!_pos zs.toArray 0 (by simpa using hi)]; simp
    | succ i ih =>
      by_cases e : zs[i + 1] = zs[i]
      · rw [e]; exact ih (by omega)
      · refine List.mem_map.2 ⟨i + 1, ?_, ?_⟩
        · rw [List.mem_filter, List.mem_range]
          refine ⟨hi, ?_⟩
          unfold keeps
          rw [decide_eq_true_eq]
          right
          rw [getElem!_pos zs.toArray (i + 1) (by simpa using hi), getElem!_pos zs.toArray (i + 1 - 1) (by simp; omega)]
          simpa using e
        · rw [getElem!_pos zs.toArray (i + 1) (by simpa using hi)]; simp
/-- Sorted and each once is what is put in one after the other. -/
theorem compact_putAll (ks : List Bs) : Lib.compact (ks.mergeSort fun x y => decide (x ≤ y)) = putAll ks := by
  refine rising_uniq (compact_rising _ ?_) (putAll_rising ks) (fun y => ?_)
  · have := List.pairwise_mergeSort (le := fun (x y : Bs) => decide (x ≤ y)) (fun a b c h1 h2 => by simp only [decide_eq_true_eq] at *; exact List.le_trans h1 h2) (fun a b => by simp only [Bool.or_eq_true, decide_eq_true_eq]; exact List.le_total a b) ks
    exact this.imp fun h => by simpa using h
  · rw [compact_mem, List.mem_mergeSort, putAll_mem]
end Go.Proofs.YtgjcchafmcccjaaGreatDoor
