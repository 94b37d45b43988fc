import Derived.Test.YtgjcchafmcccjaaGreatDoorRwLowR
import Derived.Test.YtgjcchafmcccjaaGreatDoorRwAll3
import Derived.Test.YtgjcchafmcccjaaGreatDoorRwPut
import Derived.Test.YtgjcchafmcccjaaGreatDoorRwKeys
/- Layer 7 (rows): the document's own. -/
namespace Go.Proofs.YtgjcchafmcccjaaGreatDoor
open Go.RowKit
set_option linter.unusedVariables false
attribute [local go_sem] Oper.semAt_some

/-- Is the text of the index's field at that place empty? -/
def lackT (fs : List Fd) (cs : List CV) (e : ByteArray) (p : Int) : Bool := if (fs.getD p.toNat noF).k = 2 then false else if (fs.getD p.toNat noF).k = 3 then e.toList.isEmpty else (cs.getD p.toNat noC).t.toList.isEmpty
def lowIfP (l : Bool) (p : Pt) : Pt := if l then lowPt p else p
def lowIfS (l : Bool) (s : ByteArray) : ByteArray := if l then lowS s else s
theorem ownP_map (fs : List Fd) (x : Ix) (cs : List CV) (e : ByteArray) : ownP fs x cs e = x.ov.map fun p => lowIfP x.l (cellP fs cs e p) := by
  unfold ownP
  cases h : x.l
  · rfl
  · rw [if_pos rfl, List.map_map]; rfl
theorem low_nil : lowS ⟨#[]⟩ = ⟨#[]⟩ := rfl

/-- While the document's own gathers its parts. -/
structure OnI (w : World) (t : TV) (x : XV) (ca : Option Addr) (cc : Nat) (cs : List CV) (v : Value) (qs : List Pt) (wr : World) : Prop where
  tab : wr.heap[w.heap.size]? = some (.cells #[.string t.n, t.fv, t.xv] 42)
  bx : wr.heap[w.heap.size + 1]? = some (.cells #[.string x.x.n, .slice x.va x.x.ov.length x.vc, .bool x.x.u, .bool x.x.l, .bool x.x.s] 67)
  rw' : wr.heap[w.heap.size + 2]? = some (.cells #[.slice ca cs.length cc] 45)
  own : OwnP wr w.heap.size v qs
  be : Below w.heap.size w wr
theorem OnI.below {w : World} {t : TV} {x : XV} {ca : Option Addr} {cc : Nat} {cs : List CV} {v : Value} {qs : List Pt} {wr w' : World} (h : OnI w t x ca cc cs v qs wr) (hb : Below wr.heap.size wr w') : OnI w t x ca cc cs v qs w' :=
  ⟨(hb.block _ (lt_blk h.tab)).trans h.tab, (hb.block _ (lt_blk h.bx)).trans h.bx, (hb.block _ (lt_blk h.rw')).trans h.rw', h.own.below hb, h.be.trans (hb.mono h.be.size)⟩
theorem OnI.grew {w : World} {t : TV} {x : XV} {ca : Option Addr} {cc : Nat} {cs : List CV} {v v' : Value} {qs qs' : List Pt} {wr w' : World} (h : OnI w t x ca cc cs v qs wr) (ho : OwnP w' w.heap.size v' qs') (hg : Grew wr w' v v') : OnI w t x ca cc cs v' qs' w' :=
  ⟨(hg.grown.block _ (lt_blk h.tab) (fun e => row_ne h.own h.tab (by decide) e.symm)).trans h.tab, (hg.grown.block _ (lt_blk h.bx) (fun e => row_ne h.own h.bx (by decide) e.symm)).trans h.bx, (hg.grown.block _ (lt_blk h.rw') (fun e => row_ne h.own h.rw' (by decide) e.symm)).trans h.rw', ho, h.be.trans (h.own.toBelow h.be.size hg)⟩

end Go.Proofs.YtgjcchafmcccjaaGreatDoor

/- Layer 7 (rows): the document's key lists are the program's. -/
namespace Go.Proofs.YtgjcchafmcccjaaGreatDoor
open Go.RowKit
set_option linter.unusedVariables false

/-- The document's first loop: how many lists there are, and whether a text or the list is empty. -/
def textE (fs : List Fd) (cs : List CV) (p : Int) : Bool := decide ((fs.getD p.toNat noF).k = 1) && (cs.getD p.toNat noC).t.toList.isEmpty
def stepR (fs : List Fd) (cs : List CV) (s : Nat × Bool) (p : Int) : Nat × Bool := if (fs.getD p.toNat noF).k = 3 then ((cs.getD p.toNat noC).l.length, decide ((cs.getD p.toNat noC).l.length = 0)) else (s.1, s.2 || textE fs cs p)
def lackR (fs : List Fd) (x : Ix) (cs : List CV) (e : ByteArray) : Bool := x.ov.any (lackT fs cs e)
def oneR (fs : List Fd) (x : Ix) (cs : List CV) (bh : List Pt) (e : ByteArray) : Option (List Pt) := if lackR fs x cs e && x.s then none else some (ownP fs x cs e ++ bh)
def listsR (t : Tb) (x : Ix) (cs : List CV) : List (List Pt) := (elemsOf t.fs x.ov cs).filterMap (oneR t.fs x cs (behindP t x cs))
def missR (t : Tb) (x : Ix) (cs : List CV) : Bool := (x.ov.foldl (stepR t.fs cs) (1, false)).2 || (elemsOf t.fs x.ov cs).any (lackR t.fs x cs)

def KindOk (fs : List Fd) (ov : List Int) : Prop := ∀ p ∈ ov, (fs.getD p.toNat noF).k = 1 ∨ (fs.getD p.toNat noF).k = 2 ∨ (fs.getD p.toNat noF).k = 3
theorem lowS_isEmpty (s : ByteArray) : (lowS s).toList.isEmpty = s.toList.isEmpty := by
  rw [ByteArray.toList_eq, ByteArray.toList_eq]
  unfold lowS
  simp
theorem beq_nil_isEmpty (l : List UInt8) : ([] == l) = l.isEmpty := by cases l <;> rfl
theorem lack_one {fs : List Fd} {cs : List CV} {e : ByteArray} {p : Int} (l : Bool) (h : (fs.getD p.toNat noF).k = 1 ∨ (fs.getD p.toNat noF).k = 2 ∨ (fs.getD p.toNat noF).k = 3) : ptEq emptyQ (lowIfP l (cellP fs cs e p)) = lackT fs cs e p := by
  have he : (⟨#[]⟩ : ByteArray).toList = [] := by rw [ByteArray.toList_eq]
  have key : ∀ t : ByteArray, ptEq emptyQ (lowIfP l ⟨1, t, 0⟩) = t.toList.isEmpty := by
    intro t
    unfold ptEq emptyQ lowIfP
    cases l
    · simp [he]
    · simp only [if_true, lowPt]
      rw [he, beq_nil_isEmpty, lowS_isEmpty]
      simp
  unfold lackT cellP
  rcases h with h | h | h
  · simp only [h, partK]
    simpa using key (cs.getD p.toNat noC).t
  · simp only [h, partK]
    cases l <;> simp [ptEq, emptyQ, lowIfP, lowPt]
  · simp only [h, partK]
    simpa using key e
theorem lack_same {fs : List Fd} {x : Ix} {cs : List CV} (e : ByteArray) (hk : KindOk fs x.ov) : lackB fs x cs e = lackR fs x cs e := by
  unfold lackB lackR
  rw [ownP_map, List.any_map]
  have : ∀ (l : List Int), (∀ p ∈ l, p ∈ x.ov) → l.any (ptEq emptyQ ∘ fun p => lowIfP x.l (cellP fs cs e p)) = l.any (lackT fs cs e) := by
    intro l
    induction l with
    | nil => intro _; rfl
    | cons p l ih =>
      intro h
      rw [List.any_cons, List.any_cons, ih fun q hq => h q (List.mem_cons_of_mem _ hq)]
      rw [show (ptEq emptyQ ∘ fun p => lowIfP x.l (cellP fs cs e p)) p = lackT fs cs e p from lack_one _ (hk p (h p (List.mem_cons_self ..)))]
  exact this _ fun _ h => h
/-- No list field in it. -/
def noList (fs : List Fd) (ov : List Int) : Prop := ∀ p ∈ ov, (fs.getD p.toNat noF).k ≠ 3
theorem fold_none {fs : List Fd} {cs : List CV} : ∀ (ov : List Int) (s : Nat × Bool), noList fs ov → ov.foldl (stepR fs cs) s = (s.1, s.2 || ov.any (textE fs cs))
  | [], s, _ => by simp
  | p :: ov, s, h => by
    rw [List.foldl_cons, fold_none ov _ fun q hq => h q (List.mem_cons_of_mem _ hq)]
    have hp : stepR fs cs s p = (s.1, s.2 || textE fs cs p) := by unfold stepR; rw [if_neg (h p (List.mem_cons_self ..))]
    rw [hp, List.any_cons, Bool.or_assoc]
theorem list_parts {fs : List Fd} : ∀ (ov : List Int), listsOf fs ov ≤ 1 → noList fs ov ∨ ∃ a p b, ov = a ++ p :: b ∧ (fs.getD p.toNat noF).k = 3 ∧ noList fs a ∧ noList fs b
  | [], _ => .inl fun p hp => by simp at hp
  | p :: ov, h => by
    unfold listsOf at h
    by_cases hp : (fs.getD p.toNat noF).k = 3
    · right
      refine ⟨[], p, ov, rfl, hp, fun q hq => by simp at hq, fun q hq h3 => ?_⟩
      rw [List.filter_cons_of_pos (by simpa [noF] using hp), List.length_cons] at h
      have : 0 < (ov.filter fun p => decide ((fs.getD p.toNat ⟨⟨#[]⟩, 0⟩).k = 3)).length := List.length_pos_of_mem (List.mem_filter.2 ⟨hq, by simpa [noF] using h3⟩)
      omega
    · rw [List.filter_cons_of_neg (by simpa [noF] using hp)] at h
      rcases list_parts ov h with h1 | ⟨a, q, b, rfl, hq, ha, hb⟩
      · left
        intro r hr
        rcases List.mem_cons.1 hr with rfl | hr
        · exact hp
        · exact h1 r hr
      · right
        refine ⟨p :: a, q, b, rfl, hq, fun r hr => ?_, hb⟩
        rcases List.mem_cons.1 hr with rfl | hr
        · exact hp
        · exact ha r hr
theorem elems_nolist {fs : List Fd} {ov : List Int} {cs : List CV} (h : noList fs ov) : elemsOf fs ov cs = [⟨#[]⟩] := by
  have : listP fs ov = none := by
    unfold listP
    rw [List.find?_eq_none]
    intro p hp
    simpa using h p hp
  unfold elemsOf
  rw [this]
theorem elems_list {fs : List Fd} {cs : List CV} {a b : List Int} {p : Int} (ha : noList fs a) (hp : (fs.getD p.toNat noF).k = 3) : elemsOf fs (a ++ p :: b) cs = (cs.getD p.toNat noC).l := by
  have : listP fs (a ++ p :: b) = some p := by
    unfold listP
    rw [List.find?_append]
    have h1 : a.find? (fun p => decide ((fs.getD p.toNat noF).k = 3)) = none := by
      rw [List.find?_eq_none]
      intro q hq
      simpa using ha q hq
    rw [h1, List.find?_cons_of_pos (by simpa using hp)]
    rfl
  unfold elemsOf
  rw [this]
theorem lack_text {fs : List Fd} {cs : List CV} (e : ByteArray) : ∀ (l : List Int), KindOk fs l → noList fs l → l.any (lackT fs cs e) = l.any (textE fs cs)
  | [], _, _ => rfl
  | p :: l, hk, hn => by
    rw [List.any_cons, List.any_cons, lack_text e l (fun q hq => hk q (List.mem_cons_of_mem _ hq)) (fun q hq => hn q (List.mem_cons_of_mem _ hq))]
    congr 1
    unfold lackT textE
    rcases hk p (List.mem_cons_self ..) with h | h | h
    · simp only [h]; simp
    · simp only [h]; simp
    · exact absurd h (hn p (List.mem_cons_self ..))
/-- How many lists the first loop says. -/
theorem fold_len {fs : List Fd} {cs : List CV} {ov : List Int} (h1 : listsOf fs ov ≤ 1) : (ov.foldl (stepR fs cs) (1, false)).1 = (elemsOf fs ov cs).length := by
  rcases list_parts ov h1 with h | ⟨a, p, b, rfl, hp, ha, hb⟩
  · rw [fold_none _ _ h, elems_nolist h]; rfl
  · rw [List.foldl_append, List.foldl_cons, fold_none a _ ha, fold_none b _ hb, elems_list ha hp]
    unfold stepR
    rw [if_pos hp]
theorem miss_whole {t : Tb} {x : Ix} {cs : List CV} (h1 : listsOf t.fs x.ov ≤ 1) (hk : KindOk t.fs x.ov) : missR t x cs = !wholeB t x cs := by
  unfold missR wholeB
  have hall : ∀ els : List ByteArray, els.all (fun e => !lackB t.fs x cs e) = !els.any (lackR t.fs x cs) := by
    intro els
    induction els with
    | nil => rfl
    | cons e els ih => rw [List.all_cons, List.any_cons, ih, lack_same e hk, Bool.not_or]
  rw [hall]
  rcases list_parts x.ov h1 with h | ⟨a, p, b, hov, hp, ha, hb⟩
  · rw [fold_none _ _ h, elems_nolist h]
    have := lack_text (cs := cs) ⟨#[]⟩ x.ov hk h
    unfold lackR
    simp only [List.any_cons, List.any_nil, Bool.or_false, Bool.false_or, this]
    cases x.ov.any (textE t.fs cs) <;> simp
  · have hfold : (x.ov.foldl (stepR t.fs cs) (1, false)).2 = (decide ((cs.getD p.toNat noC).l.length = 0) || b.any (textE t.fs cs)) := by
      rw [hov, List.foldl_append, List.foldl_cons, fold_none b _ hb]
      unfold stepR
      rw [if_pos hp]
    have hels : elemsOf t.fs x.ov cs = (cs.getD p.toNat noC).l := by rw [hov]; exact elems_list ha hp
    rw [hfold, hels]
    cases hl : (cs.getD p.toNat noC).l with
    | nil => simp
    | cons e l =>
      have hbl : b.any (textE t.fs cs) = true → lackR t.fs x cs e = true := by
        intro h
        unfold lackR
        rw [hov, List.any_append, List.any_cons, lack_text e b (fun q hq => hk q (by rw [hov]; simp [hq])) hb, h]
        simp
      cases hb2 : b.any (textE t.fs cs) with
      | false => simp
      | true => simp [hbl hb2]
theorem filterMap_same {α β : Type} {f g : α → Option β} : ∀ l : List α, (∀ e ∈ l, f e = g e) → l.filterMap f = l.filterMap g
  | [], _ => rfl
  | e :: l, h => by
    rw [List.filterMap_cons, List.filterMap_cons, h e (List.mem_cons_self ..), filterMap_same l fun d hd => h d (List.mem_cons_of_mem _ hd)]
/-- The keys and the error, as the document reckons them. -/
def indexR (t : Tb) (x : Ix) (cs : List CV) : List Bs × Int :=
  if missR t x cs = true ∧ x.s = false then ([], 73) else if (listsR t x cs).any badB then ([], 74) else (putAll ((listsR t x cs).map keyOf), 0)
theorem index_same {t : Tb} {x : Ix} {cs : List CV} (h1 : listsOf t.fs x.ov ≤ 1) (hk : KindOk t.fs x.ov) : indexR t x cs = indexP t x cs := by
  unfold indexR indexP
  rw [miss_whole h1 hk]
  cases hw : wholeB t x cs with
  | false =>
    cases hs : x.s with
    | false => simp
    | true =>
      have hl : listsR t x cs = listsP t x cs := by
        unfold listsR listsP
        congr 1
        funext e
        unfold oneR oneL
        rw [lack_same e hk, hs, Bool.and_true]
      simp only [Bool.not_false, Bool.true_eq_false, and_false, if_false]
      rw [hl]
      unfold sortedK
      rw [compact_putAll]
  | true =>
    have hall : ∀ e ∈ elemsOf t.fs x.ov cs, lackR t.fs x cs e = false := by
      unfold wholeB at hw
      rw [Bool.and_eq_true, List.all_eq_true] at hw
      intro e he
      have := hw.2 e he
      rw [lack_same e hk] at this
      simpa using this
    have hl : listsR t x cs = listsP t x cs := by
      unfold listsR listsP
      apply filterMap_same
      intro e he
      unfold oneR oneL
      rw [lack_same e hk, hall e he]
      simp
    simp only [Bool.not_true, Bool.false_eq_true, false_and, if_false, Bool.true_eq_false]
    rw [hl]
    unfold sortedK
    rw [compact_putAll]
/-- Two list fields of one index are one. -/
theorem list_uniq {fs : List Fd} {ov : List Int} (h1 : listsOf fs ov ≤ 1) {cs : List CV} {e : Nat} {el : ByteArray} (he : (elemsOf fs ov cs)[e]? = some el) : ∀ p ∈ ov, (fs.getD p.toNat noF).k = 3 → (cs.getD p.toNat noC).l[e]? = some el := by
  intro q hq h3
  rcases list_parts ov h1 with h | ⟨a, p, b, rfl, hp, ha, hb⟩
  · exact absurd h3 (h q hq)
  · rw [elems_list ha hp] at he
    rcases List.mem_append.1 hq with h | h
    · exact absurd h3 (ha q h)
    · rcases List.mem_cons.1 h with rfl | h
      · exact he
      · exact absurd h3 (hb q h)
end Go.Proofs.YtgjcchafmcccjaaGreatDoor
