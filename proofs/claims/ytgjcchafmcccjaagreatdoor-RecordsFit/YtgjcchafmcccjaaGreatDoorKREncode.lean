import Derived.Test.YtgjcchafmcccjaaGreatDoorRwAll3
import Derived.Test.YtgjcchafmcccjaaGreatDoorRcAppS
import Derived.Test.YtgjcchafmcccjaaGreatDoorRwSame
import Derived.Test.YtgjcchafmcccjaaGreatDoorRwHas
import Derived.Lib.QuietBelow
import Derived.Test.YtgjcchafmcccjaaGreatDoorKAllValid
import Derived.Test.YtgjcchafmcccjaaGreatDoorRwLowR
import Derived.Deep.QuietTactic
import Derived.BigQuiet
import Derived.Test.YtgjcchafmcccjaaGreatDoorRwPut
import Derived.Test.YtgjcchafmcccjaaGreatDoorRwKeys
import Derived.Test.YtgjcchafmcccjaaGreatDoorKPartsG
/- Layer 7 (rows): a row of the call's own; what is said of a row hangs on its contents alone. -/
namespace Go.Proofs.YtgjcchafmcccjaaGreatDoor
open Go.RowKit
set_option linter.unusedVariables false

/-- append(s, u), u laid right ahead. -/
theorem append_rowW (W : World) {ops : Array Oper} {rest : List Oper} {o : Oper} {a : Act} {Q : Exit → Act → World → Prop} (hgd : o.guard = none) (s x : Operand) (t e : TypeId) (z : Value) (size bytes : Nat)
    (ht : Tryz.prog.underlying t = some (.slice e)) (hi : (Tryz.prog.info? e).map (fun i => (i.zero, i.size, i.bytes)) = some (some z, size, bytes)) (hzs : z.cells.size = size) (hsz : 0 < size)
    (ho : o.op = .call { callee := .builtin .append, args := #[s, x], argTypes := #[t, t] })
    (B : Nat) (v : Value) (n : Nat) (l : List Value) (hs : a.eval s = v) (us : List Value) (hus : us.length = size) (h1 : ∀ u ∈ us, u.oneCell' = true) (g : Nat) (cs : Array Value) (hcs : cs = us.toArray) (hx : a.eval x = .slice (some ⟨g, 0, none⟩) 1 1)
    (hg : g = W.heap.size) (hown : W.ownsRow B e size v n l) (hn : n + 1 ≤ maxLen) (hlen : (n + 1) * bytes ≤ 140737488355328) (hB : B ≤ W.heap.size)
    (h : ∀ v' w', w'.ownsRow B e size v' (n + 1) (l ++ us) → Grew W w' v v' → wpList Tryz.prog ops Q rest (a.put o.dst v') w') : wpList Tryz.prog ops Q (o :: rest) a (W.alloc (.cells cs e)) := by
  obtain ⟨i0, hi0, hb⟩ := Option.map_eq_some_iff.1 hi
  simp only [Prod.mk.injEq] at hb
  obtain ⟨hz0, hz1, hz2⟩ := hb
  subst hg hcs
  refine wpList_append_grew _ hgd s x t ho B e i0 z size bytes ht hi0 hz0 hz1 hz2 hzs hsz v n l hs (hown.alloc _) ⟨W.heap.size, 0, none⟩ 1 1 us hx (by omega) (cells_new _ _ _) h1 hn hlen (by simp; omega) ?_
  intro v' w' h1 h2 _
  exact h v' w' h1 h2.ofAlloc
theorem info_cell : (Tryz.prog.info? 70).map (fun i => (i.zero, i.size, i.bytes)) = some (some (.agg #[.string ⟨#[]⟩, .int .u64 0, .slice none 0 0]), 3, 48) := by kernel_rfl

/-- What a cell says. -/
def CV.core (c : CV) : ByteArray × Int × List ByteArray := (c.t, c.n, c.l)
def Alike (ds cs : List CV) : Prop := ds.map CV.core = cs.map CV.core
theorem Alike.len {ds cs : List CV} (h : Alike ds cs) : ds.length = cs.length := by have := congrArg List.length h; simpa using this
theorem Alike.getD {ds cs : List CV} (h : Alike ds cs) (i : Nat) : (ds.getD i noC).core = (cs.getD i noC).core := by
  have h1 : (ds.map CV.core)[i]? = (cs.map CV.core)[i]? := by rw [h]
  rw [List.getElem?_map, List.getElem?_map] at h1
  rw [List.getD_eq_getElem?_getD, List.getD_eq_getElem?_getD]
  cases hd : ds[i]? with
  | none =>
    cases hc : cs[i]? with
    | none => rfl
    | some c => rw [hd, hc] at h1; simp at h1
  | some d =>
    cases hc : cs[i]? with
    | none => rw [hd, hc] at h1; simp at h1
    | some c => rw [hd, hc] at h1; simpa using h1
theorem Alike.t {ds cs : List CV} (h : Alike ds cs) (i : Nat) : (ds.getD i noC).t = (cs.getD i noC).t := congrArg Prod.fst (h.getD i)
theorem Alike.n {ds cs : List CV} (h : Alike ds cs) (i : Nat) : (ds.getD i noC).n = (cs.getD i noC).n := congrArg (fun x => x.2.1) (h.getD i)
theorem Alike.l {ds cs : List CV} (h : Alike ds cs) (i : Nat) : (ds.getD i noC).l = (cs.getD i noC).l := congrArg (fun x => x.2.2) (h.getD i)
theorem Alike.own {ds cs : List CV} (h : Alike ds cs) (fs : List Fd) (x : Ix) : ownP fs x ds = ownP fs x cs := by
  funext e
  unfold ownP
  have : cellP fs ds e = cellP fs cs e := by
    funext p
    unfold cellP
    rw [h.t, h.n]
  rw [this]
theorem Alike.elems {ds cs : List CV} (h : Alike ds cs) (fs : List Fd) (ov : List Int) : elemsOf fs ov ds = elemsOf fs ov cs := by
  unfold elemsOf
  cases listP fs ov with
  | none => rfl
  | some p => exact h.l _
theorem Alike.index {ds cs : List CV} (h : Alike ds cs) (t : Tb) (x : Ix) : indexP t x ds = indexP t x cs := by
  have h1 : lackB t.fs x ds = lackB t.fs x cs := by funext e; unfold lackB; rw [h.own]
  have h2 : behindP t x ds = behindP t x cs := by unfold behindP; rw [h.own]
  have h3 : oneL t.fs x ds = oneL t.fs x cs := by funext bh e; unfold oneL; rw [h1, h.own]
  unfold indexP wholeB listsP
  rw [h1, h2, h3, h.elems]
theorem fitL_alike (fs : List Fd) : ∀ (ds cs : List CV), Alike ds cs → fitL fs ds = fitL fs cs := by
  induction fs with
  | nil => intro ds cs _; cases ds <;> cases cs <;> rfl
  | cons f fs ih =>
    intro ds cs h
    cases ds with
    | nil => cases cs with | nil => rfl | cons c cs => exact absurd h.len (by simp)
    | cons d ds =>
      cases cs with
      | nil => exact absurd h.len (by simp)
      | cons c cs =>
        have h1 : d.core = c.core ∧ Alike ds cs := by
          unfold Alike at h ⊢
          simpa using h
        have ht : d.t = c.t := congrArg Prod.fst h1.1
        have hn : d.n = c.n := congrArg (fun x => x.2.1) h1.1
        have hl : d.l = c.l := congrArg (fun x => x.2.2) h1.1
        unfold fitL usesB
        rw [ih ds cs h1.2, ht, hn, hl]
theorem Alike.fit {ds cs : List CV} (h : Alike ds cs) (t : Tb) : fitP t ds = fitP t cs := by
  have h1 : fitC t.fs ds = fitC t.fs cs := by unfold fitC; rw [h.len, fitL_alike _ _ _ h]
  have h2 : ∀ xs, fitX t ds xs = fitX t cs xs := by
    intro xs
    induction xs with
    | nil => rfl
    | cons x xs ih => unfold fitX; rw [h.index, ih]
  unfold fitP
  rw [h1, h2]
theorem Alike.keys {ds cs : List CV} (h : Alike ds cs) (t : Tb) (p : Int) : keysP t p ds = keysP t p cs := by
  unfold keysP
  rw [h.fit, h.index]
theorem Alike.wf {ds cs : List CV} (h : Alike ds cs) (hw : ∀ c ∈ cs, c.wf) : ∀ d ∈ ds, d.wf := by
  intro d hd
  obtain ⟨i, hi, rfl⟩ := List.getElem_of_mem hd
  have hi' : i < cs.length := by rw [← h.len]; exact hi
  have hc := hw cs[i] (List.getElem_mem hi')
  have h1 : ds[i].core = cs[i].core := by
    have := h.getD i
    rw [List.getD_eq_getElem?_getD, List.getD_eq_getElem?_getD, List.getElem?_eq_getElem hi, List.getElem?_eq_getElem hi'] at this
    exact this
  have ht : ds[i].t = cs[i].t := congrArg Prod.fst h1
  have hn : ds[i].n = cs[i].n := congrArg (fun x => x.2.1) h1
  have hl : ds[i].l = cs[i].l := congrArg (fun x => x.2.2) h1
  unfold CV.wf at hc ⊢
  rw [ht, hn, hl]
  exact hc

/-- A row of the call's own: its cells, and each list in a block of its own. -/
abbrev CV.v (c : CV) : Value := .slice c.la c.l.length c.lc
structure OwnR (w : World) (B : Nat) (v : Value) (cs : List CV) : Prop where
  row : w.ownsRow B 70 3 v cs.length (ccs cs)
  lst : ∀ c ∈ cs, w.ownsRow B 9 1 c.v c.l.length (c.l.map Value.string)
theorem OwnR.nil (w : World) (B : Nat) : OwnR w B (.slice none 0 0) [] := ⟨World.ownsRow_nil _ _ _ _, fun c hc => by simp at hc⟩
theorem OwnR.below {w w' : World} {B : Nat} {v : Value} {cs : List CV} (h : OwnR w B v cs) (hb : Below w.heap.size w w') : OwnR w' B v cs := ⟨row_below h.row hb, fun c hc => row_below (h.lst c hc) hb⟩
theorem OwnR.mono {w : World} {B B' : Nat} {v : Value} {cs : List CV} (h : OwnR w B v cs) (hB : B' ≤ B) : OwnR w B' v cs := ⟨row_mono h.row hB, fun c hc => row_mono (h.lst c hc) hB⟩
theorem OwnR.rowAt {w : World} {B : Nat} {ao : Option Addr} {c : Nat} {cs : List CV} (h : OwnR w B (.slice ao cs.length c) cs) (hw : ∀ c ∈ cs, c.wf) : RowAt w ao cs := ⟨row_cells h.row, fun c hc => row_cells (h.lst c hc), hw⟩
theorem ccs_snoc (cs : List CV) (c : CV) : ccs (cs ++ [c]) = ccs cs ++ [.string c.t, .int .u64 c.n, c.v] := by simp [ccs]
/-- One cell more, its list made since w0. -/
theorem OwnR.push {w0 w2 w3 : World} {B : Nat} {v v' : Value} {cs : List CV} {c : CV} (h : OwnR w2 B v cs) (hc : w2.ownsRow B 9 1 c.v c.l.length (c.l.map Value.string)) (hr : w3.ownsRow B 70 3 v' (cs.length + 1) (ccs cs ++ [.string c.t, .int .u64 c.n, c.v])) (hg : Grew w2 w3 v v') : OwnR w3 B v' (cs ++ [c]) := by
  refine ⟨by rw [List.length_append, ccs_snoc]; exact hr, fun d hd => ?_⟩
  rcases List.mem_append.1 hd with hd | hd
  · exact row_grew (h.lst d hd) hg (rows_ne (h.lst d hd) h.row (by decide))
  · simp only [List.mem_singleton] at hd
    subst hd
    exact row_grew hc hg (rows_ne hc h.row (by decide))
/-- A slice of texts made since grows. -/
theorem OwnR.grew {w w2 w3 : World} {B n : Nat} {v u u' : Value} {cs : List CV} {l : List Value} (h : OwnR w B v cs) (hb : Below w.heap.size w w2) (ho : w2.ownsRow w.heap.size 9 1 u n l) (hg : Grew w2 w3 u u') : OwnR w3 B v cs := by
  have h2 := h.below hb
  refine ⟨row_grew h2.row hg (rows_ne h2.row ho (by decide)), fun c hc => row_grew (h2.lst c hc) hg fun k hk e => ?_⟩
  have h3 := (World.ownsRow.lt ho k hk).1
  have h4 := (World.ownsRow.lt (h.lst c hc) k e).2
  omega
end Go.Proofs.YtgjcchafmcccjaaGreatDoor

/- Layer 7 (rows): the document's lists. -/
namespace Go.Proofs.YtgjcchafmcccjaaGreatDoor
open Go.RowKit
set_option linter.unusedVariables false
attribute [local go_sem] Oper.semAt_some

theorem noList_of {fs : List Fd} {ov : List Int} (h : listsOf fs ov = 0) : noList fs ov := by
  intro p hp h3
  unfold listsOf at h
  have : 0 < (ov.filter fun p => decide ((fs.getD p.toNat ⟨⟨#[]⟩, 0⟩).k = 3)).length := List.length_pos_of_mem (List.mem_filter.2 ⟨hp, by simpa [noF] using h3⟩)
  omega
theorem info_prt : (Tryz.prog.info? 112).map (fun i => (i.zero, i.size, i.bytes)) = some (some (.agg #[.int .i64 0, .string ⟨#[]⟩, .int .u64 0]), 3, 32) := by kernel_rfl
/-- While the document's lists are gathered. -/
structure LsI (w : World) (t : TV) (x : XV) (ca : Option Addr) (cc : Nat) (cs : List CV) (v : Value) (ls : List LV) (wr : World) : Prop where
  tab : wr.heap[w.heap.size]? = some (.cells #[.string t.n, t.fv, t.xv] 42)
  bx : wr.heap[w.heap.size + 1]? = some (.cells #[.string x.x.n, .slice x.va x.x.ov.length x.vc, .bool x.x.u, .bool x.x.l, .bool x.x.s] 67)
  rw' : wr.heap[w.heap.size + 2]? = some (.cells #[.slice ca cs.length cc] 45)
  ls : Lists wr w.heap.size v ls
  be : Below w.heap.size w wr
theorem LsI.below {w : World} {t : TV} {x : XV} {ca : Option Addr} {cc : Nat} {cs : List CV} {v : Value} {ls : List LV} {wr w' : World} (h : LsI w t x ca cc cs v ls wr) (hb : Below wr.heap.size wr w') : LsI w t x ca cc cs v ls w' :=
  ⟨(hb.block _ (lt_blk h.tab)).trans h.tab, (hb.block _ (lt_blk h.bx)).trans h.bx, (hb.block _ (lt_blk h.rw')).trans h.rw', h.ls.below hb, h.be.trans (hb.mono h.be.size)⟩
theorem LsI.push {w : World} {t : TV} {x : XV} {ca : Option Addr} {cc : Nat} {cs : List CV} {v v' vp vp' : Value} {ls : List LV} {ps : List Pt} {y : LV} {wr w1 w2 w3 : World} (h : LsI w t x ca cc cs v ls wr) (hb : Below wr.heap.size wr w1)
    (ho : OwnP w1 wr.heap.size vp ps) (hg : Grew w1 w2 vp vp') (hy : OwnP w2 wr.heap.size y.v y.ps) (hw : (∀ p ∈ y.ps, p.wf) ∧ y.ps.length ≤ 8) (hr : w3.ownsRow w.heap.size 94 1 v' (ls.length + 1) (ls.map LV.v ++ [y.v])) (hg2 : Grew w2 w3 v v') :
    LsI w t x ca cc cs v' (ls ++ [y]) w3 := by
  have h1 := h.below hb
  have hlt := h.ls.lt
  have hl2 := h1.ls.grew hlt.1 hlt.2 ho hg
  have k1 : ∀ {b : Nat} {cs : Array Value} {ty : TypeId}, w1.heap[b]? = some (.cells cs ty) → 112 ≠ ty → 94 ≠ ty → w3.heap[b]? = some (.cells cs ty) := fun hc n1 n2 => by
    have a1 := (hg.grown.block _ (lt_blk hc) (fun e => row_ne ho hc n1 e.symm)).trans hc
    exact (hg2.grown.block _ (lt_blk a1) (fun e => row_ne hl2.row a1 n2 e.symm)).trans a1
  have fb : Below wr.heap.size w1 w2 := ho.toBelow hb.size hg
  have hsz : w.heap.size ≤ wr.heap.size := h.be.size
  have fb2 : Below w.heap.size w2 w3 := hg2.toBelow (Nat.le_trans hsz (Nat.le_trans hb.size hg.size)) fun k hk => (World.ownsRow.lt hl2.row k hk).1
  exact ⟨k1 h1.tab (by decide) (by decide), k1 h1.bx (by decide) (by decide), k1 h1.rw' (by decide) (by decide), hl2.push (OwnP.mono hy hsz) hw hr hg2, (h1.be.trans (fb.mono hsz)).trans fb2⟩
theorem oneR_snoc (fs : List Fd) (x : Ix) (cs : List CV) (bh : List Pt) (els : List ByteArray) (k : Nat) (hk : k < els.length) : (els.take (k + 1)).filterMap (oneR fs x cs bh) = (els.take k).filterMap (oneR fs x cs bh) ++ (if lackR fs x cs els[k] && x.s then [] else [ownP fs x cs els[k] ++ bh]) := by
  rw [List.take_succ_eq_append_getElem hk, List.filterMap_append]
  congr 1
  unfold oneR
  simp only [List.filterMap_cons, List.filterMap_nil]
  by_cases h : (lackR fs x cs els[k] && x.s) = true
  · rw [if_pos h, if_pos h]
  · rw [if_neg h, if_neg h]
theorem any_snoc (els : List ByteArray) (f : ByteArray → Bool) (k : Nat) (hk : k < els.length) : (els.take (k + 1)).any f = ((els.take k).any f || f els[k]) := by
  rw [List.take_succ_eq_append_getElem hk, List.any_append]
  simp

end Go.Proofs.YtgjcchafmcccjaaGreatDoor

/- The walks of cmp.Compare at int, uint64 and string, and of compareParts. -/
namespace Go.Proofs.YtgjcchafmcccjaaGreatDoor
open Go.RowKit
set_option linter.unusedVariables false

def cmpI (a b : Int) : Int := if a < b then -1 else if b < a then 1 else 0
def cmpS (a b : List UInt8) : Int := if Op.bytesLess a b then -1 else if a == b then 0 else 1

theorem ret_int {k : IntKind} {a b : Int} (h : a = b) : Ending.returned (.int k a) = .returned (.int k b) := by rw [h]

def cmpP (p q : Pt) : Int := if p.k == q.k then if p.k == 1 then cmpS p.t.toList q.t.toList else cmpI p.n q.n else cmpI p.k q.k

end Go.Proofs.YtgjcchafmcccjaaGreatDoor

/- The walk of Compare. -/
namespace Go.Proofs.YtgjcchafmcccjaaGreatDoor
open Go.RowKit Go.Sort
set_option linter.unusedVariables false

/-- The order of two lists. -/
def cmpL : List Pt → List Pt → Int
  | [], [] => 0
  | [], _ :: _ => -1
  | _ :: _, [] => 1
  | p :: ps, q :: qs => if ptEq p q then cmpL ps qs else cmpP p q

def cmpAns (ps qs : List Pt) : Int × Int := if ps.all vldB && qs.all vldB then (cmpL ps qs, 0) else (0, 10)

theorem cmpL_drop (ps qs : List Pt) (k : Nat) (h : k < ps.length) (h2 : k < qs.length) : cmpL (ps.drop k) (qs.drop k) = if ptEq ps[k] qs[k] then cmpL (ps.drop (k + 1)) (qs.drop (k + 1)) else cmpP ps[k] qs[k] := by
  rw [List.drop_eq_getElem_cons h, List.drop_eq_getElem_cons h2, cmpL]
theorem cmpL_end (ps qs : List Pt) (k : Nat) (h : ¬ (k < ps.length ∧ k < qs.length)) (h1 : k ≤ ps.length) (h2 : k ≤ qs.length) : cmpL (ps.drop k) (qs.drop k) = cmpI ps.length qs.length := by
  by_cases hp : k = ps.length
  · rw [List.drop_eq_nil_of_le (by omega)]
    by_cases hq : k = qs.length
    · rw [List.drop_eq_nil_of_le (by omega)]
      simp [cmpL, cmpI]
      split <;> omega
    · rw [List.drop_eq_getElem_cons (i := k) (l := qs) (by omega)]
      simp only [cmpL, cmpI]
      rw [if_pos (by omega)]
  · have hq : k = qs.length := by omega
    rw [show qs.drop k = [] from List.drop_eq_nil_of_le (by omega), List.drop_eq_getElem_cons (i := k) (l := ps) (by omega)]
    simp only [cmpL, cmpI]
    rw [if_neg (by omega), if_pos (by omega)]

end Go.Proofs.YtgjcchafmcccjaaGreatDoor

/- The walk of the document's Less. -/
namespace Go.Proofs.YtgjcchafmcccjaaGreatDoor
open Go.RowKit
set_option linter.unusedVariables false

theorem less_nil (b : ByteArray) (a : List UInt8) (k : Nat) (h : k < b.size) (ha : a = []) : Op.bytesLess a (b.data.toList.drop k) = true := by
  subst ha
  rw [List.drop_eq_getElem_cons (by simpa using h)]; rfl
theorem less_end (b : ByteArray) (a : List UInt8) (k : Nat) (h : ¬ k < b.size) : Op.bytesLess a (b.data.toList.drop k) = false := by
  rw [List.drop_eq_nil_of_le (by simp; omega)]; cases a <;> rfl
theorem less_step (a b : ByteArray) (k : Nat) (ha : k < a.size) (hb : k < b.size) : Op.bytesLess (a.data.toList.drop k) (b.data.toList.drop k) = (decide (a[k].toNat < b[k].toNat) || (decide (a[k].toNat = b[k].toNat) && Op.bytesLess (a.data.toList.drop (k + 1)) (b.data.toList.drop (k + 1)))) := by
  rw [List.drop_eq_getElem_cons (l := a.data.toList) (by simpa using ha), List.drop_eq_getElem_cons (l := b.data.toList) (by simpa using hb)]
  rw [Op.bytesLess]
  have e1 : (a.data.toList[k]'(by simpa using ha) < b.data.toList[k]'(by simpa using hb)) ↔ a[k].toNat < b[k].toNat := UInt8.lt_iff_toNat_lt
  have e2 : (a.data.toList[k]'(by simpa using ha) == b.data.toList[k]'(by simpa using hb)) = decide (a[k].toNat = b[k].toNat) := by
    rw [Bool.eq_iff_iff, beq_iff_eq, decide_eq_true_iff]
    exact UInt8.toNat_inj.symm
  rw [e2]
  congr 1

end Go.Proofs.YtgjcchafmcccjaaGreatDoor

/- The walk of the document's Less. -/

/- Layer 7 (rows): the document's put, walked. -/
namespace Go.Proofs.YtgjcchafmcccjaaGreatDoor
open Go.RowKit
set_option linter.unusedVariables false
attribute [local go_sem] Oper.semAt_some

theorem keys_push {w : World} {B : Nat} {v : Value} {out : List Bs} {k : Bs} (h : w.ownsRow B 9 1 v (out.length + 1) (out.map encS ++ [.string ⟨k.toArray⟩])) : KeysAt w B v (out ++ [k]) := by
  unfold KeysAt
  rw [List.length_append, List.map_append]
  exact h
theorem less_bs (x k : Bs) : Op.bytesLess (⟨x.toArray⟩ : ByteArray).toList (⟨k.toArray⟩ : ByteArray).toList = decide (x < k) := by
  rw [ByteArray.toList_eq, ByteArray.toList_eq]
  exact bytesLess_eq x k
theorem beq_bs (x k : Bs) : ((⟨x.toArray⟩ : ByteArray).toList == (⟨k.toArray⟩ : ByteArray).toList) = decide (x = k) := by
  rw [ByteArray.toList_eq, ByteArray.toList_eq]
  by_cases h : x = k
  · subst h; simp
  · simp [h]
theorem putR_cons (k x : Bs) (pl : Bool) (l : List Bs) : putR k pl (x :: l) = (if !pl && !decide (x < k) then [k] else []) ++ ((if x = k then [] else [x]) ++ putR k (pl || !decide (x < k)) l) := rfl

end Go.Proofs.YtgjcchafmcccjaaGreatDoor

/- The walk of the document's Piece. -/
namespace Go.Proofs.YtgjcchafmcccjaaGreatDoor
open Go.RowKit
set_option linter.unusedVariables false

theorem own_lit (w : World) (B : Nat) (l : List UInt8) (hB : B ≤ w.heap.size) (hl : l.length ≤ maxLen) : Own (w.alloc (.cells (bs l).toArray 5)) B (.slice (some ⟨w.heap.size, 0, none⟩) l.length l.length) l := by
  have := World.ownsRow_lit (base := B) (e := 5) (size := 1) w (bs l).toArray l.length hB hl (by simp [bs])
  simpa [Own] using this

theorem esc_cons_snoc (t : ByteArray) (k : Nat) (h : k < t.size) (hc : ¬ t[k] = 0) : 1 :: esc (t.data.toList.take (k + 1)) = 1 :: esc (t.data.toList.take k) ++ [t[k]] := by
  have := esc_snoc [1] t k h hc; simpa using this
theorem esc_cons_snoc0 (t : ByteArray) (k : Nat) (h : k < t.size) (hc : t[k] = 0) : 1 :: esc (t.data.toList.take (k + 1)) = 1 :: esc (t.data.toList.take k) ++ [0, 255] := by
  have := esc_snoc0 [1] t k h hc; rw [hc] at this; simpa using this

/-- The tail with m bytes still to be written: zeros, then the number's last bytes. -/
def tail8 (n : Int) (m : Nat) : List UInt8 := List.replicate m 0 ++ (num8 n).drop m
theorem tail8_set (n : Int) (i : Nat) (hi : i < 8) : (tail8 n (i + 1)).set i (numByte n i) = tail8 n i := by
  have h8 : (num8 n).length = 8 := by simp [num8]
  unfold tail8
  rw [List.drop_eq_getElem_cons (i := i) (by omega), List.replicate_succ', List.append_assoc, List.set_append_right _ _ (by simp)]
  simp [num8]
theorem quot_step (n q : Int) (i : Nat) (hi : i < 8) (hq : q = n / 2 ^ (64 - 8 * (i + 1))) : q / 256 = n / 2 ^ (64 - 8 * i) := by
  rw [hq, Int.ediv_ediv_of_nonneg (Int.le_of_lt (Int.pow_pos (by decide))), show 64 - 8 * i = (64 - 8 * (i + 1)) + 8 by omega, Int.pow_add]; rfl
theorem quot_byte (n q : Int) (i : Nat) (hi : i < 8) (hq : q = n / 2 ^ (64 - 8 * (i + 1))) : q % 256 = ((numByte n i).toNat : Int) := by
  rw [numByte_val, hq, show 64 - 8 * (i + 1) = 56 - 8 * i by omega]

end Go.Proofs.YtgjcchafmcccjaaGreatDoor

/- The walk of the document's Encode. -/
namespace Go.Proofs.YtgjcchafmcccjaaGreatDoor
open Go.RowKit
set_option linter.unusedVariables false

theorem piece_pos (p : Pt) (op : Bool) : 0 < (piece p op).length := by
  unfold piece
  split
  · simp
  · split <;> simp

theorem Own.some {w : World} {B : Nat} {v : Value} {l : List UInt8} (h : Own w B v l) (hp : 0 < l.length) : ∃ g cap, v = .slice (some ⟨g, 0, none⟩) l.length cap ∧ B ≤ g ∧ ∀ j u, (bs l)[j]? = some u → w.cell? ((⟨g, 0, none⟩ : Addr).add j) = some u := by
  rcases h.2 with ⟨rfl, h0⟩ | ⟨g, cap, cur, rfl, hb, _⟩
  · omega
  · exact ⟨g, cap, rfl, hb, World.ownsRow.cells h (g := g) rfl⟩

end Go.Proofs.YtgjcchafmcccjaaGreatDoor
