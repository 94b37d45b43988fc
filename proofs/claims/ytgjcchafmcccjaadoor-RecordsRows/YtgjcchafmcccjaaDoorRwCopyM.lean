import Derived.Test.YtgjcchafmcccjaaDoorRwOwn
import Derived.Test.YtgjcchafmcccjaaDoorSRParse
import Derived.Test.YtgjcchafmcccjaaDoorKPartsG
import Derived.Test.YtgjcchafmcccjaaDoorRwSort
import Derived.Test.YtgjcchafmcccjaaDoorRcAppS
/- Layer 7 (rows): elementsOf, usesOwn, fitCells. -/
namespace Go.Proofs.YtgjcchafmcccjaaDoor
open Go.RowKit
set_option linter.unusedVariables false
attribute [local go_sem] Oper.semAt_some

/-- The place of the index's list field. -/
def listP (fs : List Fd) (ov : List Int) : Option Int := ov.find? fun p => decide ((fs.getD p.toNat noF).k = 3)
def elemsOf (fs : List Fd) (ov : List Int) (cs : List CV) : List ByteArray := match listP fs ov with | some p => (cs.getD p.toNat noC).l | none => [⟨#[]⟩]
theorem elems_hit {fs : List Fd} {ov : List Int} {cs : List CV} {k p : Nat} (hk : k < ov.length) (hp : ov[k] = (p : Int)) (h1 : p < fs.length) (h2 : p < cs.length) (h3 : fs[p].k = 3) (hn : noneTo (fun p => decide ((fs.getD p.toNat noF).k = 3)) ov k) : elemsOf fs ov cs = cs[p].l := by
  have : listP fs ov = some (p : Int) := by
    unfold listP
    rw [List.find?_eq_some_iff_getElem]
    refine ⟨?_, k, hk, hp, fun j hj => ?_⟩
    · rw [show ((p : Int).toNat) = p from rfl, List.getD_eq_getElem?_getD, List.getElem?_eq_getElem h1]
      simpa using h3
    · have h := hn j (by omega) hj
      simpa using h
  unfold elemsOf
  rw [this]
  dsimp only
  rw [show ((p : Int).toNat) = p from rfl, List.getD_eq_getElem?_getD, List.getElem?_eq_getElem h2]
  rfl
theorem elems_none {fs : List Fd} {ov : List Int} {cs : List CV} {k : Nat} (hk : ov.length ≤ k) (hn : noneTo (fun p => decide ((fs.getD p.toNat noF).k = 3)) ov k) : elemsOf fs ov cs = [⟨#[]⟩] := by
  have : listP fs ov = none := by
    unfold listP
    rw [List.find?_eq_none]
    intro x hx
    obtain ⟨j, hj, rfl⟩ := List.getElem_of_mem hx
    have h := hn j hj (by omega)
    simpa using h
  unfold elemsOf
  rw [this]

/-- Is nothing in the cell but in its kind's part? -/
def usesB (k : Int) (c : CV) : Bool := (k == 1 || c.t.toList.isEmpty) && ((k == 2 || c.n == 0) && (k == 3 || decide (c.l.length = 0)))
end Go.Proofs.YtgjcchafmcccjaaDoor

/- Layer 7 (rows): keyLists. -/
namespace Go.Proofs.YtgjcchafmcccjaaDoor
open Go.RowKit
set_option linter.unusedVariables false
attribute [local go_sem] Oper.semAt_some

def emptyQ : Pt := ⟨1, ⟨#[]⟩, 0⟩
/-- What stands behind; the list of one element; all lists; whether nothing lacks. -/
def behindP (t : Tb) (x : Ix) (cs : List CV) : List Pt := if x.u then [] else ownP t.fs (t.xs.getD 0 ⟨⟨#[]⟩, [], false, false, false⟩) cs ⟨#[]⟩
def lackB (fs : List Fd) (x : Ix) (cs : List CV) (e : ByteArray) : Bool := (ownP fs x cs e).any (ptEq emptyQ)
def oneL (fs : List Fd) (x : Ix) (cs : List CV) (bh : List Pt) (e : ByteArray) : Option (List Pt) := if lackB fs x cs e then none else some (ownP fs x cs e ++ bh)
def listsP (t : Tb) (x : Ix) (cs : List CV) : List (List Pt) := (elemsOf t.fs x.ov cs).filterMap (oneL t.fs x cs (behindP t x cs))
def wholeB (t : Tb) (x : Ix) (cs : List CV) : Bool := decide (0 < (elemsOf t.fs x.ov cs).length) && (elemsOf t.fs x.ov cs).all fun e => !lackB t.fs x cs e

/-- A list of parts in memory; lists of them. -/
structure LV where
  ps : List Pt
  a : Option Addr
  c : Nat
abbrev LV.v (x : LV) : Value := .slice x.a x.ps.length x.c
theorem oneL_snoc (fs : List Fd) (x : Ix) (cs : List CV) (bh : List Pt) (els : List ByteArray) (k : Nat) (hk : k < els.length) : (els.take (k + 1)).filterMap (oneL fs x cs bh) = (els.take k).filterMap (oneL fs x cs bh) ++ (if lackB fs x cs els[k] then [] else [ownP fs x cs els[k] ++ bh]) := by
  rw [List.take_succ_eq_append_getElem hk, List.filterMap_append]
  congr 1
  unfold oneL
  cases h : lackB fs x cs els[k] <;> simp [h]
theorem all_snoc (els : List ByteArray) (f : ByteArray → Bool) (k : Nat) (hk : k < els.length) : (els.take (k + 1)).all f = ((els.take k).all f && f els[k]) := by
  rw [List.take_succ_eq_append_getElem hk, List.all_append]
  simp

/-- The slice of elements stays readable. -/
def ElsAt (w wr : World) (ao : Option Addr) (els : List ByteArray) : Prop := CellsAt wr ao (els.map Value.string) ∧ ∀ g off, ao = some ⟨g, off, none⟩ → 0 < els.length → g < w.heap.size ∨ ∃ q, wr.heap[g]? = some (.cells q 9)
theorem ElsAt.fr {w a b : World} {B : Nat} {ao : Option Addr} {els : List ByteArray} (h : ElsAt w a ao els) (hB : w.heap.size ≤ B) (hf : Fr B a b) : ElsAt w b ao els := by
  refine ⟨fun hne => ?_, fun g off hg hn => ?_⟩
  · have hn : 0 < els.length := by cases els with | nil => simp at hne | cons _ _ => simp
    obtain ⟨g, off, ha, hc⟩ := h.1 hne
    refine ⟨g, off, ha, fun j u hj => ?_⟩
    have h1 := hc j u hj
    rcases h.2 g off ha hn with h2 | ⟨q, hq⟩
    · rw [hf.below.cell (show g < B by omega)]; exact h1
    · have h3 := hf.strs g q hq
      rw [cell_blk hq] at h1
      rw [cell_blk h3]
      exact h1
  · rcases h.2 g off hg hn with h2 | ⟨q, hq⟩
    · exact .inl h2
    · exact .inr ⟨q, hf.strs g q hq⟩

end Go.Proofs.YtgjcchafmcccjaaDoor

/- Layer 7 (rows): keyLists, the walk. -/
namespace Go.Proofs.YtgjcchafmcccjaaDoor
open Go.RowKit
set_option linter.unusedVariables false
attribute [local go_sem] Oper.semAt_some

theorem ownP_len (fs : List Fd) (x : Ix) (cs : List CV) (e : ByteArray) : (ownP fs x cs e).length = x.ov.length := by
  unfold ownP
  split <;> simp
theorem ownP_wf {fs : List Fd} {x : XV} {cs : List CV} {e : ByteArray} (hok : OvOk x fs cs) (hr : ∀ c ∈ cs, c.wf) (he : e.size ≤ 140737488351232) : ∀ q ∈ ownP fs x.x cs e, q.wf := by
  have h1 : ∀ q ∈ x.x.ov.map (cellP fs cs e), q.wf := by
    intro q hq
    obtain ⟨p, hp, rfl⟩ := List.mem_map.1 hq
    have hpl := hok.place p hp
    obtain ⟨p', rfl⟩ : ∃ p' : Nat, p = (p' : Int) := ⟨p.toNat, by omega⟩
    have h2 : p' < cs.length := by have := hok.same; omega
    exact cellP_wf (by omega) h2 (hr _ (List.getElem_mem h2)) he
  unfold ownP
  split
  · intro q hq
    obtain ⟨p, hp, rfl⟩ := List.mem_map.1 hq
    exact lowPt_wf (h1 p hp)
  · exact h1
theorem elems_wf {fs : List Fd} {ov : List Int} {cs : List CV} (hr : ∀ c ∈ cs, c.wf) : ∀ e ∈ elemsOf fs ov cs, e.size ≤ 140737488351232 := by
  intro e he
  unfold elemsOf at he
  cases h : listP fs ov with
  | none =>
    rw [h] at he
    simp only [List.mem_singleton] at he
    subst he
    show (0 : Nat) ≤ _
    omega
  | some p =>
    rw [h] at he
    dsimp only at he
    by_cases hp : p.toNat < cs.length
    · rw [List.getD_eq_getElem?_getD, List.getElem?_eq_getElem hp] at he
      exact (hr _ (List.getElem_mem hp)).2.2.1 e he
    · rw [List.getD_eq_getElem?_getD, List.getElem?_eq_none (by omega)] at he
      simp [noC] at he

/-- What is asked of a table and an index over a row. -/
structure KlOk (w : World) (t : TV) (x : XV) (ca : Option Addr) (cs : List CV) : Prop where
  ok : OvOk x t.fs cs
  fs : CellsAt w t.fa (fcs t.fs)
  xs : CellsAt w t.xa (xcs t.xs)
  ov : CellsAt w x.va (ics x.x.ov)
  row : RowAt w ca cs
  id : 0 < t.xs.length
  xm : t.xs.length ≤ 8
  ok0 : ∀ y, t.xs[0]? = some y → OvOk y t.fs cs ∧ CellsAt w y.va (ics y.x.ov)
  few : (elemsOf t.fs x.x.ov cs).length ≤ 32
theorem KlOk.below {w w' : World} {t : TV} {x : XV} {ca : Option Addr} {cs : List CV} (h : KlOk w t x ca cs) (hb : Below w.heap.size w w') : KlOk w' t x ca cs :=
  ⟨h.ok, h.fs.below hb, h.xs.below hb, h.ov.below hb, h.row.below hb, h.id, h.xm, fun y hy => ⟨(h.ok0 y hy).1, (h.ok0 y hy).2.below hb⟩, h.few⟩

end Go.Proofs.YtgjcchafmcccjaaDoor

/- The walks of Encode and Begin. -/
namespace Go.Proofs.YtgjcchafmcccjaaDoor
open Go.RowKit
set_option linter.unusedVariables false

end Go.Proofs.YtgjcchafmcccjaaDoor

/- Layer 7 (rows): indexKeys. -/
namespace Go.Proofs.YtgjcchafmcccjaaDoor
open Go.RowKit
set_option linter.unusedVariables false
attribute [local go_sem] Oper.semAt_some

def keyOf (ps : List Pt) : List UInt8 := (encAns false ps).1
def badB (ps : List Pt) : Bool := (encAns false ps).2 != 0
def sortedK (ls : List (List Pt)) : List (List UInt8) := Lib.compact ((ls.map keyOf).mergeSort fun x y => decide (x ≤ y))
def indexP (t : Tb) (x : Ix) (cs : List CV) : List (List UInt8) × Int :=
  if wholeB t x cs = false ∧ x.s = false then ([], 73) else if (listsP t x cs).any badB then ([], 74) else (sortedK (listsP t x cs), 0)

/-- A slice of keys of the call's own. -/
def KeysAt (w : World) (B : Nat) (v : Value) (ks : List (List UInt8)) : Prop := w.ownsRow B 9 1 v ks.length (ks.map encS)
def kRow (ls : List LV) (k : Nat) : List Value := (((ls.map LV.ps).take k).map keyOf).map encS
theorem keys_take (ls : List LV) (k : Nat) (hk : k < ls.length) : ((ls.map LV.ps).take (k + 1)).map keyOf = ((ls.map LV.ps).take k).map keyOf ++ [keyOf ls[k].ps] := by
  rw [List.take_succ_eq_append_getElem (by simpa using hk), List.map_append]
  simp

theorem kRow_succ (ls : List LV) (k : Nat) (hk : k < ls.length) : kRow ls (k + 1) = kRow ls k ++ [.string ⟨(keyOf ls[k].ps).toArray⟩] := by
  unfold kRow
  rw [keys_take ls k hk, List.map_append]
  rfl
/-- What indexKeys answers. -/
def IxAns (w : World) (t : Tb) (x : Ix) (cs : List CV) (e : Ending) (w' : World) : Prop :=
  ∃ v, e = .returned (.tuple #[v, .int .i64 (indexP t x cs).2]) ∧ KeysAt w' w.heap.size v (indexP t x cs).1 ∧ Below w.heap.size w w'

end Go.Proofs.YtgjcchafmcccjaaDoor

/- Layer 7 (rows): fitCells, Fit, Keys. -/
namespace Go.Proofs.YtgjcchafmcccjaaDoor
open Go.RowKit
set_option linter.unusedVariables false
attribute [local go_sem] Oper.semAt_some

def fitL : List Fd → List CV → Int
  | f :: fs, c :: cs => if usesB f.k c = false then 71 else if 32 < c.l.length then 72 else fitL fs cs
  | _, _ => 0
def fitC (fs : List Fd) (cs : List CV) : Int := if cs.length ≠ fs.length then 70 else fitL fs cs
theorem fitL_few : ∀ (fs : List Fd) (cs : List CV), cs.length = fs.length → fitL fs cs = 0 → ∀ c ∈ cs, c.l.length ≤ 32
  | [], [], _, _, c, hc => by simp at hc
  | f :: fs, d :: cs, hl, h, c, hc => by
    unfold fitL at h
    split at h
    · cases h
    · split at h
      · cases h
      · rcases List.mem_cons.1 hc with rfl | hc
        · omega
        · exact fitL_few fs cs (by simpa using hl) h c hc
  | [], d :: cs, hl, _, _, _ => by simp at hl
  | f :: fs, [], hl, _, c, hc => by simp at hc
theorem fitC_few {fs : List Fd} {cs : List CV} (h : fitC fs cs = 0) : cs.length = fs.length ∧ ∀ c ∈ cs, c.l.length ≤ 32 := by
  unfold fitC at h
  split at h
  · cases h
  · next hl =>
    have hl : cs.length = fs.length := Decidable.not_not.1 hl
    exact ⟨hl, fitL_few fs cs hl h⟩
theorem elems_few {fs : List Fd} {ov : List Int} {cs : List CV} (h : ∀ c ∈ cs, c.l.length ≤ 32) : (elemsOf fs ov cs).length ≤ 32 := by
  unfold elemsOf
  cases listP fs ov with
  | none => simp
  | some p =>
    dsimp only
    by_cases hp : p.toNat < cs.length
    · rw [List.getD_eq_getElem?_getD, List.getElem?_eq_getElem hp]
      exact h _ (List.getElem_mem hp)
    · rw [List.getD_eq_getElem?_getD, List.getElem?_eq_none (by omega)]
      simp [noC]

end Go.Proofs.YtgjcchafmcccjaaDoor

/- Layer 7 (rows): Fit, Keys. -/
namespace Go.Proofs.YtgjcchafmcccjaaDoor
open Go.RowKit
set_option linter.unusedVariables false
attribute [local go_sem] Oper.semAt_some

/-- A table where it can be read. -/
structure TRd (w : World) (t : TV) : Prop where
  fs : CellsAt w t.fa (fcs t.fs)
  xs : CellsAt w t.xa (xcs t.xs)
  ov : ∀ x ∈ t.xs, CellsAt w x.va (ics x.x.ov)
  ok : TOk t
theorem TRd.below {w w' : World} {t : TV} (h : TRd w t) (hb : Below w.heap.size w w') : TRd w' t := ⟨h.fs.below hb, h.xs.below hb, fun x hx => (h.ov x hx).below hb, h.ok⟩
theorem Tabs.rd {w : World} {B : Nat} {v : Value} {ts : List TV} (h : Tabs w B v ts) {t : TV} (ht : t ∈ ts) : TRd w t :=
  ⟨row_cells (h.tab t ht).fs, row_cells (h.tab t ht).xs, fun x hx => row_cells ((h.tab t ht).ov x hx), h.ok t ht⟩
theorem TRd.ovok {w : World} {t : TV} {cs : List CV} (h : TRd w t) (hl : cs.length = t.fs.length) {x : XV} (hx : x ∈ t.xs) : OvOk x t.fs cs :=
  ⟨(h.ok.xok x hx).one, (h.ok.xok x hx).most, (h.ok.xok x hx).place, hl, h.ok.fmost, fun f hf => (h.ok.fsize f hf).2⟩
theorem TRd.klok {w : World} {t : TV} {ca : Option Addr} {cs : List CV} (h : TRd w t) (hr : RowAt w ca cs) (hf : fitC t.fs cs = 0) {x : XV} (hx : x ∈ t.xs) : KlOk w t x ca cs := by
  have hc := fitC_few hf
  refine ⟨h.ovok hc.1 hx, h.fs, h.xs, h.ov x hx, hr, List.length_pos_of_mem hx, h.ok.xmost, fun y hy => ?_, elems_few hc.2⟩
  have hm := List.mem_of_getElem? hy
  exact ⟨h.ovok hc.1 hm, h.ov y hm⟩

def fitX (t : Tb) (cs : List CV) : List Ix → Int
  | [] => 0
  | x :: xs => if (indexP t x cs).2 ≠ 0 then (indexP t x cs).2 else fitX t cs xs
def fitP (t : Tb) (cs : List CV) : Int := if fitC t.fs cs ≠ 0 then fitC t.fs cs else fitX t cs t.xs

end Go.Proofs.YtgjcchafmcccjaaDoor

/- Layer 7 (rows): hasPlace, Keys. -/
namespace Go.Proofs.YtgjcchafmcccjaaDoor
open Go.RowKit
set_option linter.unusedVariables false
attribute [local go_sem] Oper.semAt_some

def placeB (t : Tb) (p : Int) : Bool := decide (0 ≤ p) && decide (p < t.xs.length)
def noX : Ix := ⟨⟨#[]⟩, [], false, false, false⟩
def keysP (t : Tb) (p : Int) (cs : List CV) : List (List UInt8) × Int :=
  if placeB t p = false then ([], 75) else if fitP t cs ≠ 0 then ([], fitP t cs) else indexP t (t.xs.getD p.toNat noX) cs
theorem fitP_cells {t : Tb} {cs : List CV} (h : fitP t cs = 0) : fitC t.fs cs = 0 := by
  unfold fitP at h
  split at h
  · next h0 => exact absurd h h0
  · next h0 => exact Decidable.not_not.1 h0
end Go.Proofs.YtgjcchafmcccjaaDoor

/- Layer 7 (rows): a row of the call's own; what is said of a row hangs on its contents alone. -/
namespace Go.Proofs.YtgjcchafmcccjaaDoor
open Go.RowKit
set_option linter.unusedVariables false

/-- append(s, u), u laid right ahead. -/
theorem append_rowW (W : World) {ops : Array Oper} {rest : List Oper} {o : Oper} {a : Act} {Q : Exit → Act → World → Prop} (hgd : o.guard = none) (s x : Operand) (t e : TypeId) (z : Value) (size bytes : Nat)
    (ht : Tryd.prog.underlying t = some (.slice e)) (hi : (Tryd.prog.info? e).map (fun i => (i.zero, i.size, i.bytes)) = some (some z, size, bytes)) (hzs : z.cells.size = size) (hsz : 0 < size)
    (ho : o.op = .call { callee := .builtin .append, args := #[s, x], argTypes := #[t, t] })
    (B : Nat) (v : Value) (n : Nat) (l : List Value) (hs : a.eval s = v) (us : List Value) (hus : us.length = size) (h1 : ∀ u ∈ us, u.oneCell' = true) (g : Nat) (cs : Array Value) (hcs : cs = us.toArray) (hx : a.eval x = .slice (some ⟨g, 0, none⟩) 1 1)
    (hg : g = W.heap.size) (hown : W.ownsRow B e size v n l) (hn : n + 1 ≤ maxLen) (hlen : (n + 1) * bytes ≤ 140737488355328) (hB : B ≤ W.heap.size)
    (h : ∀ v' w', w'.ownsRow B e size v' (n + 1) (l ++ us) → Grew W w' v v' → wpList Tryd.prog ops Q rest (a.put o.dst v') w') : wpList Tryd.prog ops Q (o :: rest) a (W.alloc (.cells cs e)) := by
  obtain ⟨i0, hi0, hb⟩ := Option.map_eq_some_iff.1 hi
  simp only [Prod.mk.injEq] at hb
  obtain ⟨hz0, hz1, hz2⟩ := hb
  subst hg hcs
  refine wpList_append_grew _ hgd s x t ho B e i0 z size bytes ht hi0 hz0 hz1 hz2 hzs hsz v n l hs (hown.alloc _) ⟨W.heap.size, 0, none⟩ 1 1 us hx (by omega) (cells_new _ _ _) h1 hn hlen (by simp; omega) ?_
  intro v' w' h1 h2 _
  exact h v' w' h1 h2.ofAlloc
theorem info_cell : (Tryd.prog.info? 66).map (fun i => (i.zero, i.size, i.bytes)) = some (some (.agg #[.string ⟨#[]⟩, .int .u64 0, .slice none 0 0]), 3, 48) := by kernel_rfl

/-- What a cell says. -/
def CV.core (c : CV) : ByteArray × Int × List ByteArray := (c.t, c.n, c.l)
def Alike (ds cs : List CV) : Prop := ds.map CV.core = cs.map CV.core
theorem Alike.len {ds cs : List CV} (h : Alike ds cs) : ds.length = cs.length := by have := congrArg List.length h; simpa using this
theorem Alike.getD {ds cs : List CV} (h : Alike ds cs) (i : Nat) : (ds.getD i noC).core = (cs.getD i noC).core := by
  have h1 : (ds.map CV.core)[i]? = (cs.map CV.core)[i]? := by rw [h]
  rw [List.getElem?_map, List.getElem?_map] at h1
  rw [List.getD_eq_getElem?_getD, List.getD_eq_getElem?_getD]
  cases hd : ds[i]? with
  | none =>
    cases hc : cs[i]? with
    | none => rfl
    | some c => rw [hd, hc] at h1; simp at h1
  | some d =>
    cases hc : cs[i]? with
    | none => rw [hd, hc] at h1; simp at h1
    | some c => rw [hd, hc] at h1; simpa using h1
theorem Alike.t {ds cs : List CV} (h : Alike ds cs) (i : Nat) : (ds.getD i noC).t = (cs.getD i noC).t := congrArg Prod.fst (h.getD i)
theorem Alike.n {ds cs : List CV} (h : Alike ds cs) (i : Nat) : (ds.getD i noC).n = (cs.getD i noC).n := congrArg (fun x => x.2.1) (h.getD i)
theorem Alike.l {ds cs : List CV} (h : Alike ds cs) (i : Nat) : (ds.getD i noC).l = (cs.getD i noC).l := congrArg (fun x => x.2.2) (h.getD i)
theorem Alike.own {ds cs : List CV} (h : Alike ds cs) (fs : List Fd) (x : Ix) : ownP fs x ds = ownP fs x cs := by
  funext e
  unfold ownP
  have : cellP fs ds e = cellP fs cs e := by
    funext p
    unfold cellP
    rw [h.t, h.n]
  rw [this]
theorem Alike.elems {ds cs : List CV} (h : Alike ds cs) (fs : List Fd) (ov : List Int) : elemsOf fs ov ds = elemsOf fs ov cs := by
  unfold elemsOf
  cases listP fs ov with
  | none => rfl
  | some p => exact h.l _
theorem Alike.index {ds cs : List CV} (h : Alike ds cs) (t : Tb) (x : Ix) : indexP t x ds = indexP t x cs := by
  have h1 : lackB t.fs x ds = lackB t.fs x cs := by funext e; unfold lackB; rw [h.own]
  have h2 : behindP t x ds = behindP t x cs := by unfold behindP; rw [h.own]
  have h3 : oneL t.fs x ds = oneL t.fs x cs := by funext bh e; unfold oneL; rw [h1, h.own]
  unfold indexP wholeB listsP
  rw [h1, h2, h3, h.elems]
theorem fitL_alike (fs : List Fd) : ∀ (ds cs : List CV), Alike ds cs → fitL fs ds = fitL fs cs := by
  induction fs with
  | nil => intro ds cs _; cases ds <;> cases cs <;> rfl
  | cons f fs ih =>
    intro ds cs h
    cases ds with
    | nil => cases cs with | nil => rfl | cons c cs => exact absurd h.len (by simp)
    | cons d ds =>
      cases cs with
      | nil => exact absurd h.len (by simp)
      | cons c cs =>
        have h1 : d.core = c.core ∧ Alike ds cs := by
          unfold Alike at h ⊢
          simpa using h
        have ht : d.t = c.t := congrArg Prod.fst h1.1
        have hn : d.n = c.n := congrArg (fun x => x.2.1) h1.1
        have hl : d.l = c.l := congrArg (fun x => x.2.2) h1.1
        unfold fitL usesB
        rw [ih ds cs h1.2, ht, hn, hl]
theorem Alike.fit {ds cs : List CV} (h : Alike ds cs) (t : Tb) : fitP t ds = fitP t cs := by
  have h1 : fitC t.fs ds = fitC t.fs cs := by unfold fitC; rw [h.len, fitL_alike _ _ _ h]
  have h2 : ∀ xs, fitX t ds xs = fitX t cs xs := by
    intro xs
    induction xs with
    | nil => rfl
    | cons x xs ih => unfold fitX; rw [h.index, ih]
  unfold fitP
  rw [h1, h2]
theorem Alike.keys {ds cs : List CV} (h : Alike ds cs) (t : Tb) (p : Int) : keysP t p ds = keysP t p cs := by
  unfold keysP
  rw [h.fit, h.index]
theorem Alike.wf {ds cs : List CV} (h : Alike ds cs) (hw : ∀ c ∈ cs, c.wf) : ∀ d ∈ ds, d.wf := by
  intro d hd
  obtain ⟨i, hi, rfl⟩ := List.getElem_of_mem hd
  have hi' : i < cs.length := by rw [← h.len]; exact hi
  have hc := hw cs[i] (List.getElem_mem hi')
  have h1 : ds[i].core = cs[i].core := by
    have := h.getD i
    rw [List.getD_eq_getElem?_getD, List.getD_eq_getElem?_getD, List.getElem?_eq_getElem hi, List.getElem?_eq_getElem hi'] at this
    exact this
  have ht : ds[i].t = cs[i].t := congrArg Prod.fst h1
  have hn : ds[i].n = cs[i].n := congrArg (fun x => x.2.1) h1
  have hl : ds[i].l = cs[i].l := congrArg (fun x => x.2.2) h1
  unfold CV.wf at hc ⊢
  rw [ht, hn, hl]
  exact hc

/-- A row of the call's own: its cells, and each list in a block of its own. -/
abbrev CV.v (c : CV) : Value := .slice c.la c.l.length c.lc
structure OwnR (w : World) (B : Nat) (v : Value) (cs : List CV) : Prop where
  row : w.ownsRow B 66 3 v cs.length (ccs cs)
  lst : ∀ c ∈ cs, w.ownsRow B 9 1 c.v c.l.length (c.l.map Value.string)
theorem OwnR.nil (w : World) (B : Nat) : OwnR w B (.slice none 0 0) [] := ⟨World.ownsRow_nil _ _ _ _, fun c hc => by simp at hc⟩
theorem OwnR.below {w w' : World} {B : Nat} {v : Value} {cs : List CV} (h : OwnR w B v cs) (hb : Below w.heap.size w w') : OwnR w' B v cs := ⟨row_below h.row hb, fun c hc => row_below (h.lst c hc) hb⟩
theorem OwnR.mono {w : World} {B B' : Nat} {v : Value} {cs : List CV} (h : OwnR w B v cs) (hB : B' ≤ B) : OwnR w B' v cs := ⟨row_mono h.row hB, fun c hc => row_mono (h.lst c hc) hB⟩
theorem OwnR.rowAt {w : World} {B : Nat} {ao : Option Addr} {c : Nat} {cs : List CV} (h : OwnR w B (.slice ao cs.length c) cs) (hw : ∀ c ∈ cs, c.wf) : RowAt w ao cs := ⟨row_cells h.row, fun c hc => row_cells (h.lst c hc), hw⟩
theorem ccs_snoc (cs : List CV) (c : CV) : ccs (cs ++ [c]) = ccs cs ++ [.string c.t, .int .u64 c.n, c.v] := by simp [ccs]
/-- One cell more, its list made since w0. -/
theorem OwnR.push {w0 w2 w3 : World} {B : Nat} {v v' : Value} {cs : List CV} {c : CV} (h : OwnR w2 B v cs) (hc : w2.ownsRow B 9 1 c.v c.l.length (c.l.map Value.string)) (hr : w3.ownsRow B 66 3 v' (cs.length + 1) (ccs cs ++ [.string c.t, .int .u64 c.n, c.v])) (hg : Grew w2 w3 v v') : OwnR w3 B v' (cs ++ [c]) := by
  refine ⟨by rw [List.length_append, ccs_snoc]; exact hr, fun d hd => ?_⟩
  rcases List.mem_append.1 hd with hd | hd
  · exact row_grew (h.lst d hd) hg (rows_ne (h.lst d hd) h.row (by decide))
  · simp only [List.mem_singleton] at hd
    subst hd
    exact row_grew hc hg (rows_ne hc h.row (by decide))
/-- A slice of texts made since grows. -/
theorem OwnR.grew {w w2 w3 : World} {B n : Nat} {v u u' : Value} {cs : List CV} {l : List Value} (h : OwnR w B v cs) (hb : Below w.heap.size w w2) (ho : w2.ownsRow w.heap.size 9 1 u n l) (hg : Grew w2 w3 u u') : OwnR w3 B v cs := by
  have h2 := h.below hb
  refine ⟨row_grew h2.row hg (rows_ne h2.row ho (by decide)), fun c hc => row_grew (h2.lst c hc) hg fun k hk e => ?_⟩
  have h3 := (World.ownsRow.lt ho k hk).1
  have h4 := (World.ownsRow.lt (h.lst c hc) k e).2
  omega
end Go.Proofs.YtgjcchafmcccjaaDoor
