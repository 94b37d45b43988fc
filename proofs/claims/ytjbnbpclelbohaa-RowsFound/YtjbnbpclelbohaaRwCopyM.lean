/- Layer 7 (rows): a row of the call's own; what is said of a row hangs on its contents alone. -/
import Derived.Test.YtjbnbpclelbohaaRwLowR
namespace Go.Proofs.Ytjbnbpclelbohaa
open Go.RowKit
set_option linter.unusedVariables false

theorem run_append_none (t ty e : TypeId) (i : TypeInfo) (ht : Try.prog.underlying t = some (.slice e)) (hi : Try.prog.info? e = some i) (w : World) (base : Option Addr) (n cap c : Nat) (h : n ≤ cap) :
    (Builtin.append_ #[t, t] ty #[.slice base n cap, .slice none 0 c]).run Try.prog w = .ok (.slice base n cap) w := by
  cases base <;> simp [Builtin.append_, run_underlying ht, sizeOf, typeInfo, hi, Builtin.lenOf, h, Builtin.firstCells, storeCells]
/-- append(s, x...), x anywhere, or none. -/
theorem append_src (W : World) {ops : Array Oper} {rest : List Oper} {o : Oper} {a : Act} {Q : Exit → Act → World → Prop} (hgd : o.guard = none) (s x : Operand) (t e : TypeId) (z : Value) (size bytes : Nat)
    (ht : Try.prog.underlying t = some (.slice e)) (hi : (Try.prog.info? e).map (fun i => (i.zero, i.size, i.bytes)) = some (some z, size, bytes)) (hzs : z.cells.size = size) (hsz : 0 < size)
    (ho : o.op = .call { callee := .builtin .append, args := #[s, x], argTypes := #[t, t] })
    (B : Nat) (v : Value) (n : Nat) (l : List Value) (hs : a.eval s = v) (hown : W.ownsRow B e size v n l) (ao : Option Addr) (m c : Nat) (news : List Value) (hx : a.eval x = .slice ao m c) (hl : news.length = m * size) (hc : CellsAt W ao news) (h1 : ∀ u ∈ news, u.oneCell' = true)
    (h63 : n + m ≤ maxLen) (hlen : (n + m) * bytes ≤ 140737488355328) (hB : B ≤ W.heap.size)
    (h : ∀ v' w', w'.ownsRow B e size v' (n + m) (l ++ news) → Grew W w' v v' → wpList Try.prog ops Q rest (a.put o.dst v') w') : wpList Try.prog ops Q (o :: rest) a W := by
  obtain ⟨i0, hi0, hb⟩ := Option.map_eq_some_iff.1 hi
  simp only [Prod.mk.injEq] at hb
  obtain ⟨hz0, hz1, hz2⟩ := hb
  cases ao with
  | none =>
    have h0 : news = [] := by
      cases news with
      | nil => rfl
      | cons u us =>
        obtain ⟨b, off, e, _⟩ := hc (by simp)
        cases e
    subst h0
    have hm : m = 0 := by
      rcases Nat.eq_zero_or_pos m with h | h
      · exact h
      · have := Nat.mul_pos h hsz
        rw [← hl] at this
        exact absurd this (by simp)
    subst hm
    obtain ⟨vo, vc, rfl, _⟩ := row_forms hown
    have hnc : n ≤ vc := by
      rcases hown.2 with ⟨e, h0⟩ | ⟨g, cap, cur, e, _, _, hnc, _⟩
      · omega
      · simp only [Value.slice.injEq] at e
        obtain ⟨_, _, rfl⟩ := e
        exact hnc
    refine wpList_plain hgd fun K hK => ?_
    have hr := run_append_none t o.type e i0 ht hi0 W vo n vc c hnc
    unfold Oper.wp execOp
    simp only [ho, resolve, invoke, builtin, Sem.run_bind, Sem.run_pure, Result.andThen_ok, List.map_toArray, List.map_cons, List.map_nil, hs, hx, hr]
    exact hK _ _ (h _ W (by simpa using hown) (Grew.refl _ _))
  | some ad =>
    refine wpList_append_grew W hgd s x t ho B e i0 z size bytes ht hi0 hz0 hz1 hz2 hzs hsz v n l hs hown ad m c news hx hl ?_ h1 h63 hlen hB (fun v' w' h1 h2 _ => h v' w' h1 h2)
    intro j u hj
    obtain ⟨b, off, e, hcc⟩ := hc (by intro e; rw [e] at hj; simp at hj)
    obtain rfl := Option.some.inj e
    rw [Addr.add_lit]
    exact hcc j u hj
/-- append(s, u), u laid right ahead. -/
theorem append_rowW (W : World) {ops : Array Oper} {rest : List Oper} {o : Oper} {a : Act} {Q : Exit → Act → World → Prop} (hgd : o.guard = none) (s x : Operand) (t e : TypeId) (z : Value) (size bytes : Nat)
    (ht : Try.prog.underlying t = some (.slice e)) (hi : (Try.prog.info? e).map (fun i => (i.zero, i.size, i.bytes)) = some (some z, size, bytes)) (hzs : z.cells.size = size) (hsz : 0 < size)
    (ho : o.op = .call { callee := .builtin .append, args := #[s, x], argTypes := #[t, t] })
    (B : Nat) (v : Value) (n : Nat) (l : List Value) (hs : a.eval s = v) (us : List Value) (hus : us.length = size) (h1 : ∀ u ∈ us, u.oneCell' = true) (g : Nat) (cs : Array Value) (hcs : cs = us.toArray) (hx : a.eval x = .slice (some ⟨g, 0, none⟩) 1 1)
    (hg : g = W.heap.size) (hown : W.ownsRow B e size v n l) (hn : n + 1 ≤ maxLen) (hlen : (n + 1) * bytes ≤ 140737488355328) (hB : B ≤ W.heap.size)
    (h : ∀ v' w', w'.ownsRow B e size v' (n + 1) (l ++ us) → Grew W w' v v' → wpList Try.prog ops Q rest (a.put o.dst v') w') : wpList Try.prog ops Q (o :: rest) a (W.alloc (.cells cs e)) := by
  obtain ⟨i0, hi0, hb⟩ := Option.map_eq_some_iff.1 hi
  simp only [Prod.mk.injEq] at hb
  obtain ⟨hz0, hz1, hz2⟩ := hb
  subst hg hcs
  refine wpList_append_grew _ hgd s x t ho B e i0 z size bytes ht hi0 hz0 hz1 hz2 hzs hsz v n l hs (hown.alloc _) ⟨W.heap.size, 0, none⟩ 1 1 us hx (by omega) (cells_new _ _ _) h1 hn hlen (by simp; omega) ?_
  intro v' w' h1 h2 _
  exact h v' w' h1 h2.ofAlloc
theorem info_cell : (Try.prog.info? 55).map (fun i => (i.zero, i.size, i.bytes)) = some (some (.agg #[.string ⟨#[]⟩, .int .u64 0, .slice none 0 0]), 3, 48) := by kernel_rfl

/-- What a cell says. -/
def CV.core (c : CV) : ByteArray × Int × List ByteArray := (c.t, c.n, c.l)
def Alike (ds cs : List CV) : Prop := ds.map CV.core = cs.map CV.core
theorem Alike.len {ds cs : List CV} (h : Alike ds cs) : ds.length = cs.length := by have := congrArg List.length h; simpa using this
theorem Alike.getD {ds cs : List CV} (h : Alike ds cs) (i : Nat) : (ds.getD i noC).core = (cs.getD i noC).core := by
  have h1 : (ds.map CV.core)[i]? = (cs.map CV.core)[i]? := by rw [h]
  rw [List.getElem?_map, List.getElem?_map] at h1
  rw [List.getD_eq_getElem?_getD, List.getD_eq_getElem?_getD]
  cases hd : ds[i]? with
  | none =>
    cases hc : cs[i]? with
    | none => rfl
    | some c => rw [hd, hc] at h1; simp at h1
  | some d =>
    cases hc : cs[i]? with
    | none => rw [hd, hc] at h1; simp at h1
    | some c => rw [hd, hc] at h1; simpa using h1
theorem Alike.t {ds cs : List CV} (h : Alike ds cs) (i : Nat) : (ds.getD i noC).t = (cs.getD i noC).t := congrArg Prod.fst (h.getD i)
theorem Alike.n {ds cs : List CV} (h : Alike ds cs) (i : Nat) : (ds.getD i noC).n = (cs.getD i noC).n := congrArg (fun x => x.2.1) (h.getD i)
theorem Alike.l {ds cs : List CV} (h : Alike ds cs) (i : Nat) : (ds.getD i noC).l = (cs.getD i noC).l := congrArg (fun x => x.2.2) (h.getD i)
theorem Alike.own {ds cs : List CV} (h : Alike ds cs) (fs : List Fd) (x : Ix) : ownP fs x ds = ownP fs x cs := by
  funext e
  unfold ownP
  have : cellP fs ds e = cellP fs cs e := by
    funext p
    unfold cellP
    rw [h.t, h.n]
  rw [this]
theorem Alike.elems {ds cs : List CV} (h : Alike ds cs) (fs : List Fd) (ov : List Int) : elemsOf fs ov ds = elemsOf fs ov cs := by
  unfold elemsOf
  cases listP fs ov with
  | none => rfl
  | some p => exact h.l _
theorem Alike.index {ds cs : List CV} (h : Alike ds cs) (t : Tb) (x : Ix) : indexP t x ds = indexP t x cs := by
  have h1 : lackB t.fs x ds = lackB t.fs x cs := by funext e; unfold lackB; rw [h.own]
  have h2 : behindP t x ds = behindP t x cs := by unfold behindP; rw [h.own]
  have h3 : oneL t.fs x ds = oneL t.fs x cs := by funext bh e; unfold oneL; rw [h1, h.own]
  unfold indexP wholeB listsP
  rw [h1, h2, h3, h.elems]
theorem fitL_alike (fs : List Fd) : ∀ (ds cs : List CV), Alike ds cs → fitL fs ds = fitL fs cs := by
  induction fs with
  | nil => intro ds cs _; cases ds <;> cases cs <;> rfl
  | cons f fs ih =>
    intro ds cs h
    cases ds with
    | nil => cases cs with | nil => rfl | cons c cs => exact absurd h.len (by simp)
    | cons d ds =>
      cases cs with
      | nil => exact absurd h.len (by simp)
      | cons c cs =>
        have h1 : d.core = c.core ∧ Alike ds cs := by
          unfold Alike at h ⊢
          simpa using h
        have ht : d.t = c.t := congrArg Prod.fst h1.1
        have hn : d.n = c.n := congrArg (fun x => x.2.1) h1.1
        have hl : d.l = c.l := congrArg (fun x => x.2.2) h1.1
        unfold fitL usesB
        rw [ih ds cs h1.2, ht, hn, hl]
theorem Alike.fit {ds cs : List CV} (h : Alike ds cs) (t : Tb) : fitP t ds = fitP t cs := by
  have h1 : fitC t.fs ds = fitC t.fs cs := by unfold fitC; rw [h.len, fitL_alike _ _ _ h]
  have h2 : ∀ xs, fitX t ds xs = fitX t cs xs := by
    intro xs
    induction xs with
    | nil => rfl
    | cons x xs ih => unfold fitX; rw [h.index, ih]
  unfold fitP
  rw [h1, h2]
theorem Alike.keys {ds cs : List CV} (h : Alike ds cs) (t : Tb) (p : Int) : keysP t p ds = keysP t p cs := by
  unfold keysP
  rw [h.fit, h.index]
theorem Alike.wf {ds cs : List CV} (h : Alike ds cs) (hw : ∀ c ∈ cs, c.wf) : ∀ d ∈ ds, d.wf := by
  intro d hd
  obtain ⟨i, hi, rfl⟩ := List.getElem_of_mem hd
  have hi' : i < cs.length := by rw [← h.len]; exact hi
  have hc := hw cs[i] (List.getElem_mem hi')
  have h1 : ds[i].core = cs[i].core := by
    have := h.getD i
    rw [List.getD_eq_getElem?_getD, List.getD_eq_getElem?_getD, List.getElem?_eq_getElem hi, List.getElem?_eq_getElem hi'] at this
    exact this
  have ht : ds[i].t = cs[i].t := congrArg Prod.fst h1
  have hn : ds[i].n = cs[i].n := congrArg (fun x => x.2.1) h1
  have hl : ds[i].l = cs[i].l := congrArg (fun x => x.2.2) h1
  unfold CV.wf at hc ⊢
  rw [ht, hn, hl]
  exact hc

/-- A row of the call's own: its cells, and each list in a block of its own. -/
abbrev CV.v (c : CV) : Value := .slice c.la c.l.length c.lc
structure OwnR (w : World) (B : Nat) (v : Value) (cs : List CV) : Prop where
  row : w.ownsRow B 55 3 v cs.length (ccs cs)
  lst : ∀ c ∈ cs, w.ownsRow B 9 1 c.v c.l.length (c.l.map Value.string)
theorem OwnR.nil (w : World) (B : Nat) : OwnR w B (.slice none 0 0) [] := ⟨World.ownsRow_nil _ _ _ _, fun c hc => by simp at hc⟩
theorem OwnR.below {w w' : World} {B : Nat} {v : Value} {cs : List CV} (h : OwnR w B v cs) (hb : Below w.heap.size w w') : OwnR w' B v cs := ⟨row_below h.row hb, fun c hc => row_below (h.lst c hc) hb⟩
theorem OwnR.mono {w : World} {B B' : Nat} {v : Value} {cs : List CV} (h : OwnR w B v cs) (hB : B' ≤ B) : OwnR w B' v cs := ⟨row_mono h.row hB, fun c hc => row_mono (h.lst c hc) hB⟩
theorem OwnR.rowAt {w : World} {B : Nat} {ao : Option Addr} {c : Nat} {cs : List CV} (h : OwnR w B (.slice ao cs.length c) cs) (hw : ∀ c ∈ cs, c.wf) : RowAt w ao cs := ⟨row_cells h.row, fun c hc => row_cells (h.lst c hc), hw⟩
theorem ccs_snoc (cs : List CV) (c : CV) : ccs (cs ++ [c]) = ccs cs ++ [.string c.t, .int .u64 c.n, c.v] := by simp [ccs]
/-- One cell more, its list made since w0. -/
theorem OwnR.push {w0 w2 w3 : World} {B : Nat} {v v' : Value} {cs : List CV} {c : CV} (h : OwnR w2 B v cs) (hc : w2.ownsRow B 9 1 c.v c.l.length (c.l.map Value.string)) (hr : w3.ownsRow B 55 3 v' (cs.length + 1) (ccs cs ++ [.string c.t, .int .u64 c.n, c.v])) (hg : Grew w2 w3 v v') : OwnR w3 B v' (cs ++ [c]) := by
  refine ⟨by rw [List.length_append, ccs_snoc]; exact hr, fun d hd => ?_⟩
  rcases List.mem_append.1 hd with hd | hd
  · exact row_grew (h.lst d hd) hg (rows_ne (h.lst d hd) h.row (by decide))
  · simp only [List.mem_singleton] at hd
    subst hd
    exact row_grew hc hg (rows_ne hc h.row (by decide))
/-- A slice of texts made since grows. -/
theorem OwnR.grew {w w2 w3 : World} {B n : Nat} {v u u' : Value} {cs : List CV} {l : List Value} (h : OwnR w B v cs) (hb : Below w.heap.size w w2) (ho : w2.ownsRow w.heap.size 9 1 u n l) (hg : Grew w2 w3 u u') : OwnR w3 B v cs := by
  have h2 := h.below hb
  refine ⟨row_grew h2.row hg (rows_ne h2.row ho (by decide)), fun c hc => row_grew (h2.lst c hc) hg fun k hk e => ?_⟩
  have h3 := (World.ownsRow.lt ho k hk).1
  have h4 := (World.ownsRow.lt (h.lst c hc) k e).2
  omega
end Go.Proofs.Ytjbnbpclelbohaa
