/- Layer 5 (txn): what stands between two rounds of TxnHeld's loop: trees, what was seen of them, the marks of the loops over iterators. -/
import Derived.Test.YtdmhffbohnfdlaaGreatTDone
import Derived.Test.YtdmhffbohnfdlaaGreatXGath
import Derived.RangeFuncLeaves
namespace Go.Proofs.YtdmhffbohnfdlaaGreat
open Go.RowKit Go.Shelf
open scoped Classical
set_option linter.unusedVariables false

/-! ### append, with what is said of each cell of the block -/
/-- Each cell of the slice's own block, spare room and all, is as Q says. -/
def OwnQ (Q : Value → Prop) (e : TypeId) (w : World) (v : Value) : Prop := ∀ g cur, v.ownBlock = some g → w.heap[g]? = some (.cells cur e (0, 0)) → ∀ x ∈ cur.toList, Q x
theorem zeroQ {Q : Value → Prop} {z : Value} (h : Q z) (n : Nat) : ∀ x ∈ (Builtin.zeroCells #[z] n).toList, Q x := fun x hx => by
  simp only [Builtin.zeroCells, Array.toList_map, List.mem_map] at hx
  obtain ⟨i, -, rfl⟩ := hx
  show Q ((#[z])[i % 1]!)
  rw [Nat.mod_one]
  exact h
theorem append_q (Q : Value → Prop) (w : World) (base : Nat) (t ty e : TypeId) (i : TypeInfo) (z z' : Value) (bytes : Nat) (ht : Tryz.prog.underlying t = some (.slice e)) (hi : Tryz.prog.info? e = some i) (hz : i.zero = some z) (hs : i.size = 1) (hby : i.bytes = bytes) (hzc : z.cells = #[z']) (hzq : Q z')
    (v : Value) (l : List Value) (hown : OwnV w base e v l) (hq : OwnQ Q e w v) (hlq : ∀ x ∈ l, Q x) (a : Addr) (c : Nat) (u : Value) (hu : Q u) (hu1 : u.oneCell' = true) (hnews : ∀ j x, [u][j]? = some x → w.cell? (a.add j) = some x) (hl : (l.length + 1) * bytes ≤ 140737488355328) (hl' : l.length + 1 ≤ 9223372036854775807) (hbase : base ≤ w.heap.size) :
    ∃ v' w', (Builtin.append_ #[t, t] ty #[v, .slice (some a) 1 c]).run Tryz.prog w = .ok v' w' ∧ OwnV w' base e v' (l ++ [u]) ∧ Grew w w' v v' ∧ OwnQ Q e w' v' := by
  obtain ⟨v', w', hrun, h1, h2, -⟩ := run_append_grew (P := Tryz.prog) w base t ty e i z 1 bytes ht hi hz hs hby (by rw [hzc]; rfl) (by decide) v l.length l hown a 1 c [u] rfl hnews (by simp [hu1]) (by unfold maxLen; omega) hl hbase
  refine ⟨v', w', hrun, by unfold OwnV; rw [List.length_append]; exact h1, h2, ?_⟩
  have he := hown.1
  rcases hown.2 with ⟨rfl, h0⟩ | ⟨g, cap, cur, rfl, hbg, hg, hnc, hcm, hcs, htake⟩
  · have hr := run_append_nil (P := Tryz.prog) w t ty e i z ht hi hz a 1 c [u] (by rw [hs]; rfl) hnews (by omega) (by omega) (by rw [hby]; rw [h0, Nat.zero_add] at hl; omega)
    rw [hrun] at hr
    simp only [Result.ok.injEq] at hr
    obtain ⟨rfl, rfl⟩ := hr
    intro g cur hg hb
    simp only [Value.ownBlock, Option.some.injEq] at hg
    subst hg
    have := heap_alloc_new w.drew (.cells ([u].toArray ++ Builtin.zeroCells z.cells (grownCap w 1 0 e - 1)) e)
    rw [show w.drew.heap.size = w.heap.size from rfl] at this
    rw [this] at hb
    simp only [Option.some.injEq, Obj.cells.injEq] at hb
    obtain ⟨rfl, -⟩ := hb
    rw [hzc]
    intro x hx
    rw [Array.toList_append, List.mem_append] at hx
    exact hx.elim (fun h => by simp at h; subst h; exact hu) (fun h => zeroQ hzq _ x h)
  · have hcur : ∀ x ∈ cur.toList, Q x := hq g cur rfl hg
    by_cases hroom : l.length + 1 ≤ cap
    · have hr := run_append_room (P := Tryz.prog) w t ty e i ht hi g l.length cap cur hg a 1 c [u] (by rw [hs]; rfl) hnews (by simp [hu1]) hroom (by rw [hs, hcs]; show l.length * 1 + 1 ≤ _; omega)
      rw [hrun] at hr
      simp only [Result.ok.injEq] at hr
      obtain ⟨rfl, rfl⟩ := hr
      intro g' cur' hg' hb
      simp only [Value.ownBlock, Option.some.injEq] at hg'
      subst hg'
      rw [setRow_heap w g cur _ _ _ hg] at hb
      simp only [Option.some.injEq, Obj.cells.injEq] at hb
      obtain ⟨rfl, -⟩ := hb
      intro x hx
      simp only [List.append_assoc, List.mem_append, List.mem_singleton] at hx
      rcases hx with h | h | h
      · exact hcur x (List.mem_of_mem_take h)
      · subst h; exact hu
      · exact hcur x (List.mem_of_mem_drop h)
    · have hr := run_append_grow (P := Tryz.prog) w t ty e i z ht hi hz ⟨g, 0, none⟩ l.length cap l (by rw [hs]; exact he) (World.ownsRow.cells hown (g := g) rfl) a 1 c [u] (by rw [hs]; rfl) hnews (by omega) (by omega) (growslice_fits (by omega) (by rw [hby]; exact hl))
      rw [hrun] at hr
      simp only [Result.ok.injEq] at hr
      obtain ⟨rfl, rfl⟩ := hr
      intro g' cur' hg' hb
      simp only [Value.ownBlock, Option.some.injEq] at hg'
      subst hg'
      have := heap_alloc_new w.drew (.cells (l.toArray ++ [u].toArray ++ Builtin.zeroCells z.cells (grownCap w (l.length + 1) cap e - (l.length + 1))) e)
      rw [show w.drew.heap.size = w.heap.size from rfl] at this
      rw [this] at hb
      simp only [Option.some.injEq, Obj.cells.injEq] at hb
      obtain ⟨rfl, -⟩ := hb
      rw [hzc]
      intro x hx
      rw [Array.toList_append, Array.toList_append, List.mem_append, List.mem_append] at hx
      rcases hx with (h | h) | h
      · exact hlq x (by simpa using h)
      · simp at h; subst h; exact hu
      · exact zeroQ hzq _ x h
/-- append(s, u), u of one cell, laid right ahead. -/
theorem append_valq (Qc : Value → Prop) (W : World) {ops : Array Oper} {rest : List Oper} {o : Oper} {a : Act} {Q : Exit → Act → World → Prop} (hgd : o.guard = none) (s x : Operand) (t e : TypeId) (z z' : Value) (bytes : Nat)
    (ht : Tryz.prog.underlying t = some (.slice e)) (hi : (Tryz.prog.info? e).map (fun i => (i.zero, i.size, i.bytes)) = some (some z, 1, bytes)) (hzc : z.cells = #[z']) (hzq : Qc z')
    (ho : o.op = .call { callee := .builtin .append, args := #[s, x], argTypes := #[t, t] })
    (B : Nat) (v : Value) (l : List Value) (hs : a.eval s = v) (u : Value) (hu : u.oneCell' = true) (huq : Qc u) (g : Nat) (hx : a.eval x = .slice (some ⟨g, 0, none⟩) 1 1)
    (hg : g = W.heap.size) (hown : OwnV W B e v l) (hq : OwnQ Qc e W v) (hlq : ∀ x ∈ l, Qc x) (hm : l.length + 1 ≤ 9223372036854775807) (hlen : (l.length + 1) * bytes ≤ 140737488355328) (hB : B ≤ W.heap.size)
    (h : ∀ v' w', OwnV w' B e v' (l ++ [u]) → Grew W w' v v' → OwnQ Qc e w' v' → wpList Tryz.prog ops Q rest (a.put o.dst v') w') : wpList Tryz.prog ops Q (o :: rest) a (W.alloc (.cells #[u] e)) :=
  wpList_plain hgd fun K hK => by
    obtain ⟨i0, hi, hz0, hz1, hz2⟩ := infoOf hi
    subst hg
    have hq' : OwnQ Qc e (W.alloc (.cells #[u] e)) v := fun g cur hg hb => by
      have hlt := (hown.lt g hg).2
      rw [Below.heap_alloc _ _ _ hlt] at hb
      exact hq g cur hg hb
    obtain ⟨v', w', hr, h2, h3, h4⟩ := append_q Qc (W.alloc (.cells #[u] e)) B t o.type e i0 z z' bytes ht hi hz0 hz1 hz2 hzc hzq v l (hown.alloc _) hq' hlq ⟨W.heap.size, 0, none⟩ 1 u huq hu (cells_new _ _ _) hlen hm (by simp; omega)
    unfold Oper.wp execOp
    simp only [ho, resolve, invoke, builtin, Sem.run_bind, Sem.run_pure, Result.andThen_ok, List.map_toArray, List.map_cons, List.map_nil, hs, hx, hr]
    exact hK _ _ (h v' w' h2 h3.ofAlloc h4)

/-! ### the marks of loops over iterators -/
def marksOf (Ds : List Nat) : List Deferred := Ds.map fun D => { target := .collected D, args := #[] }
structure MarksAt (B : Nat) (w : World) (Ds : List Nat) : Prop where
  nd : Ds.Nodup
  here : ∀ D ∈ Ds, w.heap[D]? = some (.deferred (some []))
  own : ∀ D ∈ Ds, B ≤ D
theorem leaves_marks {F : Fence} {n : Nat} {P : Program} {fn : Func} {tmps : Array Value} {R : Ending → World → Prop} {B : Nat} : ∀ (Ds : List Nat) (w : World), MarksAt B w Ds → (∀ w', Below B w w' → LeavesIn F n P fn tmps R [] .returning w') → LeavesInM F n P fn tmps R (marksOf Ds) .returning w
  | [], w, _, hf => hf w (Below.refl _ _)
  | D :: Ds, w, hM, hf => by
    have hD := hM.here D (List.mem_cons_self ..)
    have hB := hM.own D (List.mem_cons_self ..)
    have hb : Below B w (w.putObj D (.deferred none)) := (Below.refl B w).grown (grownBy_putObj' _ _ _) (by have := lt_of_heap hD; omega) (fun k e => by cases e; exact hB)
    refine ⟨by simp, .inl ⟨D, _, rfl, run_takeDeferred hD, leaves_marks Ds _ ⟨(List.nodup_cons.1 hM.nd).2, fun D' h' => (World.putObj_heap_other (fun e => ?_)).trans (hM.here D' (List.mem_cons_of_mem _ h')), fun D' h' => hM.own D' (List.mem_cons_of_mem _ h')⟩ (fun w' h => hf w' (hb.trans h))⟩⟩
    subst e
    exact (List.nodup_cons.1 hM.nd).1 h'

/-! ### what was kept -/
/-- A tree with what was seen of it: its entries, where their list lies. -/
structure Kd where
  tb : Nat
  T : Tr
  ne : Int
  es : List En
  ao : Option Addr
  cap : Nat
def chOf (es : List En) : List Ch := es.map fun e => (false, e.1, e.2)
theorem chOf_length (es : List En) : (chOf es).length = es.length := by simp [chOf]
structure Kd.At (B N : Nat) (W : World) (k : Kd) : Prop where
  held : Held W W k.tb k.T k.ne N k.es
  row : ChAt B W k.ao (chOf k.es)
def trsV (ks : List Kd) : List Value := ks.map fun k => .pointer (some ⟨k.tb, 0, none⟩)
def rowsV (ks : List Kd) : List Value := ks.map fun k => .slice k.ao k.es.length k.cap
theorem trsV_length (ks : List Kd) : (trsV ks).length = ks.length := by simp [trsV]
theorem rowsV_length (ks : List Kd) : (rowsV ks).length = ks.length := by simp [rowsV]

/-- From W to W' at most the blocks of X were written, which are no part of any tree, hold no changes and are older than no argument; and watches were fired. -/
structure Stl (B : Nat) (X : Nat → Prop) (W W' : World) : Prop where
  frd : Frd X W W'
  below : Below B W W'
  off : ∀ b, X b → Off W b
  typ : ∀ b, X b → ∀ cs, W.heap[b]? ≠ some (.cells cs 57)
  cel : ∀ b, X b → ∃ cs ty, W.heap[b]? = some (.cells cs ty)
theorem Stl.ofBelow {B : Nat} {W W' : World} (h : Below W.heap.size W W') (hB : B ≤ W.heap.size) : Stl B (fun _ => False) W W' := ⟨Frd.ofBelow h, h.mono hB, fun _ h => h.elim, fun _ h => h.elim, fun _ h => h.elim⟩
theorem Kd.At.keep {B N : Nat} {X : Nat → Prop} {W W' : World} {k : Kd} (h : Kd.At B N W k) (hs : Stl B X W W') : Kd.At B N W' k :=
  ⟨h.held.move (h.held.good.tree.frdO hs.frd hs.off), h.row.kept fun b hb hc => by
    rcases hc with hc | ⟨cs, hc⟩
    · exact hs.below.block b hc
    · rw [hc]
      exact hs.frd.block b _ hc (.cells (by decide)) (fun hx => hs.typ b hx cs hc)⟩
theorem MarksAt.keep {B : Nat} {X : Nat → Prop} {W W' : World} {Ds : List Nat} (h : MarksAt B W Ds) (hs : Stl B X W W') : MarksAt B W' Ds :=
  ⟨h.nd, fun D hD => hs.frd.block D _ (h.here D hD) ⟨(fun c f e => by cases e), (fun _ _ _ _ _ _ e => by cases e)⟩ (fun hx => by
    obtain ⟨cs, ty, hc⟩ := hs.cel D hx
    rw [h.here D hD] at hc
    cases hc), h.own⟩
theorem OwnV.stl {B : Nat} {X : Nat → Prop} {W W' : World} {e : TypeId} {v : Value} {l : List Value} (h : OwnV W B e v l) (hs : Stl B X W W') (he : e ≠ 157) (hx : ∀ g, v.ownBlock = some g → ¬ X g) : OwnV W' B e v l := by
  refine ⟨h.1, ?_⟩
  rcases h.2 with h0 | ⟨g, cap, cur, rfl, hb, hg, r⟩
  · exact .inl h0
  · exact .inr ⟨g, cap, cur, rfl, hb, hs.frd.block g _ hg (.cells he) (hx g (by simp [Value.ownBlock])), r⟩
theorem OwnQ.stl {B : Nat} {X : Nat → Prop} {Q : Value → Prop} {W W' : World} {e : TypeId} {v : Value} {l : List Value} (h : OwnQ Q e W v) (ho : OwnV W B e v l) (hs : Stl B X W W') (he : e ≠ 157) (hx : ∀ g, v.ownBlock = some g → ¬ X g) : OwnQ Q e W' v := fun g cur hg hb => by
  obtain ⟨cs, hc⟩ := ho.typed g hg
  rw [hs.frd.block g _ hc (.cells he) (hx g hg)] at hb
  simp at hb
  subst hb
  exact h g _ hg hc

/-- A cell that points to a tree, or nowhere. -/
def QT (ks : List Kd) (x : Value) : Prop := x = .pointer none ∨ ∃ k ∈ ks, x = .pointer (some ⟨k.tb, 0, none⟩)
def QS (x : Value) : Prop := ∀ p, x ≠ .pointer p
theorem QT.mono {ks ks' : List Kd} (h : ∀ k ∈ ks, k ∈ ks') {x : Value} (hx : QT ks x) : QT ks' x := hx.imp_right fun ⟨k, hk, e⟩ => ⟨k, h k hk, e⟩
theorem OwnQ.imp {P Q : Value → Prop} {e : TypeId} {w : World} {v : Value} (h : OwnQ P e w v) (hi : ∀ x, P x → Q x) : OwnQ Q e w v := fun g cur hg hb x hx => hi x (h g cur hg hb x hx)

/-- Between two rounds. -/
structure HdI (w : World) (bb vb tb : Nat) (T : Tr) (ne : Int) (en : List En) (d N c : Nat) (nm : Int) (ks : List Kd) (Ds : List Nat) (vt vs : Value) (W : World) : Prop where
  base : BaseAt W bb vb tb nm false
  held : Held W W tb T ne d en
  abv : Above w.heap.size T
  mks : (marks T).length ≤ 1 + 3 * d
  below : Below w.heap.size w W
  own : w.heap.size ≤ bb
  num : 0 ≤ nm ∧ nm ≤ c
  kept : ∀ k ∈ ks, Kd.At w.heap.size N W k
  trs : OwnV W w.heap.size 50 vt (trsV ks)
  trq : OwnQ (QT ks) 50 W vt
  row : OwnV W w.heap.size 52 vs (rowsV ks)
  roq : OwnQ QS 52 W vs
  mrk : MarksAt w.heap.size W Ds
theorem Stl.blk {B : Nat} {X : Nat → Prop} {W W' : World} (hs : Stl B X W W') {b : Nat} {cs : Array Value} {ty : TypeId} (h : W.heap[b]? = some (.cells cs ty)) (ht : ty ≠ 157) (hx : ¬ X b) : W'.heap[b]? = some (.cells cs ty) := hs.frd.block b _ h (.cells ht) hx

/-- Behind a commit. -/
theorem HdI.done {w : World} {bb vb tb : Nat} {T : Tr} {ne : Int} {en : List En} {d N c : Nat} {nm : Int} {ks : List Kd} {Ds : List Nat} {vt vs : Value} {W W' : World} {l : List Ch} (h : HdI w bb vb tb T ne en d N c nm ks Ds vt vs W) (hd : DoneP bb true l nm d en w.heap.size W W') :
    ∃ vb' tb' T' ne' nm' en', HdI w bb vb' tb' T' ne' en' (d + l.length) N (c + 1) nm' ks Ds vt vs W' := by
  obtain ⟨vb', tb', T', ne', h1, h2, h3, h4, h5, h6⟩ := hd
  have hn := h.num
  have hs : Stl w.heap.size (fun b => b = bb) W W' := ⟨h6, h5, fun b hb => by subst hb; exact h.base.off, fun b hb cs hc => by subst hb; rw [h.base.blk] at hc; simp at hc, fun b hb => ⟨_, _, hb ▸ h.base.blk⟩⟩
  have n1 : ∀ g, vt.ownBlock = some g → ¬ g = bb := fun g hg => own_ne (h.trs.typed g hg) h.base.blk (by decide)
  have n2 : ∀ g, vs.ownBlock = some g → ¬ g = bb := fun g hg => own_ne (h.row.typed g hg) h.base.blk (by decide)
  refine ⟨vb', tb', T', ne', _, if true then (runC en l).1 else en, h1, h2, h3, h4, h.below.trans h5, h.own, ?_, fun k hk => (h.kept k hk).keep hs, h.trs.stl hs (by decide) n1, h.trq.stl h.trs hs (by decide) n1, h.row.stl hs (by decide) n2, h.roq.stl h.row hs (by decide) n2, h.mrk.keep hs⟩
  split <;> omega
/-- .. where new memory alone was made. -/
theorem HdI.keep {w : World} {bb vb tb : Nat} {T : Tr} {ne : Int} {en : List En} {d N c : Nat} {nm : Int} {ks : List Kd} {Ds : List Nat} {vt vs : Value} {W W' : World} (h : HdI w bb vb tb T ne en d N c nm ks Ds vt vs W) (hb : Below W.heap.size W W') : HdI w bb vb tb T ne en d N c nm ks Ds vt vs W' := by
  have hs := Stl.ofBelow hb h.below.size
  exact ⟨h.base.below hb, h.held.move (h.held.good.tree.keep hb), h.abv, h.mks, h.below.trans (hb.mono h.below.size), h.own, h.num, fun k hk => (h.kept k hk).keep hs, h.trs.stl hs (by decide) (fun _ _ h => h), h.trq.stl h.trs hs (by decide) (fun _ _ h => h), h.row.stl hs (by decide) (fun _ _ h => h), h.roq.stl h.row hs (by decide) (fun _ _ h => h), h.mrk.keep hs⟩
/-- .. and a mark more. -/
theorem HdI.mark {w : World} {bb vb tb : Nat} {T : Tr} {ne : Int} {en : List En} {d N c : Nat} {nm : Int} {ks : List Kd} {Ds : List Nat} {vt vs : Value} {W W' : World} {D : Nat} (h : HdI w bb vb tb T ne en d N c nm ks Ds vt vs W) (hb : Below W.heap.size W W') (hD : W.heap.size ≤ D) (hd : W'.heap[D]? = some (.deferred (some []))) : HdI w bb vb tb T ne en d N c nm ks (D :: Ds) vt vs W' := by
  have h' := h.keep hb
  have hbs := h.below.size
  refine { h' with mrk := ⟨List.nodup_cons.2 ⟨fun hm => ?_, h'.mrk.nd⟩, fun D' h1 => ?_, fun D' h1 => ?_⟩ }
  · have := lt_of_heap (h.mrk.here D hm); omega
  · rcases List.mem_cons.1 h1 with rfl | h1
    · exact hd
    · exact h'.mrk.here D' h1
  · rcases List.mem_cons.1 h1 with rfl | h1
    · omega
    · exact h'.mrk.own D' h1
/-- What a slice's growth writes. -/
theorem Grew.stl {B : Nat} {W W' : World} {e : TypeId} {v v' : Value} {l : List Value} (h : Grew W W' v v') (ho : OwnV W B e v l) (hB : B ≤ W.heap.size) (hp : OwnQ (fun x => ∀ a, x = .pointer (some a) → ∃ ds ty', W.heap[a.block]? = some (.cells ds ty') ∧ ty' ≠ 132) e W v) (he : e ≠ 57 ∧ e ≠ 132 ∧ e ≠ 150 ∧ e ≠ 157 ∧ e ≠ 125) : Stl B (· ∈ v.ownBlock.toList) W W' := by
  have hof : ∀ b, b ∈ v.ownBlock.toList → Off W b := fun b hb => by
    have hb' : v.ownBlock = some b := by simpa using hb
    obtain ⟨cs, hc⟩ := ho.typed b hb'
    exact .inr ⟨cs, e, hc, fun j a hj => hp b cs hb' hc (.pointer (some a)) (Array.mem_toList_iff.2 (Array.mem_of_getElem? hj)) a rfl, he.2⟩
  refine ⟨h.touched.frdO hof, h.toBelow hB (fun k hk => (ho.lt k hk).1), hof, fun b hb cs hc => ?_, fun b hb => ?_⟩
  · obtain ⟨cs', hc'⟩ := ho.typed b (by simpa using hb)
    rw [hc] at hc'
    simp at hc'
    exact he.1 hc'.2.symm
  · obtain ⟨cs', hc'⟩ := ho.typed b (by simpa using hb)
    exact ⟨_, _, hc'⟩
/-- The rows stay where the trees' slice grows. -/
theorem HdI.grow {w : World} {bb vb tb : Nat} {T : Tr} {ne : Int} {en : List En} {d N c : Nat} {nm : Int} {ks : List Kd} {Ds : List Nat} {vt vs vt' : Value} {W W3 : World} (h : HdI w bb vb tb T ne en d N c nm ks Ds vt vs W) (g1 : Grew W W3 vt vt') :
    Stl w.heap.size (· ∈ vt.ownBlock.toList) W W3 ∧ OwnV W3 w.heap.size 52 vs (rowsV ks) ∧ OwnQ QS 52 W3 vs := by
  have s1 : Stl w.heap.size (· ∈ vt.ownBlock.toList) W W3 := g1.stl h.trs h.below.size (h.trq.imp fun x hx a e => by
    subst e
    rcases hx with hx | ⟨k', hk', hx⟩
    · cases hx
    · simp at hx
      subst hx
      exact ⟨_, _, (h.kept k' hk').held.good.tree.blk, by decide⟩) (by decide)
  have n1' : ∀ g, vs.ownBlock = some g → ¬ g ∈ vt.ownBlock.toList := fun g hg hx => by obtain ⟨cs, hc⟩ := h.row.typed g hg; exact own_ne (h.trs.typed g (by simpa using hx)) hc (by decide) rfl
  exact ⟨s1, h.row.stl s1 (by decide) n1', h.roq.stl h.row s1 (by decide) n1'⟩
/-- What was gathered of a tree lies there as changes. -/
def chCells (e : En) : List Value := [.bool false, .string e.1, .int .i64 e.2]
theorem chCells_get (l : List En) : ∀ (i : Nat) (h : i < l.length), (l.flatMap chCells)[i * 3]? = some (.bool false) ∧ (l.flatMap chCells)[i * 3 + 1]? = some (.string l[i].1) ∧ (l.flatMap chCells)[i * 3 + 2]? = some (.int .i64 l[i].2) := by
  induction l with
  | nil => intro i h; simp at h
  | cons e l ih =>
    intro i h
    have hc : (e :: l).flatMap chCells = .bool false :: .string e.1 :: .int .i64 e.2 :: l.flatMap chCells := rfl
    rw [hc]
    cases i with
    | zero => exact ⟨rfl, rfl, rfl⟩
    | succ i =>
      have := ih i (by simpa using h)
      rw [show (i + 1) * 3 = i * 3 + 1 + 1 + 1 by omega]
      simpa using this
theorem OwnG.changes {W : World} {B B' : Nat} {v : Value} {l : List En} (h : OwnG chCells 57 3 W B' v l) (hz : ∀ e ∈ l, e.1.size ≤ 140737488351296) : ∃ ao cap, v = .slice ao l.length cap ∧ ChAt B W ao (chOf l) := by
  rcases h.2 with ⟨rfl, h0⟩ | ⟨g, cap, cur, rfl, hb, hg, hnc, hcm, hcs, htake⟩
  · exact ⟨none, 0, by rw [h0], fun i hi => by rw [chOf_length] at hi; omega⟩
  · refine ⟨_, cap, rfl, fun i hi => ?_⟩
    rw [chOf_length] at hi
    obtain ⟨c0, c1, c2⟩ := chCells_get l i hi
    have e0 : (chOf l)[i]'(by rw [chOf_length]; exact hi) = (false, l[i].1, l[i].2) := by simp [chOf]
    refine ⟨g, 0, rfl, .inr ⟨cur, hg⟩, ?_, ?_, ?_, ?_⟩
    · have h1 := World.ownsRow.cellAt h (i * 3) (by omega)
      rw [c0] at h1
      rw [e0, Nat.zero_add]; exact h1
    · have h1 := World.ownsRow.cellAt h (i * 3 + 1) (by omega)
      rw [c1] at h1
      rw [e0, Nat.zero_add]; exact h1
    · have h1 := World.ownsRow.cellAt h (i * 3 + 2) (by omega)
      rw [c2] at h1
      rw [e0, Nat.zero_add]; exact h1
    · rw [e0]; exact hz _ (List.getElem_mem hi)
/-- A tree more, with what was seen of it. -/
theorem HdI.push {w : World} {bb vb tb : Nat} {T : Tr} {ne : Int} {en : List En} {d N c : Nat} {nm : Int} {ks : List Kd} {Ds : List Nat} {vt vs vt' vs' : Value} {W W3 W4 : World} {k : Kd} (h : HdI w bb vb tb T ne en d N c nm ks Ds vt vs W) (hk : Kd.At w.heap.size N W k)
    (o1 : OwnV W3 w.heap.size 50 vt' (trsV ks ++ [.pointer (some ⟨k.tb, 0, none⟩)])) (g1 : Grew W W3 vt vt') (q1 : OwnQ (QT (ks ++ [k])) 50 W3 vt')
    (o2 : OwnV W4 w.heap.size 52 vs' (rowsV ks ++ [.slice k.ao k.es.length k.cap])) (g2 : Grew W3 W4 vs vs') (q2 : OwnQ QS 52 W4 vs') : HdI w bb vb tb T ne en d N c nm (ks ++ [k]) Ds vt' vs' W4 := by
  have s1 : Stl w.heap.size (· ∈ vt.ownBlock.toList) W W3 := g1.stl h.trs h.below.size (h.trq.imp fun x hx a e => by
    subst e
    rcases hx with hx | ⟨k', hk', hx⟩
    · cases hx
    · simp at hx
      subst hx
      exact ⟨_, _, (h.kept k' hk').held.good.tree.blk, by decide⟩) (by decide)
  have n1 : ∀ {b : Nat} {cs : Array Value} {ty : TypeId}, W.heap[b]? = some (.cells cs ty) → ty ≠ 50 → ¬ b ∈ vt.ownBlock.toList := fun {b cs ty} hb ht hx => own_ne (h.trs.typed b (by simpa using hx)) hb (Ne.symm ht) rfl
  have n1' : ∀ g, vs.ownBlock = some g → ¬ g ∈ vt.ownBlock.toList := fun g hg => by obtain ⟨cs, hc⟩ := h.row.typed g hg; exact n1 hc (by decide)
  have r3 := h.row.stl s1 (by decide) n1'
  have rq3 := h.roq.stl h.row s1 (by decide) n1'
  have s2 : Stl w.heap.size (· ∈ vs.ownBlock.toList) W3 W4 := g2.stl r3 (Nat.le_trans h.below.size s1.frd.size) (rq3.imp fun x hx a e => (hx _ e).elim) (by decide)
  have n2 : ∀ {b : Nat} {cs : Array Value} {ty : TypeId}, W3.heap[b]? = some (.cells cs ty) → ty ≠ 52 → ¬ b ∈ vs.ownBlock.toList := fun {b cs ty} hb ht hx => own_ne (r3.typed b (by simpa using hx)) hb (Ne.symm ht) rfl
  have n2' : ∀ g, vt'.ownBlock = some g → ¬ g ∈ vs.ownBlock.toList := fun g hg => by obtain ⟨cs, hc⟩ := o1.typed g hg; exact n2 hc (by decide)
  have b3 := s1.blk h.base.blk (by decide) (n1 h.base.blk (by decide))
  have v3 := s1.blk h.base.ver (by decide) (n1 h.base.ver (by decide))
  refine ⟨⟨s2.blk b3 (by decide) (n2 b3 (by decide)), s2.blk v3 (by decide) (n2 v3 (by decide))⟩, h.held.move ((h.held.good.tree.frdO s1.frd s1.off).frdO s2.frd s2.off), h.abv, h.mks, (h.below.trans s1.below).trans s2.below, h.own, h.num, fun x hx => ?_, ?_, q1.stl o1 s2 (by decide) n2', ?_, q2, (h.mrk.keep s1).keep s2⟩
  · rcases List.mem_append.1 hx with hx | hx
    · exact ((h.kept x hx).keep s1).keep s2
    · simp at hx; subst hx; exact (hk.keep s1).keep s2
  · have := o1.stl s2 (by decide) n2'
    simpa [trsV] using this
  · simpa [rowsV] using o2
end Go.Proofs.YtdmhffbohnfdlaaGreat
