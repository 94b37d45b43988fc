/- Layer 3 (radix): what stands between two steps of RadixRuns: all versions and the document's trees of them. -/
import Derived.Test.YtcdfbbjakkmmoaaXGrown
import Derived.Test.YtcdfbbjakkmmoaaTSide
namespace Go.Proofs.Ytcdfbbjakkmmoaa
open Go.RowKit
set_option linter.unusedVariables false

/-- Place: a place 0 to n-1. -/
theorem place_calls (x : Int) (n : Nat) (w : World) (hn : 0 < n) (hl : n ≤ 9223372036854775807) (hx : -9223372036854775808 ≤ x ∧ x ≤ 9223372036854775807) :
    Calls Try.prog 19 #[.int .i64 x, .int .i64 (n : Int)] w fun e w' => (∃ i : Nat, i < n ∧ e = .returned (.int .i64 (i : Int))) ∧ w' = w := by
  have h1 : -(n : Int) < x.tmod n := Int.lt_tmod_of_pos x (by omega)
  have h2 : x.tmod n < (n : Int) := Int.tmod_lt_of_pos x (by omega)
  have hn0 : ¬ (n : Int) = 0 := by omega
  have hn1 : ¬ (n : Int) = -1 := by omega
  by_cases h : x.tmod n < 0
  · go_enter Try.func19, Try.ntmps19
    go_wp2
    go_ret
    exact ⟨⟨(x.tmod n + n).toNat, by omega, by go_num⟩, rfl⟩
  · go_enter Try.func19, Try.ntmps19
    go_wp2
    go_ret
    exact ⟨⟨(x.tmod n).toNat, by omega, by go_num⟩, rfl⟩

/-! ### append of one element of whatever size, with a word on each cell of the block -/
/-- Each cell of the slice's own block, spare room and all, is as Q says. -/
def OwnC (Q : Value → Prop) (e : TypeId) (w : World) (v : Value) : Prop := ∀ g cur, v.ownBlock = some g → w.heap[g]? = some (.cells cur e (0, 0)) → ∀ x ∈ cur.toList, Q x
theorem zeroC {Q : Value → Prop} {zs : Array Value} (hz : ∀ x ∈ zs.toList, Q x) (h0 : 0 < zs.size) (n : Nat) : ∀ x ∈ (Builtin.zeroCells zs n).toList, Q x := fun x hx => by
  simp only [Builtin.zeroCells, Array.toList_map, List.mem_map] at hx
  obtain ⟨i, -, rfl⟩ := hx
  have hlt : i % zs.size < zs.size := Nat.mod_lt _ h0
  rw [getElem!_pos zs (i % zs.size) hlt]
  exact hz _ (Array.getElem_mem_toList _)
theorem append_c (Q : Value → Prop) (w : World) (base : Nat) (t ty e : TypeId) (i : TypeInfo) (z : Value) (sz bytes : Nat) (ht : Try.prog.underlying t = some (.slice e)) (hi : Try.prog.info? e = some i) (hz : i.zero = some z) (hs : i.size = sz) (hby : i.bytes = bytes) (hzc : z.cells.size = sz) (hsz : 0 < sz) (hzq : ∀ x ∈ z.cells.toList, Q x)
    (v : Value) (n : Nat) (l : List Value) (hown : w.ownsRow base e sz v n l) (hq : OwnC Q e w v) (hlq : ∀ x ∈ l, Q x) (a : Addr) (c : Nat) (us : List Value) (hus : us.length = sz) (hu : ∀ u ∈ us, Q u) (hu1 : ∀ u ∈ us, u.oneCell' = true) (hnews : ∀ j x, us[j]? = some x → w.cell? (a.add j) = some x) (hl : (n + 1) * bytes ≤ 140737488355328) (hl' : n + 1 ≤ 9223372036854775807) (hbase : base ≤ w.heap.size) :
    ∃ v' w', (Builtin.append_ #[t, t] ty #[v, .slice (some a) 1 c]).run Try.prog w = .ok v' w' ∧ w'.ownsRow base e sz v' (n + 1) (l ++ us) ∧ Grew w w' v v' ∧ OwnC Q e w' v' := by
  have hnl : us.length = 1 * i.size := by rw [hus, hs, Nat.one_mul]
  obtain ⟨v', w', hrun, h1, h2, -⟩ := run_append_grew (P := Try.prog) w base t ty e i z sz bytes ht hi hz hs hby hzc hsz v n l hown a 1 c us (by rw [hus, Nat.one_mul]) hnews hu1 (by unfold maxLen; omega) hl hbase
  refine ⟨v', w', hrun, h1, h2, ?_⟩
  have he := hown.1
  have hzs : 0 < z.cells.size := by rw [hzc]; exact hsz
  rcases hown.2 with ⟨rfl, h0⟩ | ⟨g, cap, cur, rfl, hbg, hg, hnc, hcm, hcs, htake⟩
  · have hr := run_append_nil (P := Try.prog) w t ty e i z ht hi hz a 1 c us hnl hnews (by omega) (by omega) (by rw [hby]; rw [h0, Nat.zero_add] at hl; omega)
    rw [hrun] at hr
    simp only [Result.ok.injEq] at hr
    obtain ⟨rfl, rfl⟩ := hr
    intro g cur hg hb
    simp only [Value.ownBlock, Option.some.injEq] at hg
    subst hg
    have := heap_alloc_new w.drew (.cells (us.toArray ++ Builtin.zeroCells z.cells (grownCap w 1 0 e - 1)) e)
    rw [show w.drew.heap.size = w.heap.size from rfl] at this
    rw [this] at hb
    simp only [Option.some.injEq, Obj.cells.injEq] at hb
    obtain ⟨rfl, -⟩ := hb
    intro x hx
    rw [Array.toList_append, List.mem_append] at hx
    exact hx.elim (fun h => hu x (by simpa using h)) (fun h => zeroC hzq hzs _ x h)
  · have hcur : ∀ x ∈ cur.toList, Q x := hq g cur rfl hg
    by_cases hroom : n + 1 ≤ cap
    · have hr := run_append_room (P := Try.prog) w t ty e i ht hi g n cap cur hg a 1 c us hnl hnews hu1 hroom (by
        rw [hs, hcs, hus]
        have := Nat.mul_le_mul_right sz hroom
        rw [Nat.succ_mul] at this
        exact this)
      rw [hrun] at hr
      simp only [Result.ok.injEq] at hr
      obtain ⟨rfl, rfl⟩ := hr
      intro g' cur' hg' hb
      simp only [Value.ownBlock, Option.some.injEq] at hg'
      subst hg'
      rw [setRow_heap w g cur _ _ _ hg] at hb
      simp only [Option.some.injEq, Obj.cells.injEq] at hb
      obtain ⟨rfl, -⟩ := hb
      intro x hx
      simp only [List.append_assoc, List.mem_append] at hx
      rcases hx with h | h | h
      · exact hcur x (List.mem_of_mem_take h)
      · exact hu x h
      · exact hcur x (List.mem_of_mem_drop h)
    · have hr := run_append_grow (P := Try.prog) w t ty e i z ht hi hz ⟨g, 0, none⟩ n cap l (by rw [hs]; exact he) (World.ownsRow.cells hown (g := g) rfl) a 1 c us hnl hnews (by omega) (by omega) (growslice_fits (by omega) (by rw [hby]; exact hl))
      rw [hrun] at hr
      simp only [Result.ok.injEq] at hr
      obtain ⟨rfl, rfl⟩ := hr
      intro g' cur' hg' hb
      simp only [Value.ownBlock, Option.some.injEq] at hg'
      subst hg'
      have := heap_alloc_new w.drew (.cells (l.toArray ++ us.toArray ++ Builtin.zeroCells z.cells (grownCap w (n + 1) cap e - (n + 1))) e)
      rw [show w.drew.heap.size = w.heap.size from rfl] at this
      rw [this] at hb
      simp only [Option.some.injEq, Obj.cells.injEq] at hb
      obtain ⟨rfl, -⟩ := hb
      intro x hx
      rw [Array.toList_append, Array.toList_append, List.mem_append, List.mem_append] at hx
      rcases hx with (h | h) | h
      · exact hlq x (by simpa using h)
      · exact hu x (by simpa using h)
      · exact zeroC hzq hzs _ x h
/-- append(s, u), u laid right ahead. -/
theorem append_rowc (Qc : Value → Prop) (W : World) {ops : Array Oper} {rest : List Oper} {o : Oper} {a : Act} {Q : Exit → Act → World → Prop} (hgd : o.guard = none) (s x : Operand) (t e : TypeId) (z : Value) (sz bytes : Nat)
    (ht : Try.prog.underlying t = some (.slice e)) (hi : (Try.prog.info? e).map (fun i => (i.zero, i.size, i.bytes)) = some (some z, sz, bytes)) (hzc : z.cells.size = sz) (hsz : 0 < sz) (hzq : ∀ x ∈ z.cells.toList, Qc x)
    (ho : o.op = .call { callee := .builtin .append, args := #[s, x], argTypes := #[t, t] })
    (B : Nat) (v : Value) (n : Nat) (l : List Value) (hs : a.eval s = v) (us : List Value) (hus : us.length = sz) (hu : ∀ u ∈ us, Qc u) (hu1 : ∀ u ∈ us, u.oneCell' = true) (g : Nat) (hx : a.eval x = .slice (some ⟨g, 0, none⟩) 1 1)
    (hg : g = W.heap.size) (hown : W.ownsRow B e sz v n l) (hq : OwnC Qc e W v) (hlq : ∀ x ∈ l, Qc x) (hm : n + 1 ≤ 9223372036854775807) (hlen : (n + 1) * bytes ≤ 140737488355328) (hB : B ≤ W.heap.size)
    (h : ∀ v' w', w'.ownsRow B e sz v' (n + 1) (l ++ us) → Grew W w' v v' → OwnC Qc e w' v' → wpList Try.prog ops Q rest (a.put o.dst v') w') : wpList Try.prog ops Q (o :: rest) a (W.alloc (.cells us.toArray e)) :=
  wpList_plain hgd fun K hK => by
    obtain ⟨i0, hi, hz0, hz1, hz2⟩ := infoOf hi
    subst hg
    have hq' : OwnC Qc e (W.alloc (.cells us.toArray e)) v := fun g cur hg hb => by
      have hlt := (World.ownsRow.lt hown g hg).2
      rw [Below.heap_alloc _ _ _ hlt] at hb
      exact hq g cur hg hb
    obtain ⟨v', w', hr, h2, h3, h4⟩ := append_c Qc (W.alloc (.cells us.toArray e)) B t o.type e i0 z sz bytes ht hi hz0 hz1 hz2 hzc hsz hzq v n l (World.ownsRow.alloc hown _) hq' hlq ⟨W.heap.size, 0, none⟩ 1 us hus hu hu1 (fun j y hy => by
      have := cell_of_blk (heap_alloc_new W (.cells us.toArray e)) (i := j)
      have hadd : (⟨W.heap.size, 0, none⟩ : Addr).add j = ⟨W.heap.size, j, none⟩ := by unfold Addr.add; split <;> simp_all
      rw [hadd, this]
      simpa using hy) hlen hm (by simp; omega)
    unfold Oper.wp execOp
    simp only [ho, resolve, invoke, builtin, Sem.run_bind, Sem.run_pure, Result.andThen_ok, List.map_toArray, List.map_cons, List.map_nil, hs, hx, hr]
    exact hK _ _ (h v' w' h2 h3.ofAlloc h4)

/-! ### versions -/
structure Rv where
  tb : Nat
  T : Tr
  ne : Int
  es : List En
  d : Dv
def Rv.ptr (r : Rv) : Value := .pointer (some ⟨r.tb, 0, none⟩)
def Rv.cells (r : Rv) : List Value := [.slice r.d.k.ao r.es.length r.d.k.cap, .slice r.d.v.ao r.es.length r.d.v.cap, .slice r.d.l.ao r.es.length r.d.l.cap, .slice r.d.p.ao (pathsOf r.es).length r.d.p.cap, .slice r.d.m.ao (pathsOf r.es).length r.d.m.cap]
theorem Rv.cells_of (r : Rv) : r.d.cells r.es.length (pathsOf r.es).length = r.cells.toArray := rfl
theorem flat5_len (rs : List Rv) : (rs.flatMap Rv.cells).length = rs.length * 5 := by
  induction rs with
  | nil => rfl
  | cons r rs ih => rw [List.flatMap_cons, List.length_append, ih]; show 5 + _ = _; simp; omega
theorem flat5_get : ∀ (rs : List Rv) (i j : Nat) (hi : i < rs.length), j < 5 → (rs.flatMap Rv.cells)[i * 5 + j]? = rs[i].cells[j]?
  | [], i, j, hi, _ => by simp at hi
  | r :: rs, 0, j, _, hj => by
    rw [List.flatMap_cons, Nat.zero_mul, Nat.zero_add, List.getElem?_append_left (by show j < 5; exact hj)]; rfl
  | r :: rs, i + 1, j, hi, hj => by
    rw [List.flatMap_cons, List.getElem?_append_right (by show 5 ≤ _; omega)]
    show (rs.flatMap Rv.cells)[(i + 1) * 5 + j - 5]? = _
    rw [show (i + 1) * 5 + j - 5 = i * 5 + j by omega, flat5_get rs i j (by simpa using hi) hj]; rfl
theorem Held.mono {w W : World} {tb : Nat} {T : Tr} {ne : Int} {d d' : Nat} {es : List En} (h : Held w W tb T ne d es) (hd : d ≤ d') : Held w W tb T ne d' es :=
  ⟨⟨h.good.below, h.good.tree, h.good.wf, h.good.root, Dep.mono (by omega) h.good.dep, h.good.lo, by have := h.good.hi; omega⟩, h.has, h.sorted, h.cnt⟩
theorem GrP.mono {w W : World} {tb : Nat} {T : Tr} {ne : Int} {n n' : Nat} {es : List En} {d : Dv} (h : GrP w W tb T ne n es d) (hn : n ≤ n') : GrP w W tb T ne n' es d := ⟨h.held.mono hn, h.canon, h.doc⟩
theorem GrP.len {w W : World} {tb : Nat} {T : Tr} {ne : Int} {n : Nat} {es : List En} {d : Dv} (h : GrP w W tb T ne n es d) : es.length ≤ n := by
  have h1 := h.held.cnt
  have h2 := h.held.good.hi
  omega
/-- Blocks that are no part of a tree nor of a list of the document. -/
def Apt (W : World) (b : Nat) : Prop := Off W b ∧ ∃ cs ty, W.heap[b]? = some (.cells cs ty) ∧ ty ≠ 9 ∧ ty ≠ 3
theorem Sv.At.stay {W W' : World} {x : Sv} {e : TypeId} (E : Nat → Prop) (hk : ∀ b, b < W.heap.size → ¬ E b → W'.heap[b]? = W.heap[b]?) (hE : ∀ b, E b → Apt W b) (h : x.At W) (ht : x.Ty W e) (he : e = 9 ∨ e = 3) : x.At W' ∧ x.Ty W' e := by
  have hb : ∀ b off n, x.ao = some ⟨b, off, n⟩ → b < W.heap.size → W'.heap[b]? = W.heap[b]? := fun b off n ha hl => hk b hl (fun hx => by
    obtain ⟨cs, hc⟩ := ht b off n ha
    obtain ⟨-, cs', ty, h1, h2, h3⟩ := hE b hx
    rw [hc] at h1
    simp at h1
    rcases he with rfl | rfl
    · exact h2 h1.2.symm
    · exact h3 h1.2.symm)
  refine ⟨h.kept hb, fun b off n ha => ?_⟩
  obtain ⟨cs, hc⟩ := ht b off n ha
  exact ⟨cs, (hb b off n ha (lt_of_heap hc)).trans hc⟩
theorem DocAt.stay {W W' : World} {d : Dv} {es : List En} {ps : List ByteArray} (E : Nat → Prop) (hk : ∀ b, b < W.heap.size → ¬ E b → W'.heap[b]? = W.heap[b]?) (hE : ∀ b, E b → Apt W b) (h : DocAt W d es ps) : DocAt W' d es ps := by
  obtain ⟨a1, a2⟩ := h.k.stay E hk hE h.ty.1 (.inl rfl)
  obtain ⟨b1, b2⟩ := h.v.stay E hk hE h.ty.2.1 (.inr rfl)
  obtain ⟨c1, c2⟩ := h.l.stay E hk hE h.ty.2.2.1 (.inr rfl)
  obtain ⟨d1, d2⟩ := h.p.stay E hk hE h.ty.2.2.2.1 (.inl rfl)
  obtain ⟨e1, e2⟩ := h.m.stay E hk hE h.ty.2.2.2.2 (.inr rfl)
  exact ⟨a1, b1, c1, d1, e1, h.kk, h.vv, h.ll, h.pp, h.mm, h.ksz, h.psz, h.sorted, h.psorted, h.plen, a2, b2, c2, d2, e2⟩
theorem GrP.stay {w W W' : World} {tb : Nat} {T : Tr} {ne : Int} {n : Nat} {es : List En} {d : Dv} (E : Nat → Prop) (hk : ∀ b, b < W.heap.size → ¬ E b → W'.heap[b]? = W.heap[b]?) (hE : ∀ b, E b → Apt W b) (hb : Below w.heap.size w W') (h : GrP w W tb T ne n es d) : GrP w W' tb T ne n es d :=
  ⟨⟨⟨hb, h.held.good.tree.offs E hk (fun b hx => (hE b hx).1), h.held.good.wf, h.held.good.root, h.held.good.dep, h.held.good.lo, h.held.good.hi⟩, h.held.has, h.held.sorted, h.held.cnt⟩, h.canon, h.doc.stay E hk hE⟩

/-- A cell that points to a version's tree, or nowhere. -/
def QTr (rs : List Rv) (x : Value) : Prop := x = .pointer none ∨ ∃ r ∈ rs, x = r.ptr
def QSl (x : Value) : Prop := ∀ p, x ≠ .pointer p
theorem OwnC.imp {P Q : Value → Prop} {e : TypeId} {w : World} {v : Value} (h : OwnC P e w v) (hi : ∀ x, P x → Q x) : OwnC Q e w v := fun g cur hg hb x hx => hi x (h g cur hg hb x hx)
theorem Rv.cells_sl (r : Rv) : ∀ x ∈ r.cells, QSl x := fun x hx p e => by
  subst e
  simp [Rv.cells] at hx
theorem Rv.cells_one (r : Rv) : ∀ x ∈ r.cells, x.oneCell' = true := fun x hx => by
  simp only [Rv.cells, List.mem_cons, List.not_mem_nil, or_false] at hx
  rcases hx with rfl | rfl | rfl | rfl | rfl <;> rfl
theorem flat_sl (rs : List Rv) : ∀ x ∈ rs.flatMap Rv.cells, QSl x := fun x hx => by
  obtain ⟨r, -, h⟩ := List.mem_flatMap.1 hx
  exact r.cells_sl x h

/-- Between two steps. -/
structure RuI (w : World) (c : Nat) (rs : List Rv) (vt vm : Value) (W : World) : Prop where
  below : Below w.heap.size w W
  kept : ∀ r ∈ rs, GrP w W r.tb r.T r.ne c r.es r.d
  trs : OwnV W w.heap.size 24 vt (rs.map Rv.ptr)
  trq : OwnC (QTr rs) 24 W vt
  mod : W.ownsRow w.heap.size 28 5 vm rs.length (rs.flatMap Rv.cells)
  moq : OwnC QSl 28 W vm
theorem OwnC.kept {Q : Value → Prop} {e : TypeId} {W W' : World} {v : Value} (h : OwnC Q e W v) (ht : ∀ g, v.ownBlock = some g → ∃ cs, W.heap[g]? = some (.cells cs e)) (hk : ∀ g, v.ownBlock = some g → W'.heap[g]? = W.heap[g]?) : OwnC Q e W' v := fun g cur hg hb => h g cur hg (by rw [← hk g hg]; exact hb)
theorem RuI.keep {w : World} {c : Nat} {rs : List Rv} {vt vm : Value} {W W' : World} (h : RuI w c rs vt vm W) (hb : Below W.heap.size W W') : RuI w c rs vt vm W' := by
  refine ⟨h.below.trans (hb.mono h.below.size), fun r hr => (h.kept r hr).keep hb, h.trs.below hb, h.trq.kept h.trs.typed (fun g hg => hb.block g (h.trs.lt g hg).2), World.ownsRow.kept (row := none) h.mod ⟨hb.os, hb.tape, hb.output, hb.size, fun j hj _ => hb.block j hj⟩ (Classical.em _), h.moq.kept (ownsRow_typed h.mod) (fun g hg => hb.block g (World.ownsRow.lt h.mod g hg).2)⟩
theorem RuI.mono {w : World} {c c' : Nat} {rs : List Rv} {vt vm : Value} {W : World} (h : RuI w c rs vt vm W) (hc : c ≤ c') : RuI w c' rs vt vm W := { h with kept := fun r hr => (h.kept r hr).mono hc }
/-- A version more: first the trees' slice grows .. -/
theorem RuI.growT {w : World} {c : Nat} {rs : List Rv} {vt vm vt' : Value} {W W3 : World} (h : RuI w c rs vt vm W) (g1 : Grew W W3 vt vt') :
    (∀ b, b < W.heap.size → ¬ b ∈ vt.ownBlock.toList → W3.heap[b]? = W.heap[b]?) ∧ (∀ b, b ∈ vt.ownBlock.toList → Apt W b) ∧ Below w.heap.size w W3 := by
  refine ⟨fun b hb hx => g1.grown.block b hb (fun e => hx (by rw [← e]; simp)), fun b hb => ?_, h.below.trans (g1.toBelow h.below.size (fun k hk => (h.trs.lt k hk).1))⟩
  have hb' : vt.ownBlock = some b := by simpa using hb
  obtain ⟨cs, hc⟩ := h.trs.typed b hb'
  refine ⟨.inr ⟨cs, _, hc, fun j a hj => ?_, by decide⟩, cs, _, hc, by decide⟩
  rcases h.trq b cs hb' hc (.pointer (some a)) (Array.mem_toList_iff.2 (Array.mem_of_getElem? hj)) with hx | ⟨r, hr, hx⟩
  · cases hx
  · simp [Rv.ptr] at hx
    subst hx
    exact ⟨_, _, (h.kept r hr).held.good.tree.blk, by decide⟩
/-- .. then the document's. -/
theorem RuI.push {w : World} {c : Nat} {rs : List Rv} {vt vm vt' vm' : Value} {W W3 W4 : World} {r : Rv} (h : RuI w c rs vt vm W) (hr : GrP w W r.tb r.T r.ne c r.es r.d)
    (o1 : OwnV W3 w.heap.size 24 vt' (rs.map Rv.ptr ++ [r.ptr])) (g1 : Grew W W3 vt vt') (q1 : OwnC (QTr (rs ++ [r])) 24 W3 vt')
    (o2 : W4.ownsRow w.heap.size 28 5 vm' (rs.length + 1) (rs.flatMap Rv.cells ++ r.cells)) (g2 : Grew W3 W4 vm vm') (q2 : OwnC QSl 28 W4 vm') : RuI w c (rs ++ [r]) vt' vm' W4 := by
  obtain ⟨k1, a1, b1⟩ := h.growT g1
  have n1 : ∀ g, vm.ownBlock = some g → ¬ g ∈ vt.ownBlock.toList := fun g hg hx => by
    obtain ⟨cs, hc⟩ := ownsRow_typed h.mod g hg
    exact own_ne (h.trs.typed g (by simpa using hx)) hc (by decide) rfl
  have m3 : W3.ownsRow w.heap.size 28 5 vm rs.length (rs.flatMap Rv.cells) := World.ownsRow.kept h.mod g1.grown (by
    cases hv : vm.ownBlock with
    | none => exact .inl rfl
    | some g => exact .inr fun e => n1 g hv (by rw [← e]; simp))
  have mq3 : OwnC QSl 28 W3 vm := h.moq.kept (ownsRow_typed h.mod) (fun g hg => k1 g (World.ownsRow.lt h.mod g hg).2 (n1 g hg))
  have k2 : ∀ b, b < W3.heap.size → ¬ b ∈ vm.ownBlock.toList → W4.heap[b]? = W3.heap[b]? := fun b hb hx => g2.grown.block b hb (fun e => hx (by rw [← e]; simp))
  have b2 : Below w.heap.size w W4 := b1.trans (g2.toBelow b1.size (fun k hk => (World.ownsRow.lt m3 k hk).1))
  have a2 : ∀ b, b ∈ vm.ownBlock.toList → Apt W3 b := fun b hb => by
    have hb' : vm.ownBlock = some b := by simpa using hb
    obtain ⟨cs, hc⟩ := ownsRow_typed m3 b hb'
    exact ⟨.inr ⟨cs, _, hc, fun j a hj => absurd rfl (mq3 b cs hb' hc (.pointer (some a)) (Array.mem_toList_iff.2 (Array.mem_of_getElem? hj)) _), by decide⟩, cs, _, hc, by decide⟩
  have n2 : ∀ g, vt'.ownBlock = some g → ¬ g ∈ vm.ownBlock.toList := fun g hg hx => by
    obtain ⟨cs, hc⟩ := o1.typed g hg
    exact own_ne (ownsRow_typed m3 g (by simpa using hx)) hc (by decide) rfl
  have keep : ∀ {r : Rv}, GrP w W r.tb r.T r.ne c r.es r.d → GrP w W4 r.tb r.T r.ne c r.es r.d := fun h0 => (h0.stay _ k1 a1 b1).stay _ k2 a2 b2
  refine ⟨b2, fun x hx => ?_, ?_, q1.kept o1.typed (fun g hg => k2 g (o1.lt g hg).2 (n2 g hg)), ?_, q2⟩
  · rcases List.mem_append.1 hx with hx | hx
    · exact keep (h.kept x hx)
    · simp at hx; subst hx; exact keep hr
  · have := World.ownsRow.kept (w' := W4) o1 g2.grown (by
      cases hv : vt'.ownBlock with
      | none => exact .inl rfl
      | some g => exact .inr fun e => n2 g hv (by rw [← e]; simp))
    unfold OwnV
    rw [List.map_append]
    exact this
  · rw [List.length_append, List.flatMap_append]
    simpa using o2
/-- The cells of the version at i. -/
theorem RuI.at {w : World} {c : Nat} {rs : List Rv} {ta ma : Option Addr} {tc mc : Nat} {W : World} (h : RuI w c rs (.slice ta rs.length tc) (.slice ma rs.length mc) W) {i : Nat} (hi : i < rs.length) :
    ∃ g b, ta = some ⟨g, 0, none⟩ ∧ ma = some ⟨b, 0, none⟩ ∧ W.cell? ⟨g, i, none⟩ = some (.pointer (some ⟨rs[i].tb, 0, none⟩)) ∧ W.cell? ⟨b, i * 5, none⟩ = some (.slice rs[i].d.k.ao rs[i].es.length rs[i].d.k.cap) ∧ W.cell? ⟨b, i * 5 + 1, none⟩ = some (.slice rs[i].d.v.ao rs[i].es.length rs[i].d.v.cap) ∧ W.cell? ⟨b, i * 5 + 2, none⟩ = some (.slice rs[i].d.l.ao rs[i].es.length rs[i].d.l.cap) ∧ W.cell? ⟨b, i * 5 + 3, none⟩ = some (.slice rs[i].d.p.ao (pathsOf rs[i].es).length rs[i].d.p.cap) ∧ W.cell? ⟨b, i * 5 + 4, none⟩ = some (.slice rs[i].d.m.ao (pathsOf rs[i].es).length rs[i].d.m.cap) := by
  obtain ⟨g, hg, hc⟩ := h.trs.at i (by simpa using hi)
  have hm := h.mod
  obtain ⟨b, hb⟩ : ∃ b, ma = some ⟨b, 0, none⟩ := by
    rcases hm.2 with ⟨hv, h0⟩ | ⟨b, cap, cur, hv, -⟩
    · omega
    · simp at hv; exact ⟨b, hv.1⟩
  subst hb
  have hcell : ∀ j, j < 5 → W.cell? ⟨b, i * 5 + j, none⟩ = rs[i].cells[j]? := fun j hj => by
    have hlt : i * 5 + j < (rs.flatMap Rv.cells).length := by rw [flat5_len]; omega
    have h1 := World.ownsRow.cellAt hm (i * 5 + j) (show i * 5 + j < rs.length * 5 by omega)
    rw [flat5_get rs i j hi hj] at h1
    exact h1
  exact ⟨g, b, hg, rfl, by rw [hc]; simp [Rv.ptr], hcell 0 (by omega), hcell 1 (by omega), hcell 2 (by omega), hcell 3 (by omega), hcell 4 (by omega)⟩
end Go.Proofs.Ytcdfbbjakkmmoaa
