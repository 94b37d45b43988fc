/- Layer 4 (walk): a law gathers entries and makes newer trees meanwhile: what stays apart in memory. -/
import Derived.Test.YtnmndjplbcpglaaXGot
import Derived.Test.YtnmndjplbcpglaaRDelM
namespace Go.Proofs.Ytnmndjplbcpglaa
open Go.RowKit Go.Shelf
set_option linter.unusedVariables false
attribute [local go_sem] Oper.semAt_some

/-- No cell of the block is a pointer. -/
def NP (cs : Array Value) : Prop := ∀ x ∈ cs.toList, ∀ p, x ≠ .pointer p
/-- The slice's own block, spare room and all, holds no pointer. -/
def OwnNP (w : World) (v : Value) : Prop := ∀ g cur, v.ownBlock = some g → w.heap[g]? = some (.cells cur 35 (0, 0)) → NP cur
theorem zeroNP (n : Nat) : NP (Builtin.zeroCells #[.string ⟨#[]⟩, .int .i64 0] n) := fun x hx p => by
  simp only [Builtin.zeroCells, Array.toList_map, List.mem_map] at hx
  obtain ⟨i, -, rfl⟩ := hx
  have h2 : i % 2 = 0 ∨ i % 2 = 1 := by omega
  show (#[Value.string ⟨#[]⟩, Value.int .i64 0])[i % 2]! ≠ _
  rcases h2 with h | h <;> rw [h] <;> simp
theorem NP.append {a b : Array Value} (ha : NP a) (hb : NP b) : NP (a ++ b) := fun x hx p => by
  rw [Array.toList_append, List.mem_append] at hx
  exact hx.elim (fun h => ha x h p) (fun h => hb x h p)
theorem np_new (k : ByteArray) (v : Int) : NP [Value.string k, Value.int .i64 v].toArray := fun x hx p => by
  simp at hx
  rcases hx with rfl | rfl <;> simp
theorem np_take {cur : Array Value} (h : NP cur) (n : Nat) : NP (cur.toList.take n).toArray := fun x hx p => h x (List.mem_of_mem_take (by simpa using hx)) p
theorem np_drop {cur : Array Value} (h : NP cur) (n : Nat) : NP (cur.toList.drop n).toArray := fun x hx p => h x (List.mem_of_mem_drop (by simpa using hx)) p
theorem np_enCells (l : List En) : NP (enCells l).toArray := fun x hx p => by
  simp only [enCells, List.mem_flatMap] at hx
  obtain ⟨e, -, he⟩ := hx
  simp at he
  rcases he with rfl | rfl <;> simp

/-- An append of one entry to a slice whose block holds no pointer: nor does the new one's. -/
theorem append_np (w : World) (base : Nat) (i : TypeInfo) (hi : Try.prog.info? 35 = some i) (hz : i.zero = some (.agg #[.string ⟨#[]⟩, .int .i64 0])) (hs : i.size = 2) (hby : i.bytes = 24) (v : Value) (l : List En) (hown : OwnE w base v l) (hnp : OwnNP w v)
    (ty : TypeId) (a : Addr) (c : Nat) (k : ByteArray) (x : Int) (hnews : ∀ j u, [Value.string k, Value.int .i64 x][j]? = some u → w.cell? (a.add j) = some u) (hl : l.length + 1 ≤ 5864062014805) (hbase : base ≤ w.heap.size) :
    ∃ v' w', (Builtin.append_ #[22, 22] ty #[v, .slice (some a) 1 c]).run Try.prog w = .ok v' w' ∧ w'.ownsRow base 35 2 v' (l.length + 1) (enCells l ++ [.string k, .int .i64 x]) ∧ w.grownBy w' v.ownBlock ∧ OwnNP w' v' := by
  obtain ⟨v', w', hrun, h1, h2, -⟩ := run_append_own (P := Try.prog) w base 22 ty 35 i (.agg #[.string ⟨#[]⟩, .int .i64 0]) 2 24 Try.underlying22 hi hz hs hby rfl (by decide) v l.length (enCells l) hown a 1 c [.string k, .int .i64 x] rfl hnews (by simp [Value.oneCell']) (by unfold maxLen; omega) (by omega) hbase
  refine ⟨v', w', hrun, h1, h2, ?_⟩
  have hzc : (Value.agg #[.string ⟨#[]⟩, .int .i64 0]).cells = #[.string ⟨#[]⟩, .int .i64 0] := rfl
  have he := hown.1
  rcases hown.2 with ⟨rfl, h0⟩ | ⟨g, cap, cur, rfl, hbg, hg, hnc, hcm, hcs, htake⟩
  · have hr := run_append_nil (P := Try.prog) w 22 ty 35 i (.agg #[.string ⟨#[]⟩, .int .i64 0]) Try.underlying22 hi hz a 1 c [.string k, .int .i64 x] (by rw [hs]; rfl) hnews (by omega) (by omega) (by rw [hby]; omega)
    rw [hrun] at hr
    simp only [Result.ok.injEq] at hr
    obtain ⟨rfl, rfl⟩ := hr
    intro g cur hg hb
    simp only [Value.ownBlock, Option.some.injEq] at hg
    subst hg
    have := heap_alloc_new w.drew (.cells ([Value.string k, Value.int .i64 x].toArray ++ Builtin.zeroCells (Value.agg #[.string ⟨#[]⟩, .int .i64 0]).cells (grownCap w 1 0 35 - 1)) 35)
    rw [show w.drew.heap.size = w.heap.size from rfl] at this
    rw [this] at hb
    simp only [Option.some.injEq, Obj.cells.injEq] at hb
    obtain ⟨rfl, -⟩ := hb
    rw [hzc]
    exact (np_new k x).append (zeroNP _)
  · have hcur : NP cur := hnp g cur rfl hg
    by_cases hroom : l.length + 1 ≤ cap
    · have hr := run_append_room (P := Try.prog) w 22 ty 35 i Try.underlying22 hi g l.length cap cur hg a 1 c [.string k, .int .i64 x] (by rw [hs]; rfl) hnews (by simp [Value.oneCell']) hroom (by rw [hs, hcs]; show l.length * 2 + 2 ≤ _; omega)
      rw [hrun] at hr
      simp only [Result.ok.injEq] at hr
      obtain ⟨rfl, rfl⟩ := hr
      intro g' cur' hg' hb
      simp only [Value.ownBlock, Option.some.injEq] at hg'
      subst hg'
      rw [setRow_heap w g cur _ _ _ hg] at hb
      simp only [Option.some.injEq, Obj.cells.injEq] at hb
      obtain ⟨rfl, -⟩ := hb
      have := ((np_take hcur (l.length * i.size)).append (np_new k x)).append (np_drop hcur (l.length * i.size + 2))
      simpa using this
    · have hr := run_append_grow (P := Try.prog) w 22 ty 35 i (.agg #[.string ⟨#[]⟩, .int .i64 0]) Try.underlying22 hi hz ⟨g, 0, none⟩ l.length cap (enCells l) (by rw [hs]; exact he) (World.ownsRow.cells hown (g := g) rfl) a 1 c [.string k, .int .i64 x] (by rw [hs]; rfl) hnews (by omega) (by omega) (growslice_fits (by omega) (by rw [hby]; omega))
      rw [hrun] at hr
      simp only [Result.ok.injEq] at hr
      obtain ⟨rfl, rfl⟩ := hr
      intro g' cur' hg' hb
      simp only [Value.ownBlock, Option.some.injEq] at hg'
      subst hg'
      have := heap_alloc_new w.drew (.cells ((enCells l).toArray ++ [Value.string k, Value.int .i64 x].toArray ++ Builtin.zeroCells (Value.agg #[.string ⟨#[]⟩, .int .i64 0]).cells (grownCap w (l.length + 1) cap 35 - (l.length + 1))) 35)
      rw [show w.drew.heap.size = w.heap.size from rfl] at this
      rw [this] at hb
      simp only [Option.some.injEq, Obj.cells.injEq] at hb
      obtain ⟨rfl, -⟩ := hb
      rw [hzc]
      exact ((np_enCells l).append (np_new k x)).append (zeroNP _)

theorem wpListIn_append_np {F : Fence} {n : Nat} (w : World) {ops : Array Oper} {rest : List Oper} {o : Oper} {a : Act} {Q : Exit → Act → World → Prop}
    (hg : o.guard = none) (s x : Operand) (hop : o.op = Op.call { callee := Callee.builtin Builtin.append, args := #[s, x], argTypes := #[22, 22] })
    (base : Nat) (i : TypeInfo) (hi : Try.prog.info? 35 = some i) (hz : i.zero = some (.agg #[.string ⟨#[]⟩, .int .i64 0])) (hs : i.size = 2) (hby : i.bytes = 24) (v : Value) (l : List En) (hv : a.eval s = v) (hown : OwnE w base v l) (hnp : OwnNP w v)
    (ad : Addr) (c : Nat) (k : ByteArray) (y : Int) (hx : a.eval x = .slice (some ad) 1 c) (hnews : ∀ j u, [Value.string k, Value.int .i64 y][j]? = some u → w.cell? (ad.add j) = some u) (hl : l.length + 1 ≤ 5864062014805) (hbase : base ≤ w.heap.size)
    (hK : ∀ v' w', w'.ownsRow base 35 2 v' (l.length + 1) (enCells l ++ [.string k, .int .i64 y]) → w.grownBy w' v.ownBlock → OwnNP w' v' → wpListIn F n Try.prog ops Q rest (a.put o.dst v') w') :
    wpListIn F n Try.prog ops Q (o :: rest) a w := by
  refine wpListIn_plain hg fun K hK' => ?_
  obtain ⟨v', w', hrun, r1, r2, r3⟩ := append_np w base i hi hz hs hby v l hown hnp o.type ad c k y hnews hl hbase
  unfold Oper.wpIn
  refine ⟨?_, ?_⟩
  · simp [Oper.about, hop, resolve, Target.leads, Sem.run_pure]
  · rw [Oper.semAt_plain F _ _ (by rw [hop]; intro c hc'; cases hc')]
    simp [execOp, hop, resolve, invoke, builtin, hv, hx, hrun, Result.andThen]
    exact hK' _ _ (hK v' w' r1 r2 r3)

/-- A tree stays where what changes is no part of it: blocks of other kinds that hold no pointer. -/
theorem TAt.off {R : Rg} {W W' : World} {t : Tr} (E : Nat → Prop) (hk : ∀ b, b < W.heap.size → ¬ E b → W'.heap[b]? = W.heap[b]?) (hE : ∀ b, E b → ∃ cs ty, W.heap[b]? = some (.cells cs ty) ∧ NP cs ∧ ty ≠ 102 ∧ ty ≠ 107 ∧ ty ≠ 137) (h : TAt R W t) : TAt R W' t := by
  have hne : ∀ {a : Nat} {ds : Array Value} {ty' : TypeId}, W.heap[a]? = some (.cells ds ty') → ty' = 102 ∨ ty' = 107 ∨ ty' = 137 → W'.heap[a]? = W.heap[a]? := fun {a ds ty'} ha ht => hk a (lt_of_heap ha) (fun he => by
    obtain ⟨cs, ty, h1, -, h2, h3, h4⟩ := hE a he
    rw [ha] at h1
    simp at h1
    obtain ⟨-, rfl⟩ := h1
    rcases ht with h | h | h
    · exact h2 h
    · exact h3 h
    · exact h4 h)
  have hwc : ∀ {g : Nat}, Wc R.old W g → Wc R.old W' g := fun hg => by
    obtain ⟨f, hg, ho⟩ := hg
    refine ⟨f, ⟨(hne hg.blk (.inr (.inr rfl))).trans hg.blk, (hk _ hg.ltc (fun he => ?_)).trans hg.chn⟩, ho⟩
    obtain ⟨cs, ty, h1, -⟩ := hE _ he
    rw [hg.chn] at h1
    cases h1
  induction h with
  | mk blk kids val wat sub room nil psz ih =>
    refine .mk ((hne blk (.inl rfl)).trans blk) (fun j hj => ?_) (fun x hx => ?_) (hwc wat) ih room nil psz
    · obtain ⟨b, off, ha, h0, hr⟩ := kids j hj
      refine ⟨b, off, ha, (World.cell?_of_block (w := W) (hk b (World.block_lt_of_cell? W _ h0) (fun he => ?_))).trans h0, hr⟩
      obtain ⟨cs, ty, h1, hn, -⟩ := hE b he
      rw [cell_of_blk h1] at h0
      exact hn _ (by simpa using Array.mem_of_getElem? h0) _ rfl
    · have hx' := val x hx
      exact ⟨(hne hx'.blk (.inr (.inl rfl))).trans hx'.blk, hwc hx'.wat, hx'.num⟩

/-- No array of kids lies in a box that holds a pointer to a tree. -/
theorem TAt.treeBox {R : Rg} {w : World} {t : Tr} {nb tb : Nat} {ty : TypeId} {cs : Array Value} (h : TAt R w t) (hb : w.heap[nb]? = some (.cells #[.pointer (some ⟨tb, 0, none⟩)] ty)) (ht : w.heap[tb]? = some (.cells cs 69)) : TAt ⟨fun b => b = nb, R.old⟩ w t := by
  induction h with
  | mk blk kids val wat sub room nil psz ih =>
    refine .mk blk (fun j hj => ?_) val wat ih room nil psz
    obtain ⟨b, off, ha, h0, -⟩ := kids j hj
    refine ⟨b, off, ha, h0, fun e => ?_⟩
    have e' : b = nb := e
    subst e'
    rw [cell_of_blk hb] at h0
    have hsub := sub _ (List.getElem_mem hj)
    match h1 : off + j with
    | 0 =>
      rw [h1] at h0
      simp at h0
      cases hs : (‹List Tr›)[j] with
      | nd a p v ks g =>
        rw [hs] at hsub h0
        simp only [Tr.a] at h0
        subst h0
        cases hsub with
        | mk blk' _ _ _ _ _ _ _ => rw [ht] at blk'; simp at blk'
    | k + 1 => rw [h1] at h0; simp at h0
end Go.Proofs.Ytnmndjplbcpglaa
