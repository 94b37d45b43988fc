/- Slices of one-cell elements, read, cut and appended. -/
import Derived.Test.YtcdfbbjakkmmoaaRKids
import Derived.Test.YtcdfbbjakkmmoaaXDocM
import Derived.Deep.AppendLies
import Derived.Deep.RegionHeldLaw
namespace Go.Proofs.Ytcdfbbjakkmmoaa
open Go.RowKit
set_option linter.unusedVariables false

/-- A slice of one-cell elements: where it lies, its capacity, what it holds. -/
structure Sv where
  ao : Option Addr
  cap : Nat
  vs : List Value
structure Sv.At (w : World) (x : Sv) : Prop where
  cells : ∀ i (h : i < x.vs.length), ∃ b off, x.ao = some ⟨b, off, none⟩ ∧ w.cell? ⟨b, off + i, none⟩ = some x.vs[i]
  room : x.vs.length ≤ x.cap
  nil : x.ao = none → x.cap = 0
theorem Sv.At.below {w w' : World} {x : Sv} (h : x.At w) (hb : Below w.heap.size w w') : x.At w' := by
  refine ⟨fun i hi => ?_, h.room, h.nil⟩
  obtain ⟨b, off, ha, h0⟩ := h.cells i hi
  exact ⟨b, off, ha, by rw [hb.cell (World.block_lt_of_cell? w _ h0)]; exact h0⟩
/-- .. by whatever keeps the slice's block. -/
theorem Sv.At.kept {w w' : World} {x : Sv} (h : x.At w) (hb : ∀ b off n, x.ao = some ⟨b, off, n⟩ → b < w.heap.size → w'.heap[b]? = w.heap[b]?) : x.At w' := by
  refine ⟨fun i hi => ?_, h.room, h.nil⟩
  obtain ⟨b, off, ha, h0⟩ := h.cells i hi
  exact ⟨b, off, ha, by rw [World.cell?_of_block (hb b off _ ha (World.block_lt_of_cell? w _ h0))]; exact h0⟩
theorem Sv.At.drew {w : World} {x : Sv} (h : x.At w) : x.At w.drew := ⟨h.cells, h.room, h.nil⟩
def Sv.upTo (x : Sv) (q : Nat) : Sv := ⟨x.ao, x.cap, x.vs.take q⟩
def Sv.fro (x : Sv) (q : Nat) : Sv := ⟨if x.cap = q then x.ao else x.ao.map (·.add q), x.cap - q, x.vs.drop q⟩
theorem Sv.At.upTo {w : World} {x : Sv} (h : x.At w) (q : Nat) : (x.upTo q).At w := by
  refine ⟨fun i hi => ?_, ?_, h.nil⟩
  · simp only [Sv.upTo, List.length_take] at hi
    obtain ⟨b, off, he, hc⟩ := h.cells i (by omega)
    exact ⟨b, off, he, by simpa [Sv.upTo] using hc⟩
  · have := h.room; simp [Sv.upTo]; omega
theorem Sv.At.fro {w : World} {x : Sv} (h : x.At w) (q : Nat) : (x.fro q).At w := by
  refine ⟨fun i hi => ?_, ?_, ?_⟩
  · simp only [Sv.fro, List.length_drop] at hi ⊢
    have hr := h.room
    obtain ⟨b, off, he, hc⟩ := h.cells (q + i) (by omega)
    refine ⟨b, off + q, ?_, ?_⟩
    · rw [if_neg (by omega), he]
      have hadd : (⟨b, off, none⟩ : Addr).add q = ⟨b, off + q, none⟩ := by unfold Addr.add; split <;> simp_all
      simp [hadd]
    · rw [Nat.add_assoc, hc]
      simp
  · have := h.room; simp [Sv.fro]; omega
  · simp only [Sv.fro]
    intro e
    split at e
    · omega
    · have : x.ao = none := by simpa using e
      have := h.nil this
      omega

section
variable {t e : TypeId} (he : Try.prog.elem t = e) (ht : Try.prog.underlying t = some (.slice (Try.prog.elem t))) (hz : ∀ W : World, (Go.sizeOf e).run Try.prog W = .ok 1 W)
include he ht hz
theorem run_upToV (x : Sv) (n : Nat) (hn : n = x.vs.length) (q : Nat) (hq : q ≤ n) (hr : n ≤ x.cap) (W : World) : (Instr.slice t (.slice x.ao n x.cap) none (some (.int .i64 (q : Int))) none).run Try.prog W = .ok (.slice x.ao q x.cap) W := by
  rw [run_slice_h W t x.ao n x.cap ht .i64 (q : Int) (by omega) (by omega)]
  rw [he, hz]
  simp [sliced, Result.andThen]
  intro _
  · cases x.ao with
    | none => rfl
    | some a => obtain ⟨b, o, s⟩ := a; cases s <;> simp [Addr.add]
theorem run_froV (x : Sv) (n : Nat) (hn : n = x.vs.length) (q : Nat) (hq : q ≤ n) (W : World) : (Instr.slice t (.slice x.ao n x.cap) (some (.int .i64 (q : Int))) none none).run Try.prog W = .ok (.slice (x.fro q).ao (n - q) (x.fro q).cap) W := by
  rw [run_slice_l W t x.ao n x.cap ht .i64 (q : Int) (by omega) (by omega)]
  rw [he, hz]
  simp [sliced, Result.andThen, Sv.fro]
end

theorem sv_news {w : World} {x : Sv} {a : Addr} (h : x.At w) (ha : x.ao = some a) : ∀ j u, x.vs[j]? = some u → w.cell? (a.add j) = some u := by
  intro j u hj
  rcases Nat.lt_or_ge j x.vs.length with hl | hl
  · rw [List.getElem?_eq_getElem hl] at hj
    simp at hj
    subst hj
    obtain ⟨b, off, e, hc⟩ := h.cells j hl
    rw [ha] at e
    simp only [Option.some.injEq] at e
    subst e
    have hadd : (⟨b, off, none⟩ : Addr).add j = ⟨b, off + j, none⟩ := by unfold Addr.add; split <;> simp_all
    rw [hadd]; exact hc
  · rw [List.getElem?_eq_none hl] at hj; cases hj

/-- append(s, x...): s the call's own, x whatever slice. -/
theorem run_append_sv (w : World) (t ty e : TypeId) (z : Value) (bytes : Nat) (ht : Try.prog.underlying t = some (.slice e)) (hi : (Try.prog.info? e).map (fun i => (i.zero, i.size, i.bytes)) = some (some z, 1, bytes)) (hzs : z.cells.size = 1)
    (B : Nat) (v : Value) (l : List Value) (hown : OwnV w B e v l) (x : Sv) (hx : x.At w) (h1 : ∀ u ∈ x.vs, u.oneCell' = true) (hm : l.length + x.vs.length ≤ 9223372036854775807) (hlen : (l.length + x.vs.length) * bytes ≤ 140737488355328) (hB : B ≤ w.heap.size) :
    ∃ ao' cap' w', (Builtin.append_ #[t, t] ty #[v, .slice x.ao x.vs.length x.cap]).run Try.prog w = .ok (.slice ao' (l.length + x.vs.length) cap') w' ∧ OwnV w' B e (.slice ao' (l.length + x.vs.length) cap') (l ++ x.vs) ∧ Grew w w' v (.slice ao' (l.length + x.vs.length) cap') := by
  obtain ⟨i0, hi, hz0, hz1, hz2⟩ := infoOf hi
  cases hao : x.ao with
  | none =>
    have h0 := hx.nil hao
    have hr := hx.room
    have hv : x.vs = [] := List.length_eq_zero_iff.1 (by omega)
    have hrun := run_append_owned_none (P := Try.prog) (w := w) B t ty e i0 1 ht hi v l.length l hown
    obtain ⟨ao', cap', rfl⟩ := hown.shape
    rw [hv, h0]
    simp only [List.length_nil, Nat.add_zero, List.append_nil]
    exact ⟨ao', cap', w, hrun, hown, Grew.refl _ _⟩
  | some a =>
    obtain ⟨v', w', h2, h3, h4, -⟩ := run_append_grew (P := Try.prog) w B t ty e i0 z 1 bytes ht hi hz0 hz1 hz2 hzs (by decide) v l.length l hown a x.vs.length x.cap x.vs (by simp) (sv_news hx hao) h1 (by unfold maxLen; omega) hlen hB
    have ho : OwnV w' B e v' (l ++ x.vs) := by unfold OwnV; rw [List.length_append]; exact h3
    obtain ⟨ao', cap', hv⟩ := ho.shape
    rw [List.length_append] at hv
    subst hv
    exact ⟨ao', cap', w', h2, ho, h4⟩

theorem wp_append_sv {w : World} {o : Oper} {a : Act} {K : Act → World → Prop} {Q : Exit → Act → World → Prop} (s xo : Operand) (t e : TypeId) (z : Value) (bytes : Nat)
    (ho : o.op = .call { callee := .builtin .append, args := #[s, xo], argTypes := #[t, t] }) (ht : Try.prog.underlying t = some (.slice e)) (hi : (Try.prog.info? e).map (fun i => (i.zero, i.size, i.bytes)) = some (some z, 1, bytes)) (hzs : z.cells.size = 1)
    (B : Nat) (v : Value) (l : List Value) (hs : a.eval s = v) (hown : OwnV w B e v l) (x : Sv) (n : Nat) (hn : n = x.vs.length) (hxo : a.eval xo = .slice x.ao n x.cap) (hx : x.At w) (h1 : ∀ u ∈ x.vs, u.oneCell' = true) (hm : l.length + x.vs.length ≤ 9223372036854775807) (hlen : (l.length + x.vs.length) * bytes ≤ 140737488355328) (hB : B ≤ w.heap.size)
    (h : ∀ ao' cap' w', OwnV w' B e (.slice ao' (l.length + x.vs.length) cap') (l ++ x.vs) → Grew w w' v (.slice ao' (l.length + x.vs.length) cap') → K (a.put o.dst (.slice ao' (l.length + x.vs.length) cap')) w') : o.wp Try.prog a w K Q := by
  subst hn
  obtain ⟨ao', cap', w', hr, h2, h3⟩ := run_append_sv w t o.type e z bytes ht hi hzs B v l hown x hx h1 hm hlen hB
  unfold Oper.wp execOp
  simp only [ho, resolve, invoke, builtin, Sem.run_bind, Sem.run_pure, Result.andThen_ok, List.map_toArray, List.map_cons, List.map_nil, hs, hxo, hr]
  exact h ao' cap' w' h2 h3
theorem step_append_sv {w : World} {ops : Array Oper} {o : Oper} {a : Act} {K : Act → World → Prop} {Q : Exit → Act → World → Prop} {E : Prop} (hgd : o.guard = none) (s xo : Operand) (t e : TypeId) (z : Value) (bytes : Nat)
    (ho : o.op = .call { callee := .builtin .append, args := #[s, xo], argTypes := #[t, t] }) (ht : Try.prog.underlying t = some (.slice e)) (hi : (Try.prog.info? e).map (fun i => (i.zero, i.size, i.bytes)) = some (some z, 1, bytes)) (hzs : z.cells.size = 1)
    (B : Nat) (v : Value) (l : List Value) (hs : a.eval s = v) (hown : OwnV w B e v l) (x : Sv) (n : Nat) (hn : n = x.vs.length) (hxo : a.eval xo = .slice x.ao n x.cap) (hx : x.At w) (h1 : ∀ u ∈ x.vs, u.oneCell' = true) (hm : l.length + x.vs.length ≤ 9223372036854775807) (hlen : (l.length + x.vs.length) * bytes ≤ 140737488355328) (hB : B ≤ w.heap.size)
    (h : ∀ ao' cap' w', OwnV w' B e (.slice ao' (l.length + x.vs.length) cap') (l ++ x.vs) → Grew w w' v (.slice ao' (l.length + x.vs.length) cap') → K (a.put o.dst (.slice ao' (l.length + x.vs.length) cap')) w') :
    if Region.wanted o (yielded ops a.tmps) = true then Oper.wp Try.prog o a w K Q else E := by
  have hw : Region.wanted o (yielded ops a.tmps) = true := by simp [Region.wanted, hgd]
  rw [if_pos hw]
  exact wp_append_sv s xo t e z bytes ho ht hi hzs B v l hs hown x n hn hxo hx h1 hm hlen hB h
theorem list_append_sv {w : World} {ops : Array Oper} {rest : List Oper} {o : Oper} {a : Act} {Q : Exit → Act → World → Prop} (hgd : o.guard = none) (s xo : Operand) (t e : TypeId) (z : Value) (bytes : Nat)
    (ho : o.op = .call { callee := .builtin .append, args := #[s, xo], argTypes := #[t, t] }) (ht : Try.prog.underlying t = some (.slice e)) (hi : (Try.prog.info? e).map (fun i => (i.zero, i.size, i.bytes)) = some (some z, 1, bytes)) (hzs : z.cells.size = 1)
    (B : Nat) (v : Value) (l : List Value) (hs : a.eval s = v) (hown : OwnV w B e v l) (x : Sv) (n : Nat) (hn : n = x.vs.length) (hxo : a.eval xo = .slice x.ao n x.cap) (hx : x.At w) (h1 : ∀ u ∈ x.vs, u.oneCell' = true) (hm : l.length + x.vs.length ≤ 9223372036854775807) (hlen : (l.length + x.vs.length) * bytes ≤ 140737488355328) (hB : B ≤ w.heap.size)
    (h : ∀ ao' cap' w', OwnV w' B e (.slice ao' (l.length + x.vs.length) cap') (l ++ x.vs) → Grew w w' v (.slice ao' (l.length + x.vs.length) cap') → wpList Try.prog ops Q rest (a.put o.dst (.slice ao' (l.length + x.vs.length) cap')) w') : wpList Try.prog ops Q (o :: rest) a w :=
  wpList_plain hgd fun _ hK => wp_append_sv s xo t e z bytes ho ht hi hzs B v l hs hown x n hn hxo hx h1 hm hlen hB fun ao' cap' w' h2 h3 => hK _ _ (h ao' cap' w' h2 h3)

/-- An own slice reads as a slice. -/
theorem OwnV.sv {w : World} {B : Nat} {e : TypeId} {v : Value} {l : List Value} (h : OwnV w B e v l) : ∃ x : Sv, v = .slice x.ao x.vs.length x.cap ∧ x.vs = l ∧ x.At w := by
  rcases h.2 with ⟨hv, h0⟩ | ⟨g, cap, cur, hv, hb, hg, hnc, r⟩
  · have : l = [] := List.length_eq_zero_iff.1 h0
    subst this
    exact ⟨⟨none, 0, []⟩, hv, rfl, fun i hi => by simp at hi, Nat.le_refl _, fun _ => rfl⟩
  · subst hv
    refine ⟨⟨some ⟨g, 0, none⟩, cap, l⟩, rfl, rfl, fun i hi => ?_, hnc, fun e => by cases e⟩
    obtain ⟨g', hg', hc⟩ := h.at i hi
    simp only [Option.some.injEq, Addr.mk.injEq] at hg'
    obtain ⟨rfl, _, _⟩ := hg'
    exact ⟨_, _, rfl, by rw [Nat.zero_add]; exact hc⟩
/-- Two own slices do not share. -/
def Apart (u v : Value) : Prop := ∀ b, u.ownBlock = some b → v.ownBlock ≠ some b
theorem OwnV.other {w w' : World} {B : Nat} {e : TypeId} {v u u' : Value} {l : List Value} (h : OwnV w B e v l) (hg : Grew w w' u u') (hn : Apart v u) : OwnV w' B e v l := by
  refine h.touched hg.touched fun k hk hm => ?_
  rw [Option.mem_toList] at hm
  exact hn k hk hm
theorem Apart.grew {w w' : World} {B : Nat} {e : TypeId} {v u u' : Value} {l : List Value} (h : Apart v u) (hv : OwnV w B e v l) (hg : Grew w w' u u') : Apart v u' := fun b hb hu => by
  rcases hg.2 b hu with h1 | h1
  · exact h b hb h1
  · have := (hv.lt b hb).2; omega
theorem Apart.symm {u v : Value} (h : Apart u v) : Apart v u := fun b hb hu => h b hu hb
theorem Apart.typed {w : World} {B e f : Nat} {u v : Value} {l m : List Value} (hu : OwnV w B e u l) (hv : OwnV w B f v m) (hne : e ≠ f) : Apart u v := fun b hb hv' => by
  obtain ⟨cs, h1⟩ := hu.typed b hb
  obtain ⟨ds, h2⟩ := hv.typed b hv'
  have := h1.symm.trans h2
  simp at this
  exact hne this.2
theorem Apart.nil (v : Value) : Apart (.slice none 0 0) v := fun b hb => by simp [Value.ownBlock] at hb
/-- A store into a block that is not the slice's. -/
theorem OwnV.store {w : World} {B : Nat} {e : TypeId} {v : Value} {l : List Value} (h : OwnV w B e v l) {a : Addr} (ha : v.ownBlock ≠ some a.block) (u : Value) : OwnV (w.setCell a u) B e v l := ownsRow_setCell_other h ha u
end Go.Proofs.Ytcdfbbjakkmmoaa
