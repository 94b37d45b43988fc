/- The document's tree in memory; remade. -/
import Derived.Test.YtcdfbbjakkmmoaaXPaths
import Derived.Deep.RegionLaw
namespace Go.Proofs.Ytcdfbbjakkmmoaa
open Go.RowKit
set_option linter.unusedVariables false

/-- The kind of the slice's block. -/
def Sv.Ty (w : World) (x : Sv) (e : TypeId) : Prop := ∀ b off n, x.ao = some ⟨b, off, n⟩ → ∃ cs, w.heap[b]? = some (.cells cs e)
theorem Sv.Ty.below {w w' : World} {x : Sv} {e : TypeId} (h : x.Ty w e) (hb : Below w.heap.size w w') : x.Ty w' e := fun b off n ha => by
  obtain ⟨cs, hc⟩ := h b off n ha
  exact ⟨cs, (hb.block _ (lt_of_heap hc)).trans hc⟩
theorem OwnV.svt {w : World} {B : Nat} {e : TypeId} {v : Value} {l : List Value} (h : OwnV w B e v l) : ∃ x : Sv, v = .slice x.ao x.vs.length x.cap ∧ x.vs = l ∧ x.At w ∧ x.Ty w e := by
  obtain ⟨x, h1, h2, h3⟩ := h.sv
  refine ⟨x, h1, h2, h3, fun b off n ha => ?_⟩
  rcases h.2 with ⟨hv, h0⟩ | ⟨g, cap, cur, hv, -⟩
  · rw [h1, ha] at hv; simp at hv
  · rw [h1, ha] at hv
    simp only [Value.slice.injEq, Option.some.injEq, Addr.mk.injEq] at hv
    obtain ⟨⟨rfl, rfl, rfl⟩, -⟩ := hv
    exact h.typed b (by rw [h1, ha]; rfl)
/-- The five lists of a document's tree. -/
structure Dv where
  k : Sv
  v : Sv
  l : Sv
  p : Sv
  m : Sv
def Dv.cells (d : Dv) (n q : Nat) : Array Value := #[.slice d.k.ao n d.k.cap, .slice d.v.ao n d.v.cap, .slice d.l.ao n d.l.cap, .slice d.p.ao q d.p.cap, .slice d.m.ao q d.m.cap]
structure DocAt (w : World) (d : Dv) (es : List En) (ps : List ByteArray) : Prop where
  k : d.k.At w
  v : d.v.At w
  l : d.l.At w
  p : d.p.At w
  m : d.m.At w
  kk : d.k.vs = strs (keysOf es)
  vv : d.v.vs = ints (valsOf es)
  ll : ∃ ls : List Int, d.l.vs = ints ls ∧ ls.length = es.length
  pp : d.p.vs = strs ps
  mm : ∃ ms : List Int, d.m.vs = ints ms ∧ ms.length = ps.length
  ksz : ∀ q ∈ keysOf es, q.size ≤ 140737488351296
  psz : ∀ q ∈ ps, q.size ≤ 140737488351296
  sorted : SortedE es
  psorted : SortedK ps
  plen : ps.length ≤ 2 * es.length + 1
  ty : d.k.Ty w 9 ∧ d.v.Ty w 3 ∧ d.l.Ty w 3 ∧ d.p.Ty w 9 ∧ d.m.Ty w 3
theorem DocAt.keep {w w' : World} {d : Dv} {es : List En} {ps : List ByteArray} (h : DocAt w d es ps) (hb : Below w.heap.size w w') : DocAt w' d es ps :=
  ⟨h.k.below hb, h.v.below hb, h.l.below hb, h.p.below hb, h.m.below hb, h.kk, h.vv, h.ll, h.pp, h.mm, h.ksz, h.psz, h.sorted, h.psorted, h.plen, h.ty.1.below hb, h.ty.2.1.below hb, h.ty.2.2.1.below hb, h.ty.2.2.2.1.below hb, h.ty.2.2.2.2.below hb⟩

theorem OwnV.mono {w : World} {B B' : Nat} {e : TypeId} {v : Value} {l : List Value} (h : OwnV w B e v l) (hB : B' ≤ B) : OwnV w B' e v l := by
  refine ⟨h.1, ?_⟩
  rcases h.2 with h0 | ⟨g, cap, cur, rfl, hb, r⟩
  · exact .inl h0
  · exact .inr ⟨g, cap, cur, rfl, Nat.le_trans hB hb, r⟩
theorem Sv.At.store {w : World} {x : Sv} {e t : TypeId} {b i : Nat} {cs : Array Value} (h : x.At w) (ht : x.Ty w e) (hb : w.heap[b]? = some (.cells cs t)) (hne : e ≠ t) (u : Value) : x.At (w.setCell ⟨b, i, none⟩ u) ∧ x.Ty (w.setCell ⟨b, i, none⟩ u) e := by
  have key : ∀ c off n, x.ao = some ⟨c, off, n⟩ → (w.setCell ⟨b, i, none⟩ u).heap[c]? = w.heap[c]? := fun c off n ha => heap_setCell_other _ _ _ _ (fun e' => by
    obtain ⟨ds, hc⟩ := ht c off n ha
    have e'' : c = b := e'
    subst e''
    rw [hb] at hc
    simp at hc
    exact hne hc.2.symm)
  exact ⟨h.kept (fun c off n ha _ => key c off n ha), fun c off n ha => by obtain ⟨ds, hc⟩ := ht c off n ha; exact ⟨ds, (key c off n ha).trans hc⟩⟩
/-- A store into a block that holds a tree of the document leaves the lists. -/
theorem DocAt.store {w : World} {d : Dv} {es : List En} {ps : List ByteArray} {b i : Nat} {cs : Array Value} (h : DocAt w d es ps) (hb : w.heap[b]? = some (.cells cs 28)) (u : Value) : DocAt (w.setCell ⟨b, i, none⟩ u) d es ps := by
  have k := h.k.store (i := i) h.ty.1 hb (by decide) u
  have v := h.v.store (i := i) h.ty.2.1 hb (by decide) u
  have l := h.l.store (i := i) h.ty.2.2.1 hb (by decide) u
  have p := h.p.store (i := i) h.ty.2.2.2.1 hb (by decide) u
  have m := h.m.store (i := i) h.ty.2.2.2.2 hb (by decide) u
  exact ⟨k.1, v.1, l.1, p.1, m.1, h.kk, h.vv, h.ll, h.pp, h.mm, h.ksz, h.psz, h.sorted, h.psorted, h.plen, k.2, v.2, l.2, p.2, m.2⟩
/-- Within remade. -/
structure RmI (w : World) (tc : Array Value) (uk uv ul : Value) (ps2 : List ByteArray) (pv mv : Value) (j : Nat) (W : World) : Prop where
  below : Below w.heap.size w W
  tb : W.heap[w.heap.size]? = some (.cells tc 28)
  ub : W.heap[w.heap.size + 1]? = some (.cells #[uk, uv, ul, pv, mv] 28)
  rb : ∃ cs, W.heap[w.heap.size + 2]? = some (.cells cs 28) ∧ cs.size = 5
  own : OwnV W w.heap.size 9 pv (strs ps2)
  marks : ∃ ms : List Int, OwnV W w.heap.size 3 mv (ints ms) ∧ ms.length = j

theorem grew_blk {W W1 : World} {v v1 : Value} {l : List Value} {B : Nat} {e t : TypeId} {b : Nat} {cs : Array Value} (ho : OwnV W B e v l) (hg : Grew W W1 v v1) (h : W.heap[b]? = some (.cells cs t)) (hne : e ≠ t) : W1.heap[b]? = some (.cells cs t) :=
  (hg.grown.block b (lt_of_heap h) (fun e' => own_ne (ho.typed _ e'.symm) h hne rfl)).trans h

theorem RmI.next {w : World} {tc : Array Value} {uk uv ul pv mv mv1 : Value} {ps2 : List ByteArray} {j : Nat} {W W1 : World} (h : RmI w tc uk uv ul ps2 pv mv j W) (ms : List Int) (y : Int) (hm : OwnV W w.heap.size 3 mv (ints ms)) (hl : ms.length = j) (ho : OwnV W1 w.heap.size 3 mv1 (ints ms ++ [.int .i64 y])) (hg : Grew W W1 mv mv1) :
    (W1.cell? ⟨w.heap.size + 1, 4, none⟩ = some mv ∧ W1.frozen? ⟨w.heap.size + 1, 4, none⟩ = false) ∧ RmI w tc uk uv ul ps2 pv mv1 (j + 1) (W1.setCell ⟨w.heap.size + 1, 4, none⟩ mv1) := by
  have t1 := grew_blk hm hg h.tb (by decide)
  have u1 := grew_blk hm hg h.ub (by decide)
  obtain ⟨cs, r0, hcs⟩ := h.rb
  have r1 := grew_blk hm hg r0 (by decide)
  have o1 := h.own.other hg (Apart.typed h.own hm (by decide))
  refine ⟨⟨by rw [cell_of_blk u1]; rfl, frozen_of_blk u1⟩, ?_⟩
  refine ⟨(h.below.trans (hg.toBelow h.below.size (fun k hk => (hm.lt k hk).1))).setCell (p := ⟨w.heap.size + 1, 4, none⟩) (by show w.heap.size ≤ w.heap.size + 1; omega) _, ?_, ?_, ⟨cs, ?_, hcs⟩, ?_, ms ++ [y], ?_, by simp [hl]⟩
  · rw [heap_setCell_other _ _ _ _ (by simp)]; exact t1
  · rw [setCell_blk u1]; rfl
  · rw [heap_setCell_other _ _ _ _ (by simp)]; exact r1
  · exact o1.store (fun h => own_ne (o1.typed _ h) u1 (by decide) rfl) _
  · rw [show ints (ms ++ [y]) = ints ms ++ [.int .i64 y] by simp [ints]]
    exact ho.store (fun h => own_ne (ho.typed _ h) u1 (by decide) rfl) _
theorem RmI.keep {w : World} {tc : Array Value} {uk uv ul pv mv : Value} {ps2 : List ByteArray} {j : Nat} {W W1 : World} (h : RmI w tc uk uv ul ps2 pv mv j W) (hb : Below W.heap.size W W1) : RmI w tc uk uv ul ps2 pv mv j W1 := by
  obtain ⟨cs, r0, hcs⟩ := h.rb
  obtain ⟨ms, m0, hm⟩ := h.marks
  exact ⟨h.below.trans (hb.mono h.below.size), (hb.block _ (lt_of_heap h.tb)).trans h.tb, (hb.block _ (lt_of_heap h.ub)).trans h.ub, ⟨cs, (hb.block _ (lt_of_heap r0)).trans r0, hcs⟩, h.own.below hb, ms, m0.below hb, hm⟩
theorem lit_at (W : World) (u : Value) (e : TypeId) : Sv.At (W.alloc (.cells #[u] e)) ⟨some ⟨W.heap.size, 0, none⟩, 1, [u]⟩ := by
  refine ⟨fun i hi => ?_, by simp, fun h => by cases h⟩
  simp at hi
  subst hi
  exact ⟨W.heap.size, 0, rfl, by rw [cell_of_blk (heap_alloc_new _ _)]; rfl⟩

theorem five (cs : Array Value) (h : cs.size = 5) : ∃ a b c d e, cs = #[a, b, c, d, e] := by
  obtain ⟨l⟩ := cs
  match l, h with
  | [a, b, c, d, e], _ => exact ⟨a, b, c, d, e, rfl⟩
set_option maxRecDepth 100000 in
set_option maxHeartbeats 4000000 in
theorem remade_calls (d : Dv) (es es2 : List En) (ps : List ByteArray) (x : Sv) (va la : Option Addr) (vn vc ln lc : Nat) (k : ByteArray) (next : Int) (w : World) (hd : DocAt w d es ps) (hx : x.At w) (hv : x.vs = strs (keysOf es2)) (hz : ∀ p ∈ keysOf es2, p.size ≤ 140737488351296) (hk : k.size ≤ 140737488351296) (hl : es2.length ≤ 5864062014650) (hpl : ps.length ≤ 11728124029400) :
    Calls Try.prog 35 #[.agg (d.cells es.length ps.length), .agg #[.slice x.ao es2.length x.cap, .slice va vn vc, .slice la ln lc, .slice none 0 0, .slice none 0 0], .string k, .int .i64 next] w fun e w' =>
      ∃ (pa ma : Option Addr) (pn pc mn mc : Nat) (z : Int) (ms : List Int), e = .returned (.tuple #[.agg #[.slice x.ao es2.length x.cap, .slice va vn vc, .slice la ln lc, .slice pa pn pc, .slice ma mn mc], .int .i64 z]) ∧ Below w.heap.size w w' ∧
        OwnV w' w.heap.size 9 (.slice pa pn pc) (strs (pathsN (keysOf es2) es2.length)) ∧ OwnV w' w.heap.size 3 (.slice ma mn mc) (ints ms) ∧ ms.length = (pathsN (keysOf es2) es2.length).length := by
  obtain ⟨w3, HW3⟩ : ∃ w3, Hid (w3 = ((w.alloc (.cells (d.cells es.length ps.length) 28)).alloc (.cells #[.slice x.ao es2.length x.cap, .slice va vn vc, .slice la ln lc, .slice none 0 0, .slice none 0 0] 28)).alloc (.cells #[.slice none 0 0, .slice none 0 0, .slice none 0 0, .slice none 0 0, .slice none 0 0] 28)) := ⟨_, rfl⟩
  have hs3 : w3.heap.size = w.heap.size + 3 := by rw [HW3.out]; simp [World.size_alloc]
  have hb3 : Below w.heap.size w w3 := by rw [HW3.out]; exact (((Below.refl _ w).alloc (Nat.le_refl _) _).alloc (by simp [World.size_alloc]) _).alloc (by simp [World.size_alloc]; omega) _
  have q0 : w3.heap[w.heap.size]? = some (.cells (d.cells es.length ps.length) 28) := by
    rw [HW3.out, Below.heap_alloc _ _ _ (by simp [World.size_alloc]; omega), Below.heap_alloc _ _ _ (by simp [World.size_alloc])]; exact heap_alloc_new _ _
  have q1 : w3.heap[w.heap.size + 1]? = some (.cells #[.slice x.ao es2.length x.cap, .slice va vn vc, .slice la ln lc, .slice none 0 0, .slice none 0 0] 28) := by
    rw [HW3.out, Below.heap_alloc _ _ _ (by simp [World.size_alloc])]
    have := heap_alloc_new (w.alloc (.cells (d.cells es.length ps.length) 28)) (.cells #[.slice x.ao es2.length x.cap, .slice va vn vc, .slice la ln lc, .slice none 0 0, .slice none 0 0] 28)
    simpa only [World.size_alloc] using this
  have q2 : w3.heap[w.heap.size + 2]? = some (.cells #[.slice none 0 0, .slice none 0 0, .slice none 0 0, .slice none 0 0, .slice none 0 0] 28) := by
    rw [HW3.out]
    have := heap_alloc_new ((w.alloc (.cells (d.cells es.length ps.length) 28)).alloc (.cells #[.slice x.ao es2.length x.cap, .slice va vn vc, .slice la ln lc, .slice none 0 0, .slice none 0 0] 28)) (.cells #[.slice none 0 0, .slice none 0 0, .slice none 0 0, .slice none 0 0, .slice none 0 0] 28)
    simpa only [World.size_alloc] using this
  have HP := paths_calls x (keysOf es2) w3 (hx.below hb3) hv hz (by rw [keysOf_len]; exact hl)
  rw [keysOf_len] at HP
  obtain ⟨ps2, hps2⟩ : ∃ ps2, ps2 = pathsN (keysOf es2) es2.length := ⟨_, rfl⟩
  have hp2l : ps2.length ≤ 2 * es2.length + 1 := by rw [hps2]; exact pathsN_len _ _
  have HP2 : Hid (SortedK ps2 ∧ ∀ p ∈ ps2, p.size ≤ 140737488351296) := by rw [hps2]; exact ⟨pathsN_sorted _ _, pathsN_size hz _⟩
  rw [← hps2] at HP ⊢
  have HD : Hid (DocAt w d es ps) := hd
  have HQ : Hid (Below w.heap.size w w3 ∧ w3.heap[w.heap.size]? = some (.cells (d.cells es.length ps.length) 28) ∧ w3.heap[w.heap.size + 1]? = some (.cells #[.slice x.ao es2.length x.cap, .slice va vn vc, .slice la ln lc, .slice none 0 0, .slice none 0 0] 28) ∧ w3.heap[w.heap.size + 2]? = some (.cells #[.slice none 0 0, .slice none 0 0, .slice none 0 0, .slice none 0 0, .slice none 0 0] 28)) := ⟨hb3, q0, q1, q2⟩
  clear hd hx hv hz hps2 hb3 q0 q1 q2
  unfold Dv.cells
  unfold Dv.cells at HW3
  go_enter Try.func35, Try.ntmps35
  go_wp2_with fail
  rw [← HW3.out]
  clear HW3
  refine HP.mono ?_
  clear HP
  rintro e w4 ⟨pa, pn, pc, rfl, ho4, hb4⟩
  obtain ⟨ao0, cap0, hpn⟩ := ho4.shape
  simp only [Value.slice.injEq, strs_length] at hpn
  obtain ⟨-, rfl, -⟩ := hpn
  clear ao0 cap0
  have e0 : w4.heap[w.heap.size]? = some (.cells (d.cells es.length ps.length) 28) := (hb4.block _ (by omega)).trans HQ.out.2.1
  have e1 : w4.heap[w.heap.size + 1]? = some (.cells #[.slice x.ao es2.length x.cap, .slice va vn vc, .slice la ln lc, .slice none 0 0, .slice none 0 0] 28) := (hb4.block _ (by omega)).trans HQ.out.2.2.1
  have e2 : w4.heap[w.heap.size + 2]? = some (.cells #[.slice none 0 0, .slice none 0 0, .slice none 0 0, .slice none 0 0, .slice none 0 0] 28) := (hb4.block _ (by omega)).trans HQ.out.2.2.2
  have HB4 : Hid (Below w.heap.size w w4) := HQ.out.1.trans (hb4.mono HQ.out.1.size)
  have hs4 : w.heap.size + 3 ≤ w4.heap.size := by have := hb4.size; omega
  have HO4 : Hid (OwnV w4 w.heap.size 9 (.slice pa ps2.length pc) (strs ps2)) := ho4.mono (by omega)
  have k3 : w4.cell? ⟨w.heap.size + 1, 3, none⟩ = some (.slice none 0 0) := by rw [cell_of_blk e1]; rfl
  have z3 : w4.frozen? ⟨w.heap.size + 1, 3, none⟩ = false := frozen_of_blk e1
  have k4 : w4.cell? ⟨w.heap.size + 1, 4, none⟩ = some (.slice none 0 0) := by rw [cell_of_blk e1]; rfl
  have z4 : w4.frozen? ⟨w.heap.size + 1, 4, none⟩ = false := frozen_of_blk e1
  have HE : Hid (w4.heap[w.heap.size]? = some (.cells (d.cells es.length ps.length) 28) ∧ w4.heap[w.heap.size + 1]? = some (.cells #[.slice x.ao es2.length x.cap, .slice va vn vc, .slice la ln lc, .slice none 0 0, .slice none 0 0] 28) ∧ w4.heap[w.heap.size + 2]? = some (.cells #[.slice none 0 0, .slice none 0 0, .slice none 0 0, .slice none 0 0, .slice none 0 0] 28)) := ⟨e0, e1, e2⟩
  have s1 : (w4.setCell ⟨w.heap.size + 1, 3, none⟩ (.slice pa ps2.length pc)).heap[w.heap.size + 1]? = some (.cells #[.slice x.ao es2.length x.cap, .slice va vn vc, .slice la ln lc, .slice pa ps2.length pc, .slice none 0 0] 28) := by rw [setCell_blk e1]; rfl
  have s2 : ((w4.setCell ⟨w.heap.size + 1, 3, none⟩ (.slice pa ps2.length pc)).alloc (.cells #[] 3)).heap[w.heap.size + 1]? = some (.cells #[.slice x.ao es2.length x.cap, .slice va vn vc, .slice la ln lc, .slice pa ps2.length pc, .slice none 0 0] 28) := (Below.heap_alloc _ _ _ (lt_of_heap s1)).trans s1
  have k3' : ((w4.setCell ⟨w.heap.size + 1, 3, none⟩ (.slice pa ps2.length pc)).alloc (.cells #[] 3)).cell? ⟨w.heap.size + 1, 3, none⟩ = some (.slice pa ps2.length pc) := by rw [cell_of_blk s2]; rfl
  have k4' : ((w4.setCell ⟨w.heap.size + 1, 3, none⟩ (.slice pa ps2.length pc)).alloc (.cells #[] 3)).cell? ⟨w.heap.size + 1, 4, none⟩ = some (.slice none 0 0) := by rw [cell_of_blk s2]; rfl
  have z4' : ((w4.setCell ⟨w.heap.size + 1, 3, none⟩ (.slice pa ps2.length pc)).alloc (.cells #[] 3)).frozen? ⟨w.heap.size + 1, 4, none⟩ = false := frozen_of_blk s2
  obtain ⟨w6, HW6⟩ : ∃ w6, Hid (w6 = ((w4.setCell ⟨w.heap.size + 1, 3, none⟩ (.slice pa ps2.length pc)).alloc (.cells #[] 3)).setCell ⟨w.heap.size + 1, 4, none⟩ (.slice (some ⟨w4.heap.size, 0, none⟩) 0 0)) := ⟨_, rfl⟩
  have HI6 : Hid (RmI w (d.cells es.length ps.length) (.slice x.ao es2.length x.cap) (.slice va vn vc) (.slice la ln lc) ps2 (.slice pa ps2.length pc) (.slice (some ⟨w4.heap.size, 0, none⟩) 0 0) 0 w6) := by
    show RmI _ _ _ _ _ _ _ _ _ _
    have hs4' : (w4.setCell ⟨w.heap.size + 1, 3, none⟩ (.slice pa ps2.length pc)).heap.size = w4.heap.size := size_setCell' _ _ _
    have hO1 : OwnV (w4.setCell ⟨w.heap.size + 1, 3, none⟩ (.slice pa ps2.length pc)) w.heap.size 9 (.slice pa ps2.length pc) (strs ps2) := HO4.out.store (fun h => own_ne (HO4.out.typed _ h) e1 (by decide) rfl) _
    have hO2 := hO1.alloc (.cells #[] 3)
    have hM0 := OwnV.made (w4.setCell ⟨w.heap.size + 1, 3, none⟩ (.slice pa ps2.length pc)) 3 [] (by decide)
    rw [hs4'] at hM0
    have b0 : ((w4.setCell ⟨w.heap.size + 1, 3, none⟩ (.slice pa ps2.length pc)).alloc (.cells #[] 3)).heap[w.heap.size]? = some (.cells (d.cells es.length ps.length) 28) := by
      rw [Below.heap_alloc _ _ _ (by omega), heap_setCell_other _ _ _ _ (by simp)]; exact e0
    have b2 : ((w4.setCell ⟨w.heap.size + 1, 3, none⟩ (.slice pa ps2.length pc)).alloc (.cells #[] 3)).heap[w.heap.size + 2]? = some (.cells #[.slice none 0 0, .slice none 0 0, .slice none 0 0, .slice none 0 0, .slice none 0 0] 28) := by
      rw [Below.heap_alloc _ _ _ (by omega), heap_setCell_other _ _ _ _ (by simp)]; exact e2
    rw [HW6.out]
    refine ⟨((HB4.out.setCell (p := ⟨w.heap.size + 1, 3, none⟩) (by show w.heap.size ≤ w.heap.size + 1; omega) _).alloc (by omega) _).setCell (p := ⟨w.heap.size + 1, 4, none⟩) (by show w.heap.size ≤ w.heap.size + 1; omega) _, ?_, ?_, ⟨#[.slice none 0 0, .slice none 0 0, .slice none 0 0, .slice none 0 0, .slice none 0 0], ?_, rfl⟩, ?_, [], ?_, rfl⟩
    · rw [heap_setCell_other _ _ _ _ (by simp)]; exact b0
    · rw [setCell_blk s2]; rfl
    · rw [heap_setCell_other _ _ _ _ (by simp)]; exact b2
    · exact hO2.store (fun h => own_ne (hO2.typed _ h) s2 (by decide) rfl) _
    · exact (hM0.mono (by omega)).store (fun h => own_ne (hM0.typed _ h) s2 (by decide) rfl) _
  clear ho4 hb4 e0 e1 e2 HQ hs3 s1 s2 HO4 HE HB4
  go_wp2_with fail
  rw [← HW6.out]
  clear HW6 k3' k4' z4' k3 k4 z3 z4
  go_loopw [3, 23] (fun nx i wr => ∃ (j : Nat) (z : Int) (mv : Value), j ≤ ps2.length ∧ nx = .int .i64 z ∧ i = .int .i64 j ∧ Hid (RmI w (d.cells es.length ps.length) (.slice x.ao es2.length x.cap) (.slice va vn vc) (.slice la ln lc) ps2 (.slice pa ps2.length pc) mv j wr)) (fun _ i _ => ps2.length - (intOf i).toNat)
  case atStart => exact ⟨0, next, _, Nat.zero_le _, rfl, rfl, HI6⟩
  case round =>
    obtain ⟨j, z, mv, hj, rfl, rfl, HI⟩ := hrel
    clear HI6
    by_cases hlt : j < ps2.length
    · obtain ⟨g, rfl, hc⟩ := HI.out.own.at j (by rw [strs_length]; exact hlt)
      have hcs : (strs ps2)[j]'(by rw [strs_length]; exact hlt) = .string ps2[j] := by simp [strs]
      rw [hcs] at hc
      have hqz := HP2.out.2 _ (List.getElem_mem hlt)
      have p3 : wr.cell? ⟨w.heap.size, 3, none⟩ = some (.slice d.p.ao ps.length d.p.cap) := by rw [cell_of_blk HI.out.tb]; rfl
      have HDW : Hid (DocAt wr d es ps) := HD.out.keep HI.out.below
      have HF := find_calls d.p ps ps2[j] wr HDW.out.p HDW.out.pp HDW.out.psorted HDW.out.psz hqz (by omega)
      go_wp2_with fail
      refine HF.mono ?_
      clear HF
      rintro e w7 ⟨rfl, nq, hw7⟩
      have HI7 : Hid (RmI w (d.cells es.length ps.length) (.slice x.ao es2.length x.cap) (.slice va vn vc) (.slice la ln lc) ps2 (.slice (some ⟨g, 0, none⟩) ps2.length pc) mv j w7) := HI.out.keep (by rw [hw7]; exact drewN_below wr nq)
      obtain ⟨ms, hm7, hml⟩ := HI7.out.marks
      have HM7 : Hid (OwnV w7 w.heap.size 3 mv (ints ms)) := hm7
      have u4 : w7.cell? ⟨w.heap.size + 1, 4, none⟩ = some mv := by rw [cell_of_blk HI7.out.ub]; rfl
      obtain ⟨ma7, mc7, hmv⟩ := hm7.shape
      rw [ints_length, hml] at hmv
      subst hmv
      have hbs7 := HI7.out.below.size
      clear hm7 hw7 hc p3 HI hcs
      by_cases hm : ps2[j] ∈ ps
      · rw [decide_eq_true hm]
        have HS := starts_calls k ps2[j] w7 (by omega) (by omega)
        go_wp2_with fail
        refine HS.mono ?_
        clear HS
        rintro e w8 ⟨rfl, hw8⟩
        rw [hw8]
        clear hw8 w8
        by_cases hst : startsB k.data.toList ps2[j].data.toList = true
        · rw [hst]
          go_wp2_with (at_builtin; refine append_val w7 rfl (.tmp 52) (.tmp 54) 26 3 (.int .i64 0) 8 Try.underlying26 infoI rfl rfl w.heap.size _ (ints ms) rfl (.int .i64 z) rfl _ rfl (by first | rfl | simp) HM7.out (by rw [ints_length]; omega) (by rw [ints_length]; omega) hbs7 ?_)
          intro v8 w8 ho8 hg8
          obtain ⟨ma8, mc8, hmv8⟩ := ho8.shape
          rw [List.length_append, ints_length, hml, List.length_singleton] at hmv8
          obtain ⟨⟨n4, n5⟩, hI8⟩ := HI7.out.next ms z HM7.out hml ho8 hg8
          have HI8 : Hid _ := hI8
          subst hmv8
          clear ho8 hg8 hI8 u4 HM7 HI7
          go_wp2
          go_roundw
          case rel => exact ⟨j + 1, _, _, by omega, rfl, by go_num, HI8⟩
          case measure => simp [intOf]; omega
        · have hst' : startsB k.data.toList ps2[j].data.toList = false := Bool.eq_false_iff.2 hst
          rw [hst']
          obtain ⟨hpl2, hpe⟩ := (place_mem HD.out.psorted).2 hm
          obtain ⟨ms0, hms0, hms1⟩ := HD.out.mm
          obtain ⟨bm, om, hao, hcm⟩ := ((HD.out.m.below HI7.out.below)).int hms0 (place ps ps2[j]) (by omega)
          have t4 : w7.cell? ⟨w.heap.size, 4, none⟩ = some (.slice (some ⟨bm, om, none⟩) ps.length d.m.cap) := by rw [cell_of_blk HI7.out.tb, ← hao]; rfl
          obtain ⟨y, hy⟩ : ∃ y, y = ms0[place ps ps2[j]]'(by omega) := ⟨_, rfl⟩
          rw [← hy] at hcm
          clear hpe hms1 hms0 hao hy
          obtain ⟨at_, hat⟩ : ∃ a, a = place ps ps2[j] := ⟨_, rfl⟩
          rw [← hat] at hcm hpl2 ⊢
          clear hat
          have i1 : (0 : Int) ≤ (at_ : Int) ∧ (at_ : Int) < (ps.length : Int) := by omega
          have u4' : (w7.alloc (.cells #[.int .i64 y] 3)).cell? ⟨w.heap.size + 1, 4, none⟩ = some (.slice ma7 j mc7) := (World.cell?_alloc_past _ _ _ (World.block_lt_of_cell? w7 _ u4)).trans u4
          go_wp2_with fail
          go_region_law
            (first
              | (refine step_append_sv rfl (.tmp 42) (.tmp 48) 26 3 (.int .i64 0) 8 rfl Try.underlying26 infoI rfl w.heap.size _ (ints ms) rfl ((HM7.out.alloc _).below ⟨rfl, rfl, rfl, Nat.le_refl _, fun _ _ => rfl⟩) ⟨some ⟨_, 0, none⟩, 1, [.int .i64 y]⟩ 1 rfl rfl (lit_at _ _ _).drew (fun u hu => by simp at hu; subst hu; rfl) (by rw [ints_length, hml]; simp; omega) (by rw [ints_length, hml]; simp; omega) (by simp; omega) ?_
                 intro ma8 mc8 w8 ho8 hg8
                 have hg9 := (((Grew.refl w7 (.slice ma7 j mc7)).alloc _).drew).trans hg8
                 obtain ⟨⟨n4, n5⟩, hI8⟩ := HI7.out.next ms y HM7.out hml ho8 hg9
                 rw [ints_length, hml] at hI8 ⊢
                 have HI8 : Hid _ := hI8
                 clear ho8 hg8 hI8 hg9))
          all_goals (
            go_wp2
            go_roundw
            case rel => exact ⟨j + 1, _, _, by omega, rfl, by go_num, HI8⟩
            case measure => simp [intOf]; omega)
      · rw [decide_eq_false hm]
        go_wp2_with (at_builtin; refine append_val w7 rfl (.tmp 52) (.tmp 54) 26 3 (.int .i64 0) 8 Try.underlying26 infoI rfl rfl w.heap.size _ (ints ms) rfl (.int .i64 z) rfl _ rfl (by first | rfl | simp) HM7.out (by rw [ints_length]; omega) (by rw [ints_length]; omega) hbs7 ?_)
        intro v8 w8 ho8 hg8
        obtain ⟨ma8, mc8, hmv8⟩ := ho8.shape
        rw [List.length_append, ints_length, hml, List.length_singleton] at hmv8
        obtain ⟨⟨n4, n5⟩, hI8⟩ := HI7.out.next ms z HM7.out hml ho8 hg8
        have HI8 : Hid _ := hI8
        subst hmv8
        clear ho8 hg8 hI8 u4 HM7 HI7
        go_wp2
        go_roundw
        case rel => exact ⟨j + 1, _, _, by omega, rfl, by go_num, HI8⟩
        case measure => simp [intOf]; omega
    · have hjl : j = ps2.length := by omega
      subst hjl
      obtain ⟨ms, hm7, hml⟩ := HI.out.marks
      obtain ⟨ma7, mc7, hmv⟩ := hm7.shape
      rw [ints_length, hml] at hmv
      subst hmv
      obtain ⟨cs, r0, hcs⟩ := HI.out.rb
      have c0 : wr.cell? ⟨w.heap.size + 1, 0, none⟩ = some (.slice x.ao es2.length x.cap) := by rw [cell_of_blk HI.out.ub]; rfl
      have c1 : wr.cell? ⟨w.heap.size + 1, 1, none⟩ = some (.slice va vn vc) := by rw [cell_of_blk HI.out.ub]; rfl
      have c2 : wr.cell? ⟨w.heap.size + 1, 2, none⟩ = some (.slice la ln lc) := by rw [cell_of_blk HI.out.ub]; rfl
      have c3 : wr.cell? ⟨w.heap.size + 1, 3, none⟩ = some (.slice pa ps2.length pc) := by rw [cell_of_blk HI.out.ub]; rfl
      have c4 : wr.cell? ⟨w.heap.size + 1, 4, none⟩ = some (.slice ma7 ps2.length mc7) := by rw [cell_of_blk HI.out.ub]; rfl
      have r0' : wr.heap[w.heap.size + 1 + 1]? = some (.cells cs 28) := r0
      obtain ⟨y0, d0⟩ : ∃ y, wr.cell? ⟨w.heap.size + 1 + 1, 0, none⟩ = some y := ⟨cs[0], by rw [cell_of_blk r0']; simp [hcs]⟩
      obtain ⟨y1, d1⟩ : ∃ y, wr.cell? ⟨w.heap.size + 1 + 1, 1, none⟩ = some y := ⟨cs[1], by rw [cell_of_blk r0']; simp [hcs]⟩
      obtain ⟨y2, d2⟩ : ∃ y, wr.cell? ⟨w.heap.size + 1 + 1, 2, none⟩ = some y := ⟨cs[2], by rw [cell_of_blk r0']; simp [hcs]⟩
      obtain ⟨y3, d3⟩ : ∃ y, wr.cell? ⟨w.heap.size + 1 + 1, 3, none⟩ = some y := ⟨cs[3], by rw [cell_of_blk r0']; simp [hcs]⟩
      obtain ⟨y4, d4⟩ : ∃ y, wr.cell? ⟨w.heap.size + 1 + 1, 4, none⟩ = some y := ⟨cs[4], by rw [cell_of_blk r0']; simp [hcs]⟩
      have f0 : wr.frozen? ⟨w.heap.size + 1 + 1, 0, none⟩ = false := frozen_of_blk r0'
      have f1 : wr.frozen? ⟨w.heap.size + 1 + 1, 1, none⟩ = false := frozen_of_blk r0'
      have f2 : wr.frozen? ⟨w.heap.size + 1 + 1, 2, none⟩ = false := frozen_of_blk r0'
      have f3 : wr.frozen? ⟨w.heap.size + 1 + 1, 3, none⟩ = false := frozen_of_blk r0'
      have f4 : wr.frozen? ⟨w.heap.size + 1 + 1, 4, none⟩ = false := frozen_of_blk r0'
      have HR0 : Hid (wr.heap[w.heap.size + 1 + 1]? = some (.cells cs 28)) := r0'
      have HM : Hid (OwnV wr w.heap.size 3 (.slice ma7 ps2.length mc7) (ints ms)) := hm7
      clear r0 r0' hm7
      obtain ⟨wz, HWZ⟩ : ∃ wz, Hid (wz = ((((wr.setCell ⟨w.heap.size + 1 + 1, 0, none⟩ (.slice x.ao es2.length x.cap)).setCell ⟨w.heap.size + 1 + 1, 1, none⟩ (.slice va vn vc)).setCell ⟨w.heap.size + 1 + 1, 2, none⟩ (.slice la ln lc)).setCell ⟨w.heap.size + 1 + 1, 3, none⟩ (.slice pa ps2.length pc)).setCell ⟨w.heap.size + 1 + 1, 4, none⟩ (.slice ma7 ps2.length mc7)) := ⟨_, rfl⟩
      have hz2 : wz.heap[w.heap.size + 1 + 1]? = some (.cells #[.slice x.ao es2.length x.cap, .slice va vn vc, .slice la ln lc, .slice pa ps2.length pc, .slice ma7 ps2.length mc7] 28) := by
        obtain ⟨a0, a1, a2, a3, a4, rfl⟩ := five cs hcs
        rw [HWZ.out, setCell_blk (setCell_blk (setCell_blk (setCell_blk (setCell_blk HR0.out _) _) _) _) _]
        rfl
      have g0 : wz.cell? ⟨w.heap.size + 1 + 1, 0, none⟩ = some (.slice x.ao es2.length x.cap) := by rw [cell_of_blk hz2]; rfl
      have g1 : wz.cell? ⟨w.heap.size + 1 + 1, 1, none⟩ = some (.slice va vn vc) := by rw [cell_of_blk hz2]; rfl
      have g2 : wz.cell? ⟨w.heap.size + 1 + 1, 2, none⟩ = some (.slice la ln lc) := by rw [cell_of_blk hz2]; rfl
      have g3 : wz.cell? ⟨w.heap.size + 1 + 1, 3, none⟩ = some (.slice pa ps2.length pc) := by rw [cell_of_blk hz2]; rfl
      have g4 : wz.cell? ⟨w.heap.size + 1 + 1, 4, none⟩ = some (.slice ma7 ps2.length mc7) := by rw [cell_of_blk hz2]; rfl
      have HFIN : Hid (Below w.heap.size w wz ∧ OwnV wz w.heap.size 9 (.slice pa ps2.length pc) (strs ps2) ∧ OwnV wz w.heap.size 3 (.slice ma7 ps2.length mc7) (ints ms)) := by
        have hb := HI.out.below
        have hge : w.heap.size ≤ w.heap.size + 1 + 1 := by omega
        have n1 : (Value.slice pa ps2.length pc).ownBlock ≠ some (w.heap.size + 1 + 1) := fun h => own_ne (HI.out.own.typed _ h) HR0.out (by decide) rfl
        have n2 : (Value.slice ma7 ps2.length mc7).ownBlock ≠ some (w.heap.size + 1 + 1) := fun h => own_ne (HM.out.typed _ h) HR0.out (by decide) rfl
        rw [HWZ.out]
        refine ⟨((((hb.setCell (p := ⟨w.heap.size + 1 + 1, 0, none⟩) hge _).setCell (p := ⟨w.heap.size + 1 + 1, 1, none⟩) hge _).setCell (p := ⟨w.heap.size + 1 + 1, 2, none⟩) hge _).setCell (p := ⟨w.heap.size + 1 + 1, 3, none⟩) hge _).setCell (p := ⟨w.heap.size + 1 + 1, 4, none⟩) hge _, ?_, ?_⟩
        · exact ((((HI.out.own.store n1 _).store n1 _).store n1 _).store n1 _).store n1 _
        · exact ((((HM.out.store n2 _).store n2 _).store n2 _).store n2 _).store n2 _
      clear hz2
      go_wp2_with fail
      rw [← HWZ.out]
      refine bodyPost_ret (v := .tuple #[.agg #[.slice x.ao es2.length x.cap, .slice va vn vc, .slice la ln lc, .slice pa ps2.length pc, .slice ma7 ps2.length mc7], .int .i64 z]) (by simp [results, Try.results35, go_sem, g0, g1, g2, g3, g4]) rfl ?_
      exact ⟨_, _, _, _, _, _, _, ms, rfl, HFIN.out.1, HFIN.out.2.1, HFIN.out.2.2, hml⟩
end Go.Proofs.Ytcdfbbjakkmmoaa
