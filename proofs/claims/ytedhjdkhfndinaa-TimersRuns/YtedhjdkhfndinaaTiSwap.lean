/- Layer 14 (timers): Swap of the heap. -/
import Derived.Test.YtedhjdkhfndinaaTiLess
import Derived.Deep.RegionHeld
namespace Go.Proofs.Ytedhjdkhfndinaa
open Go.RowKit
set_option linter.unusedVariables false

/-- The blocks of a heap: its slice's, its timers'. -/
def FT (v : Value) (L : List Tm) (k : Nat) : Prop := v.ownBlock = some k ∨ ∃ x ∈ L, x.b = k
/-- Two places are changed for one another. -/
def swapL (L : List Tm) (i j : Nat) (x y : Tm) : List Tm := (L.set i y).set j x

set_option maxRecDepth 100000 in
set_option maxHeartbeats 1000000 in
theorem swapW_calls (g n cap i j xb yb : Nat) (w : World) (hn : n ≤ cap) (hm : cap ≤ maxLen) (hi : i < n) (hj : j < n)
    (c1 : w.cell? ⟨g, i, none⟩ = some (.pointer (some ⟨xb, 0, none⟩))) (c2 : w.cell? ⟨g, j, none⟩ = some (.pointer (some ⟨yb, 0, none⟩)))
    (f1 : w.frozen? ⟨g, i, none⟩ = false) (f2 : w.frozen? ⟨g, j, none⟩ = false)
    (d1 : ∃ u, w.cell? ⟨xb, 3, none⟩ = some u) (d2 : ∃ u, w.cell? ⟨yb, 3, none⟩ = some u)
    (k1 : w.frozen? ⟨xb, 3, none⟩ = false) (k2 : w.frozen? ⟨yb, 3, none⟩ = false) (hx : xb ≠ g) (hy : yb ≠ g) :
    Calls Try.prog 51 #[.slice (some ⟨g, 0, none⟩) n cap, .int .i64 (i : Int), .int .i64 (j : Int)] w fun e w' => e = .returned (.tuple #[]) ∧ w'.os = w.os ∧ w'.tape = w.tape ∧ w'.output = w.output ∧
      w'.heap = ((((w.setCell ⟨g, i, none⟩ (.pointer (some ⟨yb, 0, none⟩))).setCell ⟨g, j, none⟩ (.pointer (some ⟨xb, 0, none⟩))).setCell ⟨yb, 3, none⟩ (.int .i64 (i : Int))).setCell ⟨xb, 3, none⟩ (.int .i64 (j : Int))).heap := by
  obtain ⟨u1, d1⟩ := d1
  obtain ⟨u2, d2⟩ := d2
  obtain ⟨q, e2⟩ : ∃ q, (w.setCell ⟨g, i, none⟩ (.pointer (some ⟨yb, 0, none⟩))).cell? ⟨g, j, none⟩ = some (.pointer (some ⟨q, 0, none⟩)) := by
    by_cases hij : i = j
    · subst hij
      exact ⟨yb, World.cell?_setCell_same' _ _ _ (by rw [c1]; rfl)⟩
    · exact ⟨yb, by rw [World.cell?_setCell_other (h := fun e => hij (Addr.mk.inj e).2.1)]; exact c2⟩
  go_enter Try.func51, Try.ntmps51
  go_wp2_with fail
  go_region
  go_wp2_with fail
  obtain ⟨w1, HW1⟩ : ∃ w1, Hid (w1 = ((w.setCell ⟨g, i, none⟩ (.pointer (some ⟨yb, 0, none⟩))).setCell ⟨g, j, none⟩ (.pointer (some ⟨xb, 0, none⟩))).drew) := ⟨_, rfl⟩
  have x2 : w1.cell? ⟨g, j, none⟩ = some (.pointer (some ⟨xb, 0, none⟩)) := by
    rw [HW1.out]
    exact World.cell?_setCell_same' _ _ _ (by rw [e2]; rfl)
  have x1 : w1.cell? ⟨g, i, none⟩ = some (.pointer (some ⟨yb, 0, none⟩)) := by
    rw [HW1.out]
    show (((w.setCell ⟨g, i, none⟩ (.pointer (some ⟨yb, 0, none⟩))).setCell ⟨g, j, none⟩ (.pointer (some ⟨xb, 0, none⟩)))).cell? ⟨g, i, none⟩ = _
    by_cases hij : i = j
    · subst hij
      have : xb = yb := by rw [c1] at c2; simpa using c2
      subst this
      exact World.cell?_setCell_same' _ _ _ (by rw [e2]; rfl)
    · rw [World.cell?_setCell_other (h := fun e => hij (Addr.mk.inj e).2.1.symm)]
      exact World.cell?_setCell_same' _ _ _ (by rw [c1]; rfl)
  have y1 : w1.cell? ⟨xb, 3, none⟩ = some u1 := by
    rw [HW1.out]
    exact (World.cell?_setCell_far _ _ _ _ (by simpa using hx.symm)).trans ((World.cell?_setCell_far _ _ _ _ (by simpa using hx.symm)).trans d1)
  have y2 : w1.cell? ⟨yb, 3, none⟩ = some u2 := by
    rw [HW1.out]
    exact (World.cell?_setCell_far _ _ _ _ (by simpa using hy.symm)).trans ((World.cell?_setCell_far _ _ _ _ (by simpa using hy.symm)).trans d2)
  have z1 : w1.frozen? ⟨xb, 3, none⟩ = false := by
    rw [HW1.out]
    exact ((World.frozen?_setCell ..).trans (World.frozen?_setCell ..)).trans k1
  have z2 : w1.frozen? ⟨yb, 3, none⟩ = false := by
    rw [HW1.out]
    exact ((World.frozen?_setCell ..).trans (World.frozen?_setCell ..)).trans k2
  have HF : Hid (w1.os = w.os ∧ w1.tape = w.tape ∧ w1.output = w.output) := by rw [HW1.out]; exact ⟨rfl, rfl, rfl⟩
  rw [← HW1.out]
  obtain ⟨u3, y3⟩ : ∃ u3, (w1.setCell ⟨yb, 3, none⟩ (.int .i64 (i : Int))).cell? ⟨xb, 3, none⟩ = some u3 := cell?_setCell_some y1
  clear c1 c2 f1 f2 d1 d2 k1 k2 e2 hx hy
  go_region
  go_wp2
  go_end0
  refine ⟨rfl, HF.out.1, HF.out.2.1, HF.out.2.2, ?_⟩
  rw [HW1.out]
  rfl

theorem getElem_set_or {L : List Tm} {i j k : Nat} {x y : Tm} (hx : L[i]? = some x) (hy : L[j]? = some y) (z : Tm) : (swapL L i j x y)[k]? = some z ↔ (k = j ∧ z = x) ∨ (k ≠ j ∧ k = i ∧ z = y) ∨ (k ≠ j ∧ k ≠ i ∧ L[k]? = some z) := by
  have hi : i < L.length := (List.getElem?_eq_some_iff.1 hx).1
  have hj : j < L.length := (List.getElem?_eq_some_iff.1 hy).1
  unfold swapL
  rw [List.getElem?_set]
  by_cases h1 : j = k
  · subst h1
    simp [hj]
    exact ⟨fun e => e.symm, fun e => e.symm⟩
  · rw [if_neg h1, List.getElem?_set]
    have h1' : k ≠ j := fun e => h1 e.symm
    by_cases h2 : i = k
    · subst h2
      simp [hi, h1']
      exact ⟨fun e => e.symm, fun e => e.symm⟩
    · have h2' : k ≠ i := fun e => h2 e.symm
      simp [h2, h1', h2']
theorem swapL_length (L : List Tm) (i j : Nat) (x y : Tm) : (swapL L i j x y).length = L.length := by simp [swapL]
theorem swapL_mem {L : List Tm} {i j : Nat} {x y : Tm} (hx : L[i]? = some x) (hy : L[j]? = some y) (z : Tm) : z ∈ swapL L i j x y ↔ z ∈ L := by
  simp only [List.mem_iff_getElem?, getElem_set_or hx hy]
  constructor
  · rintro ⟨k, ⟨rfl, rfl⟩ | ⟨_, rfl, rfl⟩ | ⟨_, _, h⟩⟩
    · exact ⟨i, hx⟩
    · exact ⟨j, hy⟩
    · exact ⟨k, h⟩
  · rintro ⟨k, hk⟩
    by_cases h1 : k = i
    · subst h1
      exact ⟨j, .inl ⟨rfl, Option.some.inj (hk.symm.trans hx)⟩⟩
    · by_cases h2 : k = j
      · subst h2
        exact ⟨i, .inr (.inl ⟨fun e => h1 e.symm, rfl, Option.some.inj (hk.symm.trans hy)⟩)⟩
      · exact ⟨k, .inr (.inr ⟨h2, h1, hk⟩)⟩
theorem FT.swap {L : List Tm} {v : Value} {i j : Nat} {x y : Tm} (hx : L[i]? = some x) (hy : L[j]? = some y) : FT v (swapL L i j x y) = FT v L := by
  funext k
  simp only [FT, swapL_mem hx hy]

theorem ownsRow_set {w : World} {e : TypeId} {g n cap i : Nat} {l : List Value} (h : w.ownsRow 0 e 1 (.slice (some ⟨g, 0, none⟩) n cap) n l) (hi : i < n) (u : Value) : (w.setCell ⟨g, i, none⟩ u).ownsRow 0 e 1 (.slice (some ⟨g, 0, none⟩) n cap) n (l.set i u) := by
  refine ⟨by simpa using h.1, ?_⟩
  rcases h.2 with ⟨he, _⟩ | ⟨g', cap', cur, he, hb, hg, h1, h2, h3, h4⟩
  · cases he
  · simp only [Value.slice.injEq, Option.some.injEq, Addr.mk.injEq] at he
    obtain ⟨⟨rfl, _⟩, _, rfl⟩ := he
    refine .inr ⟨g, cap, _, rfl, hb, heap_setCell_same w g i cur e u hg, h1, h2, by simpa using h3, ?_⟩
    rw [Array.toList_setIfInBounds, List.take_set, h4]

/-- Swap: two timers change their places. -/
theorem swap_calls (v : Value) (L : List Tm) (i j : Nat) (x y : Tm) (w : World) (h : PnAt w v L) (hx : L[i]? = some x) (hy : L[j]? = some y) :
    Calls Try.prog 51 #[v, .int .i64 (i : Int), .int .i64 (j : Int)] w fun e w' => e = .returned (.tuple #[]) ∧ PnAt w' v (swapL L i j x y) ∧ Frm (FT v L) w w' ∧ w'.heap.size = w.heap.size := by
  have hi : i < L.length := (List.getElem?_eq_some_iff.1 hx).1
  have hj : j < L.length := (List.getElem?_eq_some_iff.1 hy).1
  have gx : L[i] = x := (List.getElem?_eq_some_iff.1 hx).2
  have gy : L[j] = y := (List.getElem?_eq_some_iff.1 hy).2
  obtain ⟨g, cap, rfl, hm, hc⟩ := h.at i hi
  have c1 := h.cell i hi
  have c2 := h.cell j hj
  rw [gx] at c1
  rw [gy] at c2
  have t1 := h.tms i x hx
  have t2 := h.tms j y hy
  have ax : x.b ≠ g := fun e => h.apart (List.mem_of_getElem? hx) (by simp [Value.ownBlock, e])
  have ay : y.b ≠ g := fun e => h.apart (List.mem_of_getElem? hy) (by simp [Value.ownBlock, e])
  have hgb : ∃ cs, w.heap[g]? = some (.cells cs 61) := by
    rcases h.pend.2 with ⟨he, _⟩ | ⟨g', cap', cur, he, hb, hg, _⟩
    · cases he
    · simp only [Value.slice.injEq, Option.some.injEq, Addr.mk.injEq] at he
      exact ⟨cur, by rw [he.1.1]; exact hg⟩
  obtain ⟨cs, hg⟩ := hgb
  refine (swapW_calls g L.length cap i j x.b y.b w hc hm hi hj c1 c2 (frozen_blkT hg) (frozen_blkT hg) ⟨_, by rw [cell_blkT t1]; rfl⟩ ⟨_, by rw [cell_blkT t2]; rfl⟩ (frozen_blkT t1) (frozen_blkT t2) ax ay).mono ?_
  rintro e w' ⟨rfl, ho, ht, hout, hh⟩
  obtain ⟨w1, hw1⟩ : ∃ w1, w1 = (w.setCell ⟨g, i, none⟩ (.pointer (some ⟨y.b, 0, none⟩))).setCell ⟨g, j, none⟩ (.pointer (some ⟨x.b, 0, none⟩)) := ⟨_, rfl⟩
  rw [← hw1] at hh
  have b1 : ∀ k, k ≠ g → w1.heap[k]? = w.heap[k]? := fun k hk => by
    rw [hw1, heap_setCell_other _ _ _ _ (by exact hk), heap_setCell_other _ _ _ _ (by exact hk)]
  have s1 : w1.heap.size = w.heap.size := by rw [hw1]; simp
  have o1 : w1.ownsRow 0 61 1 (.slice (some ⟨g, 0, none⟩) L.length cap) L.length ((swapL L i j x y).map ptrT) := by
    have := ownsRow_set (ownsRow_set h.pend hi (.pointer (some ⟨y.b, 0, none⟩))) hj (.pointer (some ⟨x.b, 0, none⟩))
    rw [← hw1] at this
    have he : (swapL L i j x y).map ptrT = ((L.map ptrT).set i (.pointer (some ⟨y.b, 0, none⟩))).set j (.pointer (some ⟨x.b, 0, none⟩)) := by
      unfold swapL
      rw [List.map_set, List.map_set]
      rfl
    rw [he]
    exact this
  have b2 : ∀ k, k ≠ x.b → k ≠ y.b → w'.heap[k]? = w1.heap[k]? := fun k h1 h2 => by
    rw [hh, heap_setCell_other _ _ _ _ (by exact h1), heap_setCell_other _ _ _ _ (by exact h2)]
  have s2 : w'.heap.size = w.heap.size := by rw [hh]; simpa using s1
  refine ⟨rfl, ⟨?_, ?_⟩, ⟨ho, ht, hout, Nat.le_of_eq s2.symm, fun k hk hn => ?_⟩, s2⟩
  · rw [swapL_length]
    refine ⟨o1.1, ?_⟩
    rcases o1.2 with ⟨he, _⟩ | ⟨g', cap', cur, he, hb, hg', r⟩
    · cases he
    · simp only [Value.slice.injEq, Option.some.injEq, Addr.mk.injEq] at he
      obtain ⟨⟨rfl, _⟩, _, rfl⟩ := he
      exact .inr ⟨g, cap, cur, rfl, hb, (b2 g ax.symm ay.symm).trans hg', r⟩
  · intro k z hz
    have t1' := (b1 _ ax).trans t1
    have t2' := (b1 _ ay).trans t2
    rcases (getElem_set_or hx hy z).1 hz with ⟨rfl, rfl⟩ | ⟨hkj, rfl, rfl⟩ | ⟨hkj, hki, hL⟩
    · rw [hh]
      by_cases he : z.b = y.b
      · have hij : i = k := h.inj hx hy he
        subst hij
        have hzy : z = y := Option.some.inj (hx.symm.trans hy)
        subst hzy
        rw [heap_setCell_same _ _ _ _ _ _ (heap_setCell_same _ _ _ _ _ _ t1')]
        simp [tcell]
      · rw [heap_setCell_same _ _ _ _ _ _ ((heap_setCell_other _ _ _ _ (by exact he)).trans t1')]
        simp [tcell]
    · have he : z.b ≠ x.b := fun e => hkj (h.inj hy hx e).symm
      rw [hh, heap_setCell_other _ _ _ _ (by exact he), heap_setCell_same _ _ _ _ _ _ t2']
      simp [tcell]
    · have h1 : z.b ≠ x.b := fun e => hki (h.inj hL hx e)
      have h2 : z.b ≠ y.b := fun e => hkj (h.inj hL hy e)
      have h3 : z.b ≠ g := fun e => h.apart (List.mem_of_getElem? hL) (by simp [Value.ownBlock, e])
      rw [b2 _ h1 h2, b1 _ h3]
      exact h.tms k z hL
  · have n1 : k ≠ g := fun e => hn (.inl (by rw [e]; rfl))
    have n2 : k ≠ x.b := fun e => hn (.inr ⟨x, List.mem_of_getElem? hx, e.symm⟩)
    have n3 : k ≠ y.b := fun e => hn (.inr ⟨y, List.mem_of_getElem? hy, e.symm⟩)
    rw [b2 k n2 n3, b1 k n1]
end Go.Proofs.Ytedhjdkhfndinaa
