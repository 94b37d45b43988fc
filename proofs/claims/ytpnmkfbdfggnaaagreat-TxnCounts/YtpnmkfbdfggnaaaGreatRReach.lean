/- Layer 3 (radix): reach, way, valueOf. -/
import Derived.Test.YtpnmkfbdfggnaaaGreatRAlong2
namespace Go.Proofs.YtpnmkfbdfggnaaaGreat
open Go.RowKit
set_option linter.unusedVariables false
variable {R : Nat → Prop}

theorem enters_way (args : Array Value) (W : World) : (callFunc 89 args).run Tryz.prog W = .ok (.enter 89 args) W := by
  have := Tryz.func89
  go_simp
theorem enters_reach (args : Array Value) (W : World) : (callFunc 100 args).run Tryz.prog W = .ok (.enter 100 args) W := by
  have := Tryz.func100
  go_simp

theorem reachK_calls (u : Option Addr) (b : Nat) (x : Value) (w : World) (hb : w.heap[b]? = some (.cells #[x] 124)) :
    Calls Tryz.prog 100 #[.pointer u, .pointer (some ⟨b, 0, none⟩)] w fun e w' => e = .returned (.tuple #[]) ∧ w' = w.setCell ⟨b, 0, none⟩ (.pointer u) := by
  have c0 : w.cell? ⟨b, 0, none⟩ = some x := by rw [cell_of_blk hb]; rfl
  have z0 : w.frozen? ⟨b, 0, none⟩ = false := frozen_of_blk hb
  clear hb
  go_enter Tryz.func100, Tryz.ntmps100
  go_wp2
  go_end0
  exact ⟨rfl, rfl⟩

/-- What reach holds between two nodes. -/
structure RI (w : World) (l : List Tr) (hl : 0 < l.length) (i : Nat) (W : World) : Prop where
  below : Below w.heap.size w W
  box : W.heap[w.heap.size]? = some (.cells #[.pointer (some ⟨(l[i - 1]?.getD l[0]).a, 0, none⟩)] 124)

set_option maxRecDepth 100000 in
theorem reach_calls (t : Tr) (k : ByteArray) (w : World) (init : List Tr) (c : Tr) (hA : Along k.data.toList t (init ++ [c])) (h : TAt R w t) (hw : WF t) (hp : t.path <+: k.data.toList) (hks : k.size ≤ 140737488351296) :
    Calls Tryz.prog 72 #[.pointer (some ⟨t.a, 0, none⟩), .string k] w fun e w' => e = .returned (.pointer (some ⟨c.a, 0, none⟩)) ∧ Below w.heap.size w w' := by
  have hmf : ∀ (fn : Fn) (first cap : Array Value) (w : World), (Instr.makeFunc fn first cap).run Tryz.prog w = .ok (.func fn first cap) w := fun _ _ _ _ => rfl
  have hl : 0 < (init ++ [c]).length := by simp
  have hh0 : (init ++ [c])[0] = t := by obtain ⟨r, hr⟩ := hA.head; simp only [hr]; rfl
  obtain ⟨w1, HW1⟩ : ∃ w1, Hid (w1 = w.alloc (.cells #[.pointer (some ⟨t.a, 0, none⟩)] 124)) := ⟨_, rfl⟩
  have hb1 : Below w.heap.size w w1 := by rw [HW1.out]; exact (Below.refl _ _).alloc (Nat.le_refl _) _
  have hbox : w1.heap[w.heap.size]? = some (.cells #[.pointer (some ⟨t.a, 0, none⟩)] 124) := by rw [HW1.out]; exact heap_alloc_new w _
  have HA := along_calls 100 enters_reach (.pointer (some ⟨w.heap.size, 0, none⟩)) t k (init ++ [c]) (RI w (init ++ [c]) hl) w1 hA hw hp hks
    ⟨hb1, by rw [hbox]; simp [hh0]⟩
    (fun i W W' hi hb => ⟨hi.below.trans (hb.mono hi.below.size), by rw [hb.block _ (lt_of_heap hi.box)]; exact hi.box⟩)
    (fun i W hi => h.keep hi.below)
    (fun i hi W hI _ => (reachK_calls _ _ _ W hI.box).mono (by
      rintro e W' ⟨rfl, rfl⟩
      refine ⟨rfl, hI.below.setCell (Nat.le_refl _) _, ?_⟩
      rw [setCell_blk hI.box]
      simp [List.getElem?_eq_getElem hi]))
  clear hA h hw hp hbox hb1
  go_enter Tryz.func72, Tryz.ntmps72
  go_wp2_with fail
  rw [← HW1.out]
  refine HA.mono ?_
  clear HA
  rintro e w2 ⟨rfl, hI⟩
  have c0 : w2.cell? ⟨w.heap.size, 0, none⟩ = some (.pointer (some ⟨c.a, 0, none⟩)) := by rw [cell_of_blk hI.box]; simp
  have HB : Hid (Below w.heap.size w w2) := hI.below
  clear hI
  go_wp2
  go_ret
  exact ⟨rfl, HB.out⟩

/-- The value of k at the last node along it. -/
def valAt (c : Tr) (k : ByteArray) : Option Vl := if c.p.size < k.size then none else c.v

theorem valueOf_calls (t : Tr) (k : ByteArray) (w : World) (init : List Tr) (c : Tr) (hA : Along k.data.toList t (init ++ [c])) (h : TAt R w t) (hw : WF t) (hp : t.path <+: k.data.toList) (hks : k.size ≤ 140737488351296) :
    Calls Tryz.prog 59 #[.pointer (some ⟨t.a, 0, none⟩), .string k] w fun e w' => e = .returned (.pointer (vptr (valAt c k))) ∧ Below w.heap.size w w' := by
  have HR := reach_calls t k w init c hA h hw hp hks
  have hT := along_tat hA h c (by simp)
  obtain ⟨ao, cap, c0, c1, -, -, -, -⟩ := hT.cells
  have hpz := hT.psz'
  have ha := hT.lt
  clear hA h hw hp hT
  by_cases hlt : c.p.size < k.size
  · have e : valAt c k = none := by unfold valAt; rw [if_pos hlt]
    rw [e]
    clear e
    simp only [vptr]
    go_enter Tryz.func59, Tryz.ntmps59
    go_wp2_with fail
    refine HR.mono ?_
    clear HR
    rintro e w1 ⟨rfl, hb1⟩
    have c0' : w1.cell? ⟨c.a, 0, none⟩ = some (.string c.p) := by rw [hb1.cell (by exact ha)]; exact c0
    have HB : Hid (Below w.heap.size w w1) := hb1
    clear hb1 c0 c1
    go_wp2
    go_ret
    exact ⟨rfl, HB.out⟩
  · have e : valAt c k = c.v := by unfold valAt; rw [if_neg hlt]
    rw [e]
    clear e
    go_enter Tryz.func59, Tryz.ntmps59
    go_wp2_with fail
    refine HR.mono ?_
    clear HR
    rintro e w1 ⟨rfl, hb1⟩
    have c0' : w1.cell? ⟨c.a, 0, none⟩ = some (.string c.p) := by rw [hb1.cell (by exact ha)]; exact c0
    have c1' : w1.cell? ⟨c.a, 1, none⟩ = some (.pointer (vptr c.v)) := by rw [hb1.cell (by exact ha)]; exact c1
    have HB : Hid (Below w.heap.size w w1) := hb1
    clear hb1 c0 c1
    go_wp2
    go_ret
    exact ⟨rfl, HB.out⟩
end Go.Proofs.YtpnmkfbdfggnaaaGreat
