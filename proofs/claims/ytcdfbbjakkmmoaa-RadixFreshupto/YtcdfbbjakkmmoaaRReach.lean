import Derived.Test.YtcdfbbjakkmmoaaRNext
/- Layer 3 (radix): along, with whatever closure. -/
namespace Go.Proofs.Ytcdfbbjakkmmoaa
open Go.RowKit
set_option linter.unusedVariables false
variable {R : Rg} {O : Nat → Prop}

theorem along_tat {w : World} {t : Tr} {k : List UInt8} {l : List Tr} (h : Along k t l) (ht : TAt R w t) : ∀ c ∈ l, TAt R w c := by
  induction h with
  | stop h => simpa using ht
  | go h r ih =>
    intro c hc
    rcases List.mem_cons.1 hc with rfl | hc
    · exact ht
    · exact ih (ht.sub' _ (nx_mem h).1) c hc

/-- How much of the key lies beneath the node. -/
def leftOf (k : ByteArray) (n : Value) (w : World) : Nat := match n with
  | .pointer (some a) => match w.cell? a with
    | some (.string s) => k.size + 1 - s.size
    | _ => 0
  | _ => 0
theorem leftOf_at {k : ByteArray} {w : World} {t : Tr} (h : TAt R w t) : leftOf k (.pointer (some ⟨t.a, 0, none⟩)) w = k.size + 1 - t.p.size := by
  obtain ⟨-, -, c0, -, -, -, -, -⟩ := h.cells
  simp [leftOf, c0]

set_option maxRecDepth 100000 in
set_option maxHeartbeats 800000 in
theorem along_calls (fid : Nat) (hcf : ∀ args W, (callFunc fid args).run Try.prog W = .ok (.enter fid args) W) (cv : Value) (t : Tr) (k : ByteArray) (l : List Tr) (I : Nat → World → Prop) (w : World) (hA : Along k.data.toList t l) (hw : WF t) (hp : t.path <+: k.data.toList) (hks : k.size ≤ 140737488351296)
    (h0 : I 0 w) (hI : ∀ i W W', I i W → Below W.heap.size W W' → I i W') (hT : ∀ i W, I i W → TAt R W t)
    (hstep : ∀ i (hi : i < l.length) W, I i W → TAt R W l[i] → Calls Try.prog fid #[.pointer (some ⟨l[i].a, 0, none⟩), cv] W fun e W' => e = .returned (.tuple #[]) ∧ I (i + 1) W') :
    Calls Try.prog 47 #[.pointer (some ⟨t.a, 0, none⟩), .string k, .func (.func fid) #[] #[cv]] w fun e w' => e = .returned (.tuple #[]) ∧ I l.length w' := by
  have hin := hA.inc hw
  have hpre := hA.pre hp
  have hwf := hA.wf hw
  have hst := hA.step
  have htat := fun W (h : TAt R W t) => along_tat hA h
  obtain ⟨r, hr⟩ := hA.head
  have hl0 : 0 < l.length := by rw [hr]; simp
  have hh0 : l[0] = t := by subst hr; rfl
  have H0 : Hid (I 0 w) := h0
  have HI : Hid (∀ i W W', I i W → Below W.heap.size W W' → I i W') := hI
  have HT : Hid (∀ i W, I i W → ∀ c ∈ l, TAt R W c) := fun i W h => htat W (hT i W h)
  have HST : Hid (∀ i (hi : i < l.length), nx l[i] k.data.toList = l[i + 1]?) := hst
  have HIN : Hid ((l.map (·.p.size)).Pairwise (· < ·)) := hin.1
  have HPRE : Hid (∀ c ∈ l, c.path <+: k.data.toList) := hpre
  have HWF : Hid (∀ c ∈ l, WF c) := hwf
  have HS : Hid (∀ i (hi : i < l.length) W, I i W → TAt R W l[i] → Calls Try.prog fid #[.pointer (some ⟨l[i].a, 0, none⟩), cv] W fun e W' => e = .returned (.tuple #[]) ∧ I (i + 1) W') := hstep
  have hh0' : t.a = l[0].a := by rw [hh0]
  rw [hh0']
  clear hin hpre hwf hst htat hr r hh0 hh0' h0 hI hT hA hw hp hstep
  clear t
  go_enter Try.func47, Try.ntmps47
  go_wp2
  go_loopw [0] (fun n wr => ∃ i : Nat, i ≤ l.length ∧ n = .pointer (nptr l[i]?) ∧ Hid (I i wr)) (fun n wr => leftOf k n wr)
  case atStart => exact ⟨0, Nat.zero_le _, by rw [List.getElem?_eq_getElem hl0]; rfl, H0⟩
  case round =>
    obtain ⟨i, hi, rfl, HJ⟩ := hrel
    by_cases hlt : i < l.length
    · rw [List.getElem?_eq_getElem hlt]
      simp only [nptr]
      have hmem := List.getElem_mem hlt
      have HC := HS.out i hlt wr HJ.out (HT.out i wr HJ.out _ hmem)
      have hle : l[i].p.size ≤ k.size := by have := (HPRE.out _ hmem).length_le; rw [path_length] at this; simpa using this
      have HM : Hid (leftOf k (.pointer (some ⟨l[i].a, 0, none⟩)) wr = k.size + 1 - l[i].p.size) := leftOf_at (HT.out i wr HJ.out _ hmem)
      go_wp2_with fail
      refine HC.mono ?_
      clear HC
      rintro e w1 ⟨rfl, hJ1⟩
      have HN := next_calls l[i] k w1 (HT.out _ w1 hJ1 _ hmem) (HWF.out _ hmem) (HPRE.out _ hmem) hks
      rw [HST.out i hlt] at HN
      have HJ1 : Hid (I (i + 1) w1) := hJ1
      clear hJ1 HJ
      go_wp2_with fail
      refine HN.mono ?_
      clear HN
      rintro e w2 ⟨rfl, hb2⟩
      have HJ2 : Hid (I (i + 1) w2) := HI.out _ _ _ HJ1.out hb2
      clear hb2 HJ1
      go_wp2
      go_roundw
      case rel => exact ⟨i + 1, by omega, rfl, HJ2⟩
      case measure =>
        rw [HM.out]
        by_cases h1 : i + 1 < l.length
        · have hlt2 := List.pairwise_iff_getElem.1 HIN.out i (i + 1) (by simpa using hlt) (by simpa using h1) (by omega)
          simp only [List.getElem_map] at hlt2
          rw [List.getElem?_eq_getElem h1]
          simp only [nptr]
          rw [leftOf_at (HT.out _ w2 HJ2.out _ (List.getElem_mem h1))]
          omega
        · rw [List.getElem?_eq_none (by omega)]
          simp only [nptr, leftOf]
          omega
    · have hil : i = l.length := by omega
      subst hil
      rw [List.getElem?_eq_none (Nat.le_refl _)]
      simp only [nptr]
      go_wp2
      go_end0
      exact ⟨rfl, HJ.out⟩
end Go.Proofs.Ytcdfbbjakkmmoaa

/- Layer 3 (radix): reach, way, valueOf. -/
namespace Go.Proofs.Ytcdfbbjakkmmoaa
open Go.RowKit
set_option linter.unusedVariables false
variable {R : Rg} {O : Nat → Prop}

theorem enters_way (args : Array Value) (W : World) : (callFunc 51 args).run Try.prog W = .ok (.enter 51 args) W := by
  have := Try.func51
  go_simp
theorem enters_reach (args : Array Value) (W : World) : (callFunc 64 args).run Try.prog W = .ok (.enter 64 args) W := by
  have := Try.func64
  go_simp

theorem reachK_calls (u : Option Addr) (b : Nat) (x : Value) (w : World) (hb : w.heap[b]? = some (.cells #[x] 35)) :
    Calls Try.prog 64 #[.pointer u, .pointer (some ⟨b, 0, none⟩)] w fun e w' => e = .returned (.tuple #[]) ∧ w' = w.setCell ⟨b, 0, none⟩ (.pointer u) := by
  have c0 : w.cell? ⟨b, 0, none⟩ = some x := by rw [cell_of_blk hb]; rfl
  have z0 : w.frozen? ⟨b, 0, none⟩ = false := frozen_of_blk hb
  clear hb
  go_enter Try.func64, Try.ntmps64
  go_wp2
  go_end0
  exact ⟨rfl, rfl⟩

/-- What reach holds between two nodes. -/
structure RI (w : World) (l : List Tr) (hl : 0 < l.length) (i : Nat) (W : World) : Prop where
  below : Below w.heap.size w W
  box : W.heap[w.heap.size]? = some (.cells #[.pointer (some ⟨(l[i - 1]?.getD l[0]).a, 0, none⟩)] 35)

set_option maxRecDepth 100000 in
theorem reach_calls (t : Tr) (k : ByteArray) (w : World) (init : List Tr) (c : Tr) (hA : Along k.data.toList t (init ++ [c])) (h : TAt R w t) (hw : WF t) (hp : t.path <+: k.data.toList) (hks : k.size ≤ 140737488351296) :
    Calls Try.prog 50 #[.pointer (some ⟨t.a, 0, none⟩), .string k] w fun e w' => e = .returned (.pointer (some ⟨c.a, 0, none⟩)) ∧ Below w.heap.size w w' := by
  have hmf : ∀ (fn : Fn) (first cap : Array Value) (w : World), (Instr.makeFunc fn first cap).run Try.prog w = .ok (.func fn first cap) w := fun _ _ _ _ => rfl
  have hl : 0 < (init ++ [c]).length := by simp
  have hh0 : (init ++ [c])[0] = t := by obtain ⟨r, hr⟩ := hA.head; simp only [hr]; rfl
  obtain ⟨w1, HW1⟩ : ∃ w1, Hid (w1 = w.alloc (.cells #[.pointer (some ⟨t.a, 0, none⟩)] 35)) := ⟨_, rfl⟩
  have hb1 : Below w.heap.size w w1 := by rw [HW1.out]; exact (Below.refl _ _).alloc (Nat.le_refl _) _
  have hbox : w1.heap[w.heap.size]? = some (.cells #[.pointer (some ⟨t.a, 0, none⟩)] 35) := by rw [HW1.out]; exact heap_alloc_new w _
  have HA := along_calls 64 enters_reach (.pointer (some ⟨w.heap.size, 0, none⟩)) t k (init ++ [c]) (RI w (init ++ [c]) hl) w1 hA hw hp hks
    ⟨hb1, by rw [hbox]; simp [hh0]⟩
    (fun i W W' hi hb => ⟨hi.below.trans (hb.mono hi.below.size), by rw [hb.block _ (lt_of_heap hi.box)]; exact hi.box⟩)
    (fun i W hi => h.keep hi.below)
    (fun i hi W hI _ => (reachK_calls _ _ _ W hI.box).mono (by
      rintro e W' ⟨rfl, rfl⟩
      refine ⟨rfl, hI.below.setCell (Nat.le_refl _) _, ?_⟩
      rw [setCell_blk hI.box]
      simp [List.getElem?_eq_getElem hi]))
  clear hA h hw hp hbox hb1
  go_enter Try.func50, Try.ntmps50
  go_wp2_with fail
  rw [← HW1.out]
  refine HA.mono ?_
  clear HA
  rintro e w2 ⟨rfl, hI⟩
  have c0 : w2.cell? ⟨w.heap.size, 0, none⟩ = some (.pointer (some ⟨c.a, 0, none⟩)) := by rw [cell_of_blk hI.box]; simp
  have HB : Hid (Below w.heap.size w w2) := hI.below
  clear hI
  go_wp2
  go_ret
  exact ⟨rfl, HB.out⟩

/-- The value of k at the last node along it. -/
def valAt (c : Tr) (k : ByteArray) : Option Vl := if c.p.size < k.size then none else c.v

theorem valueOf_calls (t : Tr) (k : ByteArray) (w : World) (init : List Tr) (c : Tr) (hA : Along k.data.toList t (init ++ [c])) (h : TAt R w t) (hw : WF t) (hp : t.path <+: k.data.toList) (hks : k.size ≤ 140737488351296) :
    Calls Try.prog 28 #[.pointer (some ⟨t.a, 0, none⟩), .string k] w fun e w' => e = .returned (.pointer (vptr (valAt c k))) ∧ Below w.heap.size w w' := by
  have HR := reach_calls t k w init c hA h hw hp hks
  have hT := along_tat hA h c (by simp)
  obtain ⟨ao, cap, c0, c1, -, -, -, -⟩ := hT.cells
  have hpz := hT.psz'
  have ha := hT.lt
  clear hA h hw hp hT
  by_cases hlt : c.p.size < k.size
  · have e : valAt c k = none := by unfold valAt; rw [if_pos hlt]
    rw [e]
    clear e
    simp only [vptr]
    go_enter Try.func28, Try.ntmps28
    go_wp2_with fail
    refine HR.mono ?_
    clear HR
    rintro e w1 ⟨rfl, hb1⟩
    have c0' : w1.cell? ⟨c.a, 0, none⟩ = some (.string c.p) := by rw [hb1.cell (by exact ha)]; exact c0
    have HB : Hid (Below w.heap.size w w1) := hb1
    clear hb1 c0 c1
    go_wp2
    go_ret
    exact ⟨rfl, HB.out⟩
  · have e : valAt c k = c.v := by unfold valAt; rw [if_neg hlt]
    rw [e]
    clear e
    go_enter Try.func28, Try.ntmps28
    go_wp2_with fail
    refine HR.mono ?_
    clear HR
    rintro e w1 ⟨rfl, hb1⟩
    have c0' : w1.cell? ⟨c.a, 0, none⟩ = some (.string c.p) := by rw [hb1.cell (by exact ha)]; exact c0
    have c1' : w1.cell? ⟨c.a, 1, none⟩ = some (.pointer (vptr c.v)) := by rw [hb1.cell (by exact ha)]; exact c1
    have HB : Hid (Below w.heap.size w w1) := hb1
    clear hb1 c0 c1
    go_wp2
    go_ret
    exact ⟨rfl, HB.out⟩
end Go.Proofs.Ytcdfbbjakkmmoaa
