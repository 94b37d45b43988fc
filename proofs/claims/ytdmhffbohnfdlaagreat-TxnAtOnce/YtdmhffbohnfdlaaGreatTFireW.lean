/- Layer 3 (radix): Fire, the walk. -/
import Derived.Test.YtdmhffbohnfdlaaGreatTFire
import Derived.Test.YtdmhffbohnfdlaaGreatRReach
namespace Go.Proofs.YtdmhffbohnfdlaaGreat
open Go.RowKit
set_option linter.unusedVariables false

theorem touched_frd {W W' : World} {g cb : Nat} {f : Bool} (hw : WAt W g (g - 1) f) (ht : Touched [g, g - 1] W W') (hw' : WAt W' g (g - 1) true) : Frd (fun b => b = cb) W W' :=
  ⟨ht.os, ht.tape, ht.output, ht.size, fun k o hk hp _ => (ht.block k (lt_of_heap hk) (by
    simp only [List.mem_cons, List.not_mem_nil, or_false, not_or]
    refine ⟨fun e => ?_, fun e => ?_⟩
    · subst e; rw [hw.blk] at hk; cases hk; exact hp.wat _ _ rfl
    · subst e; rw [hw.chn] at hk; cases hk; exact hp.chn _ _ _ _ _ _ rfl)).trans hk, fun g' hg' => hg'.fired hw ht hw'⟩
theorem touched_oth {W W' : World} {g g' : Nat} {f f' : Bool} (hw : WAt W g (g - 1) f) (ht : Touched [g, g - 1] W W') (hne : g' ≠ g) (h : WAt W g' (g' - 1) f') : WAt W' g' (g' - 1) f' := by
  have h1 : g' ≠ g - 1 := h.ne hw
  have h2 : g ≠ g' - 1 := hw.ne h
  have hb0 : g ≠ g - 1 := hw.ne hw
  have hg0 : g' ≠ g' - 1 := h.ne h
  exact h.touched ht (by simp; omega) (by simp; omega)

set_option maxRecDepth 100000 in
set_option maxHeartbeats 2000000 in
/-- The closure that fires one watch and counts. -/
theorem fire1_calls (g cb : Nat) (n : Int) (f : Bool) (W : World) (hw : WAt W g (g - 1) f) (hc : W.heap[cb]? = some (.cells #[.int .i64 n] 3)) (hn : 0 ≤ n ∧ n < 4611686018427387904) :
    Calls Tryz.prog 148 #[.pointer (some ⟨g, 0, none⟩), .pointer (some ⟨cb, 0, none⟩)] W fun e W' => e = .returned (.tuple #[]) ∧ OneF g cb n f W W' := by
  have HFC := fire_calls g (g - 1) f W hw
  have HW : Hid (WAt W g (g - 1) f) := hw
  have HC : Hid (W.heap[cb]? = some (.cells #[.int .i64 n] 3)) := hc
  clear hw hc
  go_enter Tryz.func148, Tryz.ntmps148
  cases f
  · go_wp2_with fail
    refine HFC.mono ?_
    clear HFC
    rintro e w1 ⟨rfl, ht, hw1⟩
    have hF := touched_frd (cb := cb) HW.out ht hw1
    have hFn := touched_frd (cb := w1.heap.size) HW.out ht hw1
    have c1 : w1.heap[cb]? = some (.cells #[.int .i64 n] 3) := by
      refine (ht.block cb (lt_of_heap HC.out) ?_).trans HC.out
      simp only [List.mem_cons, List.not_mem_nil, or_false, not_or]
      refine ⟨fun e => ?_, fun e => ?_⟩
      · have := HC.out; rw [e, HW.out.blk] at this; simp at this
      · have := HC.out; rw [e, HW.out.chn] at this; cases this
    have k1 : w1.cell? ⟨cb, 0, none⟩ = some (.int .i64 n) := by rw [cell_of_blk c1]; rfl
    have z1 : w1.frozen? ⟨cb, 0, none⟩ = false := frozen_of_blk c1
    have HO : Hid (OneF g cb n false W (w1.setCell ⟨cb, 0, none⟩ (.int .i64 (n + 1)))) := by
      refine ⟨⟨hF.os, hF.tape, hF.output, by simpa using hF.size, fun k o hk hp hx => (heap_setCell_other _ _ _ _ hx).trans (hF.block k o hk hp hx), fun g' hg' => ?_⟩, hw1.aside c1 (by decide) _, fun g' f' hne h => (touched_oth HW.out ht hne h).aside c1 (by decide) _, by rw [setCell_blk c1]; rfl, (ht.weaken (by simp)).setCell _ _ (.inl (by simp))⟩
      obtain ⟨f', h', -⟩ := hF.wat g' hg'
      exact ⟨f', h'.aside c1 (by decide) _, fun _ => trivial⟩
    clear ht hw1 hF hFn c1
    go_wp2
    go_end0
    exact ⟨rfl, HO.out⟩
  · go_wp2_with fail
    refine HFC.mono ?_
    clear HFC
    rintro e w1 ⟨rfl, ht, hw1⟩
    have c1 : w1.heap[cb]? = some (.cells #[.int .i64 n] 3) := by
      refine (ht.block cb (lt_of_heap HC.out) ?_).trans HC.out
      simp only [List.mem_cons, List.not_mem_nil, or_false, not_or]
      refine ⟨fun e => ?_, fun e => ?_⟩
      · have := HC.out; rw [e, HW.out.blk] at this; simp at this
      · have := HC.out; rw [e, HW.out.chn] at this; cases this
    have HO : Hid (OneF g cb n true W w1) := ⟨touched_frd HW.out ht hw1, hw1, fun g' f' hne h => touched_oth HW.out ht hne h, by rw [c1]; simp, ht.weaken (by simp)⟩
    clear ht hw1 c1
    go_wp2
    go_end0
    exact ⟨rfl, HO.out⟩

/-- The watches that one node of a key's way adds. -/
def wayN (k : ByteArray) (t : Tr) : List Nat := t.g :: (match t.v with | some v => if t.p.size = k.size then [v.g] else [] | none => [])

/-- The boxes that the closures share. -/
structure FBox (fb kb cb : Nat) (k : ByteArray) (W : World) : Prop where
  fn : W.heap[fb]? = some (.cells #[.func (.func 148) #[] #[.pointer (some ⟨cb, 0, none⟩)]] 228)
  key : W.heap[kb]? = some (.cells #[.string k] 9)
theorem FBox.frd {fb kb cb : Nat} {k : ByteArray} {W W' : World} {c : Nat} {n : Int} (h : FBox fb kb cb k W) (hf : Frd (fun b => b = c) W W') (hc : W.heap[c]? = some (.cells #[.int .i64 n] 3)) : FBox fb kb cb k W' :=
  ⟨hf.block _ _ h.fn (.cells (by decide)) (fun e => by have := h.fn; rw [e, hc] at this; simp at this), hf.block _ _ h.key (.cells (by decide)) (fun e => by have := h.key; rw [e, hc] at this; simp at this)⟩
theorem FBox.below {fb kb cb : Nat} {k : ByteArray} {W W' : World} (h : FBox fb kb cb k W) (hb : Below W.heap.size W W') : FBox fb kb cb k W' := ⟨(hb.block _ (lt_of_heap h.fn)).trans h.fn, (hb.block _ (lt_of_heap h.key)).trans h.key⟩

section
variable {o : Oper} {a : Act} {W : World} {K : Act → World → Prop} {Q : Exit → Act → World → Prop}
theorem f_nilF {x : Operand} {p : Addr} (ho : o.op = .nilCheck x) (hx : a.eval x = .pointer (some p)) (h : K (a.put o.dst (.pointer (some p))) W) : o.wp Tryz.prog a W K Q :=
  wp_valF (v := .pointer (some p)) (by unfold execOp; simp only [ho, hx]; simp [go_sem]) h
theorem f_fldN3 {x : Operand} {g : Nat} (ho : o.op = .fieldAddr 132 x 3) (hx : a.eval x = .pointer (some ⟨g, 0, none⟩)) (h : K (a.put o.dst (.pointer (some ⟨g, 3, none⟩))) W) : o.wp Tryz.prog a W K Q :=
  wp_valF (v := .pointer (some ⟨g, 3, none⟩)) (by unfold execOp; simp only [ho, hx]; go_simp) h
theorem f_fldN1 {x : Operand} {g : Nat} (ho : o.op = .fieldAddr 132 x 1) (hx : a.eval x = .pointer (some ⟨g, 0, none⟩)) (h : K (a.put o.dst (.pointer (some ⟨g, 1, none⟩))) W) : o.wp Tryz.prog a W K Q :=
  wp_valF (v := .pointer (some ⟨g, 1, none⟩)) (by unfold execOp; simp only [ho, hx]; go_simp) h
theorem f_fldV1 {x : Operand} {g : Nat} (ho : o.op = .fieldAddr 150 x 1) (hx : a.eval x = .pointer (some ⟨g, 0, none⟩)) (h : K (a.put o.dst (.pointer (some ⟨g, 1, none⟩))) W) : o.wp Tryz.prog a W K Q :=
  wp_valF (v := .pointer (some ⟨g, 1, none⟩)) (by unfold execOp; simp only [ho, hx]; go_simp) h
theorem f_loadPW {x : Operand} {p k : Nat} {s : Option Addr} (ho : o.op = .load 78 x) (hx : a.eval x = .pointer (some ⟨p, k, none⟩)) (hc : W.cell? ⟨p, k, none⟩ = some (.pointer s)) (h : K (a.put o.dst (.pointer s)) W) : o.wp Tryz.prog a W K Q :=
  wp_valF (v := .pointer s) (by unfold execOp; simp only [ho, hx]; simp [hc, go_sem]) h
theorem f_loadPV {x : Operand} {p k : Nat} {s : Option Addr} (ho : o.op = .load 127 x) (hx : a.eval x = .pointer (some ⟨p, k, none⟩)) (hc : W.cell? ⟨p, k, none⟩ = some (.pointer s)) (h : K (a.put o.dst (.pointer s)) W) : o.wp Tryz.prog a W K Q :=
  wp_valF (v := .pointer s) (by unfold execOp; simp only [ho, hx]; simp [hc, go_sem]) h
theorem f_loadFn {x : Operand} {p : Nat} {v : Value} (ho : o.op = .load 228 x) (hx : a.eval x = .pointer (some ⟨p, 0, none⟩)) (hc : W.cell? ⟨p, 0, none⟩ = some v) (h : K (a.put o.dst v) W) : o.wp Tryz.prog a W K Q :=
  wp_valF (v := v) (by unfold execOp; simp only [ho, hx]; simp [hc, go_sem]) h
end

set_option maxRecDepth 100000 in
set_option maxHeartbeats 4000000 in
/-- The closure that looks at one node of a key's way. -/
theorem fire2_calls (w : World) (fb kb cb : Nat) (k : ByteArray) (gs : List Nat) (t : Tr) (W : World) (hI : FireI w cb gs W) (hB : FBox fb kb cb k W) (h0 : TAt nR w t) (hN : (newly w gs).length + 4 < 4611686018427387904) (hks : k.size ≤ 140737488351296) :
    Calls Tryz.prog 150 #[.pointer (some ⟨t.a, 0, none⟩), .pointer (some ⟨fb, 0, none⟩), .pointer (some ⟨kb, 0, none⟩)] W fun e W' => e = .returned (.tuple #[]) ∧ FireI w cb (gs ++ wayN k t) W' ∧ FBox fb kb cb k W' := by
  have hTW : TAt nR W t := h0.frd hI.frd (fun b e => e.elim)
  have hwg : Wc anyO w t.g := by cases h0; assumption
  have HN : Hid ((newly w gs).length + 4 < 4611686018427387904) := hN
  have HI : Hid (FireI w cb gs W) := hI
  have HB : Hid (FBox fb kb cb k W) := hB
  have HT0 : Hid (TAt nR w t) := h0
  have HTW : Hid (∀ W1, Below W.heap.size W W1 → TAt nR W1 t) := fun W1 hb => hTW.keep hb
  have HWG : Hid (Wc anyO w t.g) := hwg
  clear hI hB h0 hTW hwg hN
  go_enter Tryz.func150, Tryz.ntmps150
  go_wp2_with fail
  refine wp_region_inv 5 (fun i v W1 => match i with
    | 0 => v = .func (.func 148) #[] #[.pointer (some ⟨cb, 0, none⟩)]
    | 1 => v = .pointer (some ⟨t.a, 0, none⟩)
    | 2 => v = .pointer (some ⟨t.a, 0, none⟩)
    | 3 => v = .pointer (some ⟨t.a, 3, none⟩)
    | 4 => v = .pointer (some ⟨t.g, 0, none⟩)
    | _ => False) (by kernel_rfl) (by kernel_rfl) (by kernel_rfl) [some 4, some 5, some 6, some 7, some 8] (by kernel_rfl) ?mono ?hop ?tail
  case mono => exact fun i v W W' h _ => h
  case hop =>
    intro i o hi ho a W1 hB1 hs hd
    match i, hi, ho, hd with
    | 0, _, ho, hd =>
      obtain rfl := Option.some.inj ho
      exact f_loadFn rfl ((hs 1 (by kernel_rfl)).trans rfl) (by rw [cell_of_blk (HB.out.below hB1).fn]; rfl) ⟨_, rfl, rfl, Below.refl _ _⟩
    | 1, _, ho, hd =>
      obtain rfl := Option.some.inj ho
      exact f_move rfl ((hs 0 (by kernel_rfl)).trans rfl) ⟨_, rfl, rfl, Below.refl _ _⟩
    | 2, _, ho, hd =>
      obtain rfl := Option.some.inj ho
      exact f_nilF rfl (hd 1 5 (by kernel_rfl) (by kernel_rfl)) ⟨_, rfl, rfl, Below.refl _ _⟩
    | 3, _, ho, hd =>
      obtain rfl := Option.some.inj ho
      exact f_fldN3 rfl (hd 2 6 (by kernel_rfl) (by kernel_rfl)) ⟨_, rfl, rfl, Below.refl _ _⟩
    | 4, _, ho, hd =>
      obtain rfl := Option.some.inj ho
      exact f_loadPW rfl (hd 3 7 (by kernel_rfl) (by kernel_rfl)) (by obtain ⟨_, _, -, -, -, c3, -⟩ := (HTW.out W1 hB1).cells; exact c3) ⟨_, rfl, rfl, Below.refl _ _⟩
    | k + 5, hi, _, _ => exact absurd hi (by omega)
  case tail =>
    intro vs W1 hB1 hR
    have r0 : vs 0 = .func (.func 148) #[] #[.pointer (some ⟨cb, 0, none⟩)] := hR 0 (by decide)
    have r4 : vs 4 = .pointer (some ⟨t.g, 0, none⟩) := hR 4 (by decide)
    have hI1 := HI.out.below hB1
    have hB2 := HB.out.below hB1
    have hnl := newly_le w gs
    have hn0 := HN.out
    have HF1 := fire1_calls t.g cb _ _ W1 (hI1.flg t.g HWG.out) hI1.cnt ⟨by omega, by omega⟩
    have HI1 : Hid (FireI w cb gs W1 ∧ FBox fb kb cb k W1) := ⟨hI1, hB2⟩
    clear hR hB1 hI1 hB2 HI HB hnl hn0
    simp only [putL, put_lit, List.setIfInBounds_toArray, List.set_cons_succ, List.set_cons_zero, List.drop_succ_cons, List.drop_zero]
    rw [r0, r4]
    go_wp2_with fail
    refine HF1.mono ?_
    clear HF1
    rintro e W2 ⟨rfl, hO⟩
    have hI2 := HI1.out.1.step HWG.out hO
    have hB2 := HI1.out.2.frd hO.frd HI1.out.1.cnt
    have hT2 : TAt nR W2 t := HT0.out.frd hI2.frd (fun b e => e.elim)
    obtain ⟨ao, cap, p0, p1, -, -, -⟩ := hT2.cells
    have kc : W2.cell? ⟨kb, 0, none⟩ = some (.string k) := by rw [cell_of_blk hB2.key]; rfl
    have hps := hT2.psz'
    have HI2 : Hid (FireI w cb (gs ++ [t.g]) W2 ∧ FBox fb kb cb k W2) := ⟨hI2, hB2⟩
    have HT2 : Hid (TAt nR W2 t) := hT2
    clear hO hI2 hB2 HI1 hT2 r0 r4
    cases hv : t.v with
    | none =>
      rw [hv] at p1
      simp only [vptr] at p1
      have HW : Hid (gs ++ wayN k t = gs ++ [t.g]) := by show _ = _; unfold wayN; rw [hv]
      go_wp2_with fail
      go_quiet (fail)
      go_wp2
      go_end0
      rw [HW.out]
      exact ⟨rfl, HI2.out.1.below (drawn_below W2 nq), HI2.out.2.below (drawn_below W2 nq)⟩
    | some v =>
      rw [hv] at p1
      simp only [vptr] at p1
      have hva : VAt anyO W2 v := HT2.out.val' v hv
      have hva0 : VAt anyO w v := HT0.out.val' v hv
      have HV : Hid (∀ W3, Below W2.heap.size W2 W3 → TAt nR W3 t ∧ VAt anyO W3 v) := fun W3 hb => ⟨HT2.out.keep hb, hva.below hb⟩
      have HVW : Hid (Wc anyO w v.g) := hva0.wat
      have HVV : Hid (t.v = some v) := hv
      have hvn : (binOp .neq 127 (.pointer (some ⟨v.a, 0, none⟩)) (.pointer none)).run Tryz.prog W2 = .ok (.bool true) W2 := by simp [go_sem]
      clear hva hva0 hv
      by_cases hsz : t.p.size = k.size
      · have HW : Hid (gs ++ wayN k t = (gs ++ [t.g]) ++ [v.g]) := by show _ = _; unfold wayN; rw [HVV.out]; simp [hsz]
        have hse : ((t.p.size : Int) == (k.size : Int)) = true := by simp; omega
        have hse2 : (t.p.size : Int) = (k.size : Int) := by omega
        go_wp2_with fail
        go_quiet (fail)
        obtain ⟨W3, HW3⟩ : ∃ W3, Hid (W3 = W2.drewN nq) := ⟨_, rfl⟩
        have hb3 : Below W2.heap.size W2 W3 := by rw [HW3.out]; exact drawn_below _ _
        have HI3 : Hid (FireI w cb (gs ++ [t.g]) W3 ∧ FBox fb kb cb k W3) := ⟨HI2.out.1.below hb3, HI2.out.2.below hb3⟩
        have HV3 : Hid (∀ W4, Below W3.heap.size W3 W4 → TAt nR W4 t ∧ VAt anyO W4 v) := fun W4 hb => HV.out W4 (hb3.trans (hb.mono hb3.size))
        clear hb3 p0 p1 kc hvn
        go_wp2_with fail
        rw [← HW3.out]
        clear HW3
        refine wp_region_inv 8 (fun i v' W1 => match i with
          | 0 => v' = .func (.func 148) #[] #[.pointer (some ⟨cb, 0, none⟩)]
          | 1 => v' = .pointer (some ⟨t.a, 0, none⟩)
          | 2 => v' = .pointer (some ⟨t.a, 0, none⟩)
          | 3 => v' = .pointer (some ⟨t.a, 1, none⟩)
          | 4 => v' = .pointer (some ⟨v.a, 0, none⟩)
          | 5 => v' = .pointer (some ⟨v.a, 0, none⟩)
          | 6 => v' = .pointer (some ⟨v.a, 1, none⟩)
          | 7 => v' = .pointer (some ⟨v.g, 0, none⟩)
          | _ => False) (by kernel_rfl) (by kernel_rfl) (by kernel_rfl) [some 25, some 26, some 27, some 28, some 29, some 30, some 31, some 32] (by kernel_rfl) ?mono2 ?hop2 ?tail2
        case mono2 => exact fun i v W W' h _ => h
        case hop2 =>
          intro i o hi ho a W1 hB1 hs hd
          match i, hi, ho, hd with
          | 0, _, ho, hd =>
            obtain rfl := Option.some.inj ho
            exact f_loadFn rfl ((hs 1 (by kernel_rfl)).trans rfl) (by rw [cell_of_blk (HI3.out.2.below hB1).fn]; rfl) ⟨_, rfl, rfl, Below.refl _ _⟩
          | 1, _, ho, hd =>
            obtain rfl := Option.some.inj ho
            exact f_move rfl ((hs 0 (by kernel_rfl)).trans rfl) ⟨_, rfl, rfl, Below.refl _ _⟩
          | 2, _, ho, hd =>
            obtain rfl := Option.some.inj ho
            exact f_nilF rfl (hd 1 26 (by kernel_rfl) (by kernel_rfl)) ⟨_, rfl, rfl, Below.refl _ _⟩
          | 3, _, ho, hd =>
            obtain rfl := Option.some.inj ho
            exact f_fldN1 rfl (hd 2 27 (by kernel_rfl) (by kernel_rfl)) ⟨_, rfl, rfl, Below.refl _ _⟩
          | 4, _, ho, hd =>
            obtain rfl := Option.some.inj ho
            exact f_loadPV rfl (hd 3 28 (by kernel_rfl) (by kernel_rfl)) (by obtain ⟨_, _, -, c1, -⟩ := (HV3.out W1 hB1).1.cells; rw [HVV.out] at c1; exact c1) ⟨_, rfl, rfl, Below.refl _ _⟩
          | 5, _, ho, hd =>
            obtain rfl := Option.some.inj ho
            exact f_nilF rfl (hd 4 29 (by kernel_rfl) (by kernel_rfl)) ⟨_, rfl, rfl, Below.refl _ _⟩
          | 6, _, ho, hd =>
            obtain rfl := Option.some.inj ho
            exact f_fldV1 rfl (hd 5 30 (by kernel_rfl) (by kernel_rfl)) ⟨_, rfl, rfl, Below.refl _ _⟩
          | 7, _, ho, hd =>
            obtain rfl := Option.some.inj ho
            exact f_loadPW rfl (hd 6 31 (by kernel_rfl) (by kernel_rfl)) (by rw [cell_of_blk (HV3.out W1 hB1).2.blk]; rfl) ⟨_, rfl, rfl, Below.refl _ _⟩
          | k + 8, hi, _, _ => exact absurd hi (by omega)
        case tail2 =>
          intro vs W4 hB4 hR
          have r0 : vs 0 = .func (.func 148) #[] #[.pointer (some ⟨cb, 0, none⟩)] := hR 0 (by decide)
          have r7 : vs 7 = .pointer (some ⟨v.g, 0, none⟩) := hR 7 (by decide)
          have hI4 := HI3.out.1.below hB4
          have hB5 := HI3.out.2.below hB4
          have hnl : (newly w (gs ++ [t.g])).length ≤ (newly w gs).length + 1 := by rw [newly_snoc]; split <;> omega
          have hn0 := HN.out
          have HF1 := fire1_calls v.g cb _ _ W4 (hI4.flg v.g HVW.out) hI4.cnt ⟨by omega, by omega⟩
          have HI4 : Hid (FireI w cb (gs ++ [t.g]) W4 ∧ FBox fb kb cb k W4) := ⟨hI4, hB5⟩
          clear hR hB4 hI4 hB5 HI3 HI2 hnl hn0
          simp only [putL, put_lit, List.setIfInBounds_toArray, List.set_cons_succ, List.set_cons_zero, List.drop_succ_cons, List.drop_zero]
          rw [r0, r7]
          go_wp2_with fail
          refine HF1.mono ?_
          clear HF1
          rintro e W5 ⟨rfl, hO⟩
          have HI5 : Hid (FireI w cb ((gs ++ [t.g]) ++ [v.g]) W5 ∧ FBox fb kb cb k W5) := ⟨HI4.out.1.step HVW.out hO, HI4.out.2.frd hO.frd HI4.out.1.cnt⟩
          clear hO
          go_wp2
          go_end0
          rw [HW.out]
          exact ⟨rfl, HI5.out.1, HI5.out.2⟩
      · have HW : Hid (gs ++ wayN k t = gs ++ [t.g]) := by show _ = _; unfold wayN; rw [HVV.out]; simp [hsz]
        have hse : ((t.p.size : Int) == (k.size : Int)) = false := by simp; omega
        have hse2 : ¬ (t.p.size : Int) = (k.size : Int) := by omega
        go_wp2_with fail
        go_quiet (fail)
        go_wp2
        go_end0
        rw [HW.out]
        exact ⟨rfl, HI2.out.1.below (drawn_below W2 nq), HI2.out.2.below (drawn_below W2 nq)⟩

/-- The watches on the keys' ways. -/
def wayK (k : ByteArray) (l : List Tr) : List Nat := l.flatMap (wayN k)
theorem wayK_take (k : ByteArray) (l : List Tr) (i : Nat) (hi : i < l.length) : wayK k (l.take (i + 1)) = wayK k (l.take i) ++ wayN k l[i] := by
  unfold wayK
  rw [List.take_succ_eq_append_getElem hi, List.flatMap_append]
  simp
theorem wayN_len (k : ByteArray) (t : Tr) : (wayN k t).length ≤ 2 := by
  unfold wayN
  split
  · split <;> simp
  · simp
theorem wayK_len (k : ByteArray) (l : List Tr) : (wayK k l).length ≤ l.length * 2 := by
  unfold wayK
  induction l with
  | nil => simp
  | cons t l ih => rw [List.flatMap_cons, List.length_append, List.length_cons]; have := wayN_len k t; omega

theorem enters_fire2 : ∀ (args : Array Value) (W : World), (callFunc 150 args).run Tryz.prog W = .ok (.enter 150 args) W := fun args W => by go_simp

/-- One key's way is fired. -/
theorem fireAlong_calls (w : World) (fb kb cb : Nat) (k : ByteArray) (gs : List Nat) (t : Tr) (l : List Tr) (W : World) (hA : Along k.data.toList t l) (hI : FireI w cb gs W) (hB : FBox fb kb cb k W) (h0 : TAt nR w t) (hw : WF t) (hp : t.path <+: k.data.toList) (hks : k.size ≤ 140737488351296) (hN : ∀ i, i ≤ l.length → (newly w (gs ++ wayK k (l.take i))).length + 4 < 4611686018427387904) :
    Calls Tryz.prog 86 #[.pointer (some ⟨t.a, 0, none⟩), .string k, .func (.func 150) #[] #[.pointer (some ⟨fb, 0, none⟩), .pointer (some ⟨kb, 0, none⟩)]] W fun e W' => e = .returned (.tuple #[]) ∧ FireI w cb (gs ++ wayK k l) W' ∧ FBox fb kb cb k W' := by
  refine (along2_calls (R := nR) 150 enters_fire2 _ _ t k l (fun i W => FireI w cb (gs ++ wayK k (l.take i)) W ∧ FBox fb kb cb k W) W hA hw hp hks ⟨by simpa [wayK] using hI, hB⟩
    (fun i W W' h hb => ⟨h.1.below hb, h.2.below hb⟩) (fun i W h => h0.frd h.1.frd (fun b e => e.elim)) (fun i hi W h _ => ?_)).mono ?_
  · refine (fire2_calls w fb kb cb k (gs ++ wayK k (l.take i)) l[i] W h.1 h.2 (along_tat hA h0 _ (List.getElem_mem hi)) (hN i (by omega)) hks).mono ?_
    rintro e W' ⟨rfl, h1, h2⟩
    refine ⟨rfl, ?_, h2⟩
    rw [wayK_take k l i hi, ← List.append_assoc]
    exact h1
  · rintro e W' ⟨rfl, h1, h2⟩
    rw [List.take_length] at h1
    exact ⟨rfl, h1, h2⟩
end Go.Proofs.YtdmhffbohnfdlaaGreat
