/- Layer 6 (schema): Parse's deferred closure; Parse. -/
import Derived.Test.YtbpmahchinblhaaDoorSReadP
import Derived.RegionTactic
import Derived.BigRegion
namespace Go.Proofs.YtbpmahchinblhaaDoor
open Go.RowKit
set_option linter.unusedVariables false

theorem assert_fault (W : World) (v : Value) : (Instr.typeAssert (.iface 50 v) 20 50 true).run Tryd.prog W = .ok (.tuple #[v, .bool true]) W := by kernel_rfl

set_option maxRecDepth 100000 in
set_option maxHeartbeats 2000000 in
theorem catch_do (p : Nat) (ln err : Int) (older : List PanicEntry) (w : World) (h0 : w.heap[p]? = some (.cells #[.slice none 0 0] 25)) (h1 : w.heap[p + 1]? = some (.cells #[.int .i64 0] 3)) (h2 : w.heap[p + 2]? = some (.cells #[.int .i64 0] 28)) :
    CallsD Tryd.prog 13 #[.pointer (some ⟨p, 0, none⟩), .pointer (some ⟨p + 1, 0, none⟩), .pointer (some ⟨p + 2, 0, none⟩)] (.panicking ({ v := faultV ln err, recovered := false } :: older)) w fun e u' w' =>
      e = .returned (.tuple #[]) ∧ u' = .panicking ({ v := faultV ln err, recovered := true } :: older) ∧ Below p w w' ∧ w'.heap[p]? = some (.cells #[.slice none 0 0] 25) ∧ w'.heap[p + 1]? = some (.cells #[.int .i64 ln] 3) ∧ w'.heap[p + 2]? = some (.cells #[.int .i64 err] 28) := by
  have hta : ∀ (v : Value) (W : World), (Instr.typeAssert (.iface 50 v) 20 50 true).run Tryd.prog W = .ok (.tuple #[v, .bool true]) W := fun v W => assert_fault W v
  have c0 : w.cell? ⟨p, 0, none⟩ = some (.slice none 0 0) := by rw [cell_blk h0]; rfl
  have c1 : w.cell? ⟨p + 1, 0, none⟩ = some (.int .i64 0) := by rw [cell_blk h1]; rfl
  have c2 : w.cell? ⟨p + 2, 0, none⟩ = some (.int .i64 0) := by rw [cell_blk h2]; rfl
  have z0 : w.frozen? ⟨p, 0, none⟩ = false := frozen_blk h0
  have z1 : w.frozen? ⟨p + 1, 0, none⟩ = false := frozen_blk h1
  have z2 : w.frozen? ⟨p + 2, 0, none⟩ = false := frozen_blk h2
  have l0 : p < w.heap.size := lt_blk h0
  have l1 : p + 1 < w.heap.size := lt_blk h1
  have l2 : p + 2 < w.heap.size := lt_blk h2
  have H0 : Hid (w.heap[p]? = some (.cells #[.slice none 0 0] 25)) := h0
  have H1 : Hid (w.heap[p + 1]? = some (.cells #[.int .i64 0] 3)) := h1
  have H2 : Hid (w.heap[p + 2]? = some (.cells #[.int .i64 0] 28)) := h2
  clear h0 h1 h2
  refine callsD_of_wpS Tryd.func13 rfl fun c₀ cs hu => ?_
  apply wpS_seq
  apply wpS_region
  simp [wpOpsS, go_sem, recoverD, hu, Tryd.ntmps13, Exit.thenS]
  refine wpS_of_wp ?_
  have hfr : (#[Value.pointer (some ⟨p, 0, none⟩), .pointer (some ⟨p + 1, 0, none⟩), .pointer (some ⟨p + 2, 0, none⟩)] ++ (Array.replicate 14 undef).setIfInBounds 3 (faultV ln err)) = #[.pointer (some ⟨p, 0, none⟩), .pointer (some ⟨p + 1, 0, none⟩), .pointer (some ⟨p + 2, 0, none⟩), undef, undef, undef, faultV ln err, undef, undef, undef, undef, undef, undef, undef, undef, undef, undef] := rfl
  rw [hfr]
  clear hfr
  unfold faultV
  go_wp2
  obtain ⟨w2, hw2⟩ : ∃ w2, w2 = w.alloc (.cells #[.int .i64 ln, .int .i64 err] 50) := ⟨_, rfl⟩
  obtain ⟨fb, hfb⟩ : ∃ fb, fb = w.heap.size := ⟨_, rfl⟩
  rw [← hw2, ← hfb]
  have hb2 : Below w.heap.size w w2 := hw2 ▸ (Below.refl _ _).alloc (Nat.le_refl _) _
  have HF : Hid (w2.heap[fb]? = some (.cells #[.int .i64 ln, .int .i64 err] 50)) := by rw [Hid, hfb, hw2]; exact new_blk _ _
  have f0 : w2.cell? ⟨fb, 0, none⟩ = some (.int .i64 ln) := by rw [cell_blk HF.out]; rfl
  have f1 : w2.cell? ⟨fb, 1, none⟩ = some (.int .i64 err) := by rw [cell_blk HF.out]; rfl
  have n0 : ¬ fb = p := by omega
  have n1 : ¬ fb = p + 1 := by omega
  have n2 : ¬ fb = p + 2 := by omega
  have G0 : Hid (w2.heap[p]? = some (.cells #[.slice none 0 0] 25)) := (hb2.block _ l0).trans H0.out
  have G1 : Hid (w2.heap[p + 1]? = some (.cells #[.int .i64 0] 3)) := (hb2.block _ l1).trans H1.out
  have G2 : Hid (w2.heap[p + 2]? = some (.cells #[.int .i64 0] 28)) := (hb2.block _ l2).trans H2.out
  clear hw2 hfb c0 c1 c2 z0 z1 z2
  have c0 : w2.cell? ⟨p, 0, none⟩ = some (.slice none 0 0) := by rw [cell_blk G0.out]; rfl
  have c1 : w2.cell? ⟨p + 1, 0, none⟩ = some (.int .i64 0) := by rw [cell_blk G1.out]; rfl
  have c2 : w2.cell? ⟨p + 2, 0, none⟩ = some (.int .i64 0) := by rw [cell_blk G2.out]; rfl
  have z0 : w2.frozen? ⟨p, 0, none⟩ = false := frozen_blk G0.out
  have z1 : w2.frozen? ⟨p + 1, 0, none⟩ = false := frozen_blk G1.out
  have z2 : w2.frozen? ⟨p + 2, 0, none⟩ = false := frozen_blk G2.out
  go_region
  have b1 : Below p w (w2.setCell ⟨p, 0, none⟩ (.slice none 0 0)) := (hb2.mono (Nat.le_of_lt l0)).setCell (p := ⟨p, 0, none⟩) (Nat.le_refl _) _
  have b2 := b1.setCell (p := ⟨p + 1, 0, none⟩) (Nat.le_add_right _ 1) (.int .i64 ln)
  have b3 := b2.setCell (p := ⟨p + 2, 0, none⟩) (Nat.le_add_right _ 2) (.int .i64 err)
  have hbn := b3.drew
  clear b1 b2 b3
  have K0 : (((w2.setCell ⟨p, 0, none⟩ (.slice none 0 0)).setCell ⟨p + 1, 0, none⟩ (.int .i64 ln)).setCell ⟨p + 2, 0, none⟩ (.int .i64 err)).drew.heap[p]? = some (.cells #[.slice none 0 0] 25) :=
    (heap_setCell_other _ _ _ _ (fun e => by have e' : p = p + 2 := e; omega)).trans ((heap_setCell_other _ _ _ _ (fun e => by have e' : p = p + 1 := e; omega)).trans (set_blk (i := 0) G0.out _))
  have K1 : (((w2.setCell ⟨p, 0, none⟩ (.slice none 0 0)).setCell ⟨p + 1, 0, none⟩ (.int .i64 ln)).setCell ⟨p + 2, 0, none⟩ (.int .i64 err)).drew.heap[p + 1]? = some (.cells #[.int .i64 ln] 3) :=
    (heap_setCell_other _ _ _ _ (fun e => by have e' : p + 1 = p + 2 := e; omega)).trans (set_blk (i := 0) ((heap_setCell_other _ _ _ _ (fun e => by have e' : p + 1 = p := e; omega)).trans G1.out) _)
  have K2 : (((w2.setCell ⟨p, 0, none⟩ (.slice none 0 0)).setCell ⟨p + 1, 0, none⟩ (.int .i64 ln)).setCell ⟨p + 2, 0, none⟩ (.int .i64 err)).drew.heap[p + 2]? = some (.cells #[.int .i64 err] 28) :=
    set_blk (i := 0) ((heap_setCell_other _ _ _ _ (fun e => by have e' : p + 2 = p + 1 := e; omega)).trans ((heap_setCell_other _ _ _ _ (fun e => by have e' : p + 2 = p := e; omega)).trans G2.out)) _
  have KK : Hid (_ ∧ _ ∧ _ ∧ _) := ⟨hbn, K0, K1, K2⟩
  clear hbn K0 K1 K2
  go_wp2
  exact ⟨rfl, _, rfl, .tuple #[], results_none rfl _ _ _, rfl, rfl, KK.out⟩

theorem catch_idle (a b c : Value) (w : World) :
    CallsD Tryd.prog 13 #[a, b, c] .returning w fun e u' w' => e = .returned (.tuple #[]) ∧ u' = .returning ∧ w' = w := by
  refine callsD_of_wpS Tryd.func13 rfl fun c₀ cs hu => ?_
  apply wpS_seq
  apply wpS_region
  simp [wpOpsS, go_sem, recoverD, hu, Tryd.ntmps13, Exit.thenS]
  refine wpS_of_wp ?_
  have hfr : (#[a, b, c] ++ (Array.replicate 14 undef).setIfInBounds 3 Value.nilIface) = #[a, b, c, undef, undef, undef, .nilIface, undef, undef, undef, undef, undef, undef, undef, undef, undef, undef] := rfl
  rw [hfr]
  clear hfr
  go_wp2
  refine ⟨rfl, .returning, ?_, .tuple #[], results_none rfl _ _ _, rfl, rfl, rfl⟩
  rw [← hu]

theorem Tabs.setLow {w : World} {B : Nat} {v : Value} {ts : List TV} (h : Tabs w B v ts) {a : Addr} (ha : a.block < B) (u : Value) : Tabs (w.setCell a u) B v ts :=
  ⟨ownsRow_setCell_below h.row ha u, fun t ht => ⟨ownsRow_setCell_below (h.tab t ht).fs ha u, ownsRow_setCell_below (h.tab t ht).xs ha u, fun x hx => ownsRow_setCell_below ((h.tab t ht).ov x hx) ha u⟩, h.afs, h.axs, h.aov, h.most, h.ok⟩

/-- What Parse answers. -/
def Parsed (w : World) (o : Except (Int × Int) (List Tb)) (e : Ending) (w' : World) : Prop :=
  Below w.heap.size w w' ∧ match o with
  | .error (l, c) => e = .returned (.tuple #[.agg #[.slice none 0 0], .int .i64 l, .int .i64 c])
  | .ok us => ∃ ao cap ts, e = .returned (.tuple #[.agg #[.slice ao ts.length cap], .int .i64 0, .int .i64 0]) ∧ tbs ts = us ∧ Tabs w' w.heap.size (.slice ao ts.length cap) ts

set_option maxRecDepth 100000 in
set_option maxHeartbeats 2000000 in
theorem parse_calls (text : ByteArray) (w : World) (mx : Int) (hmx : w.cell? ⟨1, 0, none⟩ = some (.int .i64 mx)) (hk : KindsAt w) :
    Calls Tryd.prog 6 #[.string text] w fun e w' => Parsed w (parseP text) e w' := by
  have hmf : ∀ (fn : Fn) (first cap : Array Value) (w : World), (Instr.makeFunc fn first cap).run Tryd.prog w = .ok (.func fn first cap) w := fun _ _ _ _ => rfl
  have h1w : 1 < w.heap.size := World.block_lt_of_cell? w _ hmx
  have HMX : Hid (w.cell? ⟨1, 0, none⟩ = some (.int .i64 mx)) := hmx
  have HK : Hid (KindsAt w) := hk
  clear hmx hk
  go_enter_defers Tryd.func6, Tryd.ntmps6
  go_wp2_with fail
  obtain ⟨w3, hw3⟩ : ∃ w3, w3 = ((w.alloc (.cells #[.slice none 0 0] 25)).alloc (.cells #[.int .i64 0] 3)).alloc (.cells #[.int .i64 0] 28) := ⟨_, rfl⟩
  rw [← hw3]
  have hb3 : Below w.heap.size w w3 := by rw [hw3]; exact (((Below.refl _ _).alloc (Nat.le_refl _) _).alloc (by simp) _).alloc (by simp; omega) _
  have B0 : Hid (w3.heap[w.heap.size]? = some (.cells #[.slice none 0 0] 25)) := by rw [Hid, hw3]; exact old_blk (old_blk (new_blk _ _) _) _
  have B1 : Hid (w3.heap[w.heap.size + 1]? = some (.cells #[.int .i64 0] 3)) := by
    rw [Hid, hw3]
    refine old_blk ?_ _
    have := new_blk (w.alloc (.cells #[.slice none 0 0] 25)) (.cells #[.int .i64 0] 3)
    rw [World.size_alloc] at this
    exact this
  have B2 : Hid (w3.heap[w.heap.size + 2]? = some (.cells #[.int .i64 0] 28)) := by
    rw [Hid, hw3]
    have := new_blk ((w.alloc (.cells #[.slice none 0 0] 25)).alloc (.cells #[.int .i64 0] 3)) (.cells #[.int .i64 0] 28)
    rw [World.size_alloc, World.size_alloc] at this
    exact this
  have HRd : Hid (Calls Tryd.prog 14 #[.string text] w3 fun e w' => Read w3 (parseP text) e w') := read_calls text w3 mx (by rw [hb3.cell (by exact h1w)]; exact HMX.out) (HK.out.below hb3)
  have H3 : Hid (Below w.heap.size w w3) := hb3
  clear hw3 hb3
  refine HRd.out.mono ?_
  rintro e w4 hrd
  cases h : parseP text with
  | error lc =>
    obtain ⟨l, c⟩ := lc
    rw [h] at hrd
    obtain ⟨rfl, hb4⟩ := hrd
    have HP : Hid (parseP text = .error (l, c)) := h
    have C0 : Hid (w4.heap[w.heap.size]? = some (.cells #[.slice none 0 0] 25)) := (hb4.block _ (lt_blk B0.out)).trans B0.out
    have C1 : Hid (w4.heap[w.heap.size + 1]? = some (.cells #[.int .i64 0] 3)) := (hb4.block _ (lt_blk B1.out)).trans B1.out
    have C2 : Hid (w4.heap[w.heap.size + 2]? = some (.cells #[.int .i64 0] 28)) := (hb4.block _ (lt_blk B2.out)).trans B2.out
    have H4 : Hid (Below w.heap.size w w4) := H3.out.trans (hb4.mono (by have := H3.out.size; omega))
    clear hb4 h
    go_wp2
    refine leaves_cons (f := 13) (args := #[.pointer (some ⟨w.heap.size, 0, none⟩), .pointer (some ⟨w.heap.size + 1, 0, none⟩), .pointer (some ⟨w.heap.size + 2, 0, none⟩)]) (by simp) (by simp [go_sem]) ?_
    refine (catch_do w.heap.size l c [] w4 C0.out C1.out C2.out).mono ?_
    rintro e u' w5 ⟨rfl, rfl, hb5, k0, k1, k2⟩
    have d0 : w5.cell? ⟨w.heap.size, 0, none⟩ = some (.slice none 0 0) := by rw [cell_blk k0]; rfl
    have d1 : w5.cell? ⟨w.heap.size + 1, 0, none⟩ = some (.int .i64 l) := by rw [cell_blk k1]; rfl
    have d2 : w5.cell? ⟨w.heap.size + 2, 0, none⟩ = some (.int .i64 c) := by rw [cell_blk k2]; rfl
    have H5 : Hid (Below w.heap.size w w5) := H4.out.trans hb5
    clear k0 k1 k2 hb5
    simp [Leaves, settle, results, Tryd.results6, go_sem, d0, d1, d2]
    rw [HP.out]
    exact ⟨H5.out, rfl⟩
  | ok us =>
    rw [h] at hrd
    obtain ⟨hb4, ao, tc, ts, rfl, hts, htb⟩ := hrd
    have HP : Hid (parseP text = .ok us) := h
    have C0 : Hid (w4.heap[w.heap.size]? = some (.cells #[.slice none 0 0] 25)) := (hb4.block _ (lt_blk B0.out)).trans B0.out
    have C1 : Hid (w4.heap[w.heap.size + 1]? = some (.cells #[.int .i64 0] 3)) := (hb4.block _ (lt_blk B1.out)).trans B1.out
    have C2 : Hid (w4.heap[w.heap.size + 2]? = some (.cells #[.int .i64 0] 28)) := (hb4.block _ (lt_blk B2.out)).trans B2.out
    have H4 : Hid (Below w.heap.size w w4) := H3.out.trans (hb4.mono (by have := H3.out.size; omega))
    have HTs : Hid (tbs ts = us) := hts
    have hs3 : w.heap.size + 2 < w3.heap.size := lt_blk B2.out
    have HT1 := ((htb.setLow (a := ⟨w.heap.size, 0, none⟩) (by show w.heap.size < w3.heap.size; omega) (.slice ao ts.length tc)).setLow (a := ⟨w.heap.size + 1, 0, none⟩) (by show w.heap.size + 1 < w3.heap.size; omega) (.int .i64 0)).setLow (a := ⟨w.heap.size + 2, 0, none⟩) (by show w.heap.size + 2 < w3.heap.size; omega) (.int .i64 0)
    have HTn : Hid (Tabs _ w.heap.size (.slice ao ts.length tc) ts) := HT1.mono (by omega)
    have b1 := (H4.out.setCell (p := ⟨w.heap.size, 0, none⟩) (Nat.le_refl _) (.slice ao ts.length tc)).setCell (p := ⟨w.heap.size + 1, 0, none⟩) (Nat.le_add_right _ 1) (.int .i64 0)
    have HBn : Hid (Below w.heap.size w _) := b1.setCell (p := ⟨w.heap.size + 2, 0, none⟩) (Nat.le_add_right _ 2) (.int .i64 0)
    have D0 : Hid ((((w4.setCell ⟨w.heap.size, 0, none⟩ (.slice ao ts.length tc)).setCell ⟨w.heap.size + 1, 0, none⟩ (.int .i64 0)).setCell ⟨w.heap.size + 2, 0, none⟩ (.int .i64 0)).cell? ⟨w.heap.size, 0, none⟩ = some (.slice ao ts.length tc)) := by
      rw [Hid, World.cell?_setCell_other _ _ _ _ (by intro e; have := congrArg Addr.block e; simp at this), World.cell?_setCell_other _ _ _ _ (by intro e; have := congrArg Addr.block e; simp at this), cell_blk (set_blk (i := 0) C0.out _)]
      rfl
    have D1 : Hid ((((w4.setCell ⟨w.heap.size, 0, none⟩ (.slice ao ts.length tc)).setCell ⟨w.heap.size + 1, 0, none⟩ (.int .i64 0)).setCell ⟨w.heap.size + 2, 0, none⟩ (.int .i64 0)).cell? ⟨w.heap.size + 1, 0, none⟩ = some (.int .i64 0)) := by
      have e1 : (w4.setCell ⟨w.heap.size, 0, none⟩ (.slice ao ts.length tc)).heap[w.heap.size + 1]? = some (.cells #[.int .i64 0] 3) := (heap_setCell_other _ _ _ _ (fun e => by have e' : w.heap.size + 1 = w.heap.size := e; omega)).trans C1.out
      rw [Hid, World.cell?_setCell_other _ _ _ _ (by intro e; have := congrArg Addr.block e; simp at this), cell_blk (set_blk (i := 0) e1 _)]
      rfl
    have D2 : Hid ((((w4.setCell ⟨w.heap.size, 0, none⟩ (.slice ao ts.length tc)).setCell ⟨w.heap.size + 1, 0, none⟩ (.int .i64 0)).setCell ⟨w.heap.size + 2, 0, none⟩ (.int .i64 0)).cell? ⟨w.heap.size + 2, 0, none⟩ = some (.int .i64 0)) := by
      have e1 : (w4.setCell ⟨w.heap.size, 0, none⟩ (.slice ao ts.length tc)).heap[w.heap.size + 2]? = some (.cells #[.int .i64 0] 28) := (heap_setCell_other _ _ _ _ (fun e => by have e' : w.heap.size + 2 = w.heap.size := e; omega)).trans C2.out
      have e2 : ((w4.setCell ⟨w.heap.size, 0, none⟩ (.slice ao ts.length tc)).setCell ⟨w.heap.size + 1, 0, none⟩ (.int .i64 0)).heap[w.heap.size + 2]? = some (.cells #[.int .i64 0] 28) := (heap_setCell_other _ _ _ _ (fun e => by have e' : w.heap.size + 2 = w.heap.size + 1 := e; omega)).trans e1
      rw [Hid, cell_blk (set_blk (i := 0) e2 _)]
      rfl
    have c0 : w4.cell? ⟨w.heap.size, 0, none⟩ = some (.slice none 0 0) := by rw [cell_blk C0.out]; rfl
    have c1 : w4.cell? ⟨w.heap.size + 1, 0, none⟩ = some (.int .i64 0) := by rw [cell_blk C1.out]; rfl
    have c2 : w4.cell? ⟨w.heap.size + 1 + 1, 0, none⟩ = some (.int .i64 0) := by rw [cell_blk C2.out]; rfl
    have z0 : w4.frozen? ⟨w.heap.size, 0, none⟩ = false := frozen_blk C0.out
    have z1 : w4.frozen? ⟨w.heap.size + 1, 0, none⟩ = false := frozen_blk C1.out
    have z2 : w4.frozen? ⟨w.heap.size + 1 + 1, 0, none⟩ = false := frozen_blk C2.out
    clear hb4 h hts htb HT1 b1
    go_wp2
    refine leaves_cons (f := 13) (args := #[.pointer (some ⟨w.heap.size, 0, none⟩), .pointer (some ⟨w.heap.size + 1, 0, none⟩), .pointer (some ⟨w.heap.size + 2, 0, none⟩)]) (by simp) (by simp [go_sem]) ?_
    refine (catch_idle _ _ _ _).mono ?_
    rintro e u' w5 ⟨rfl, rfl, hw5⟩
    have hT5 := HTn.out
    have hB5 := HBn.out
    have d0 := D0.out
    have d1 := D1.out
    have d2 := D2.out
    rw [← hw5] at hT5 hB5 d0 d1 d2
    clear hw5
    simp [Leaves, settle, results, Tryd.results6, go_sem, d0, d1, d2]
    rw [HP.out]
    exact ⟨hB5, ao, tc, ts, rfl, HTs.out, hT5⟩
end Go.Proofs.YtbpmahchinblhaaDoor
