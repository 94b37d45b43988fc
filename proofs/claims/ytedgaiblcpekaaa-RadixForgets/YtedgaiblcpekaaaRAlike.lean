/- Layer 3 (radix): alike. -/
import Derived.Test.YtedgaiblcpekaaaRKidsN
import Derived.Test.YtedgaiblcpekaaaRCanon
import Derived.Lib.QuietBelow
import Derived.Deep.QuietTactic
namespace Go.Proofs.Ytedgaiblcpekaaa
open Go.RowKit Go.Shelf
open Go.Sort (grow)
set_option linter.unusedVariables false
variable {R : Nat → Prop}

/-- All that the tree holds are ints. -/
def AllInt (t : Tr) : Prop := ∀ k x, Has t k x → ∃ m : Int, x = .int .i64 m
theorem AllInt.kid {t c : Tr} (h : AllInt t) (hc : c ∈ t.ks) : AllInt c := fun k x hx => h k x (.kid hc hx)

theorem alike_vals {t s : Tr} (h : Sim (fun _ x y => x = y) t s) (hi : AllInt t) : ∃ (m : Int) (b : Bool), held t.v = .int .i64 m ∧ held s.v = .int .i64 m ∧ t.v.isSome = b ∧ s.v.isSome = b := by
  have hv := h.v
  cases ht : t.v with
  | none =>
    cases hs : s.v with
    | none => exact ⟨0, false, rfl, rfl, rfl, rfl⟩
    | some y => rw [ht, hs] at hv; exact hv.elim
  | some x =>
    cases hs : s.v with
    | none => rw [ht, hs] at hv; exact hv.elim
    | some y =>
      rw [ht, hs] at hv
      obtain ⟨m, hm⟩ := hi _ _ (.here ht)
      have hv' : x.x = y.x := hv
      exact ⟨m, true, hm, by show y.x = _; rw [← hv']; exact hm, rfl, rfl⟩

/-- The rows of kids of both. -/
structure AlI (w : World) (t s : Tr) (kb kc : Nat) (W : World) : Prop where
  below : Below w.heap.size w W
  rt : ∀ i (h : i < t.ks.length), W.cell? ⟨kb, i, none⟩ = some (.pointer (some ⟨t.ks[i].a, 0, none⟩))
  rs : ∀ i (h : i < s.ks.length), W.cell? ⟨kc, i, none⟩ = some (.pointer (some ⟨s.ks[i].a, 0, none⟩))
theorem AlI.keep {w W W' : World} {t s : Tr} {kb kc : Nat} (h : AlI w t s kb kc W) (hb : Below W.heap.size W W') : AlI w t s kb kc W' :=
  ⟨h.below.trans (hb.mono h.below.size), fun i hi => by rw [hb.cell (World.block_lt_of_cell? W _ (h.rt i hi))]; exact h.rt i hi, fun i hi => by rw [hb.cell (World.block_lt_of_cell? W _ (h.rs i hi))]; exact h.rs i hi⟩

set_option maxRecDepth 100000 in
set_option maxHeartbeats 4000000 in
theorem alike_calls (n : Nat) : ∀ (t s : Tr) (w : World), Dep n t → TAt nR w t → TAt nR w s → WF t → WF s → AllInt t → Sim (fun _ x y => x = y) t s →
    Calls Try.prog 24 #[nodeV t, nodeV s] w fun e w' => e = .returned (.bool true) ∧ Below w.heap.size w w' := by
  induction n with
  | zero => intro t s w hd; cases hd
  | succ n ih =>
    intro t s w hd htA hsA hwt hws hi hS
    have hnot : ∀ (x : Bool) (w : World), (Op.unary .not (.bool x)).run Try.prog w = .ok (.bool (!x)) w := fun _ _ => rfl
    obtain ⟨m, b, e1, e2, e3, e4⟩ := alike_vals hS hi
    have hp : s.p = t.p := hS.p.symm
    have hlen : s.ks.length = t.ks.length := hS.ks.1.symm
    have hfew := hwt.few
    obtain ⟨w1, HW1⟩ : ∃ w1, Hid (w1 = (w.alloc (.cells #[.pointer (some ⟨t.a, 0, none⟩)] 51)).alloc (.cells #[.pointer (some ⟨s.a, 0, none⟩)] 51)) := ⟨_, rfl⟩
    have hsz : (w.alloc (.cells #[.pointer (some ⟨t.a, 0, none⟩)] 51)).heap.size = w.heap.size + 1 := by simp [World.size_alloc]
    have hb1 : Below w.heap.size w w1 := by rw [HW1.out]; exact ((Below.refl _ w).alloc (Nat.le_refl _) _).alloc (by omega) _
    have hs1 : w1.heap.size = w.heap.size + 2 := by rw [HW1.out]; simp [World.size_alloc]
    have q0 : w1.heap[w.heap.size]? = some (.cells #[.pointer (some ⟨t.a, 0, none⟩)] 51) := by
      have h2 : Below (w.heap.size + 1) (w.alloc (.cells #[.pointer (some ⟨t.a, 0, none⟩)] 51)) w1 := by rw [HW1.out]; exact (Below.refl _ _).alloc (by omega) _
      rw [h2.block _ (by omega)]; exact heap_alloc_new _ _
    have q1 : w1.heap[w.heap.size + 1]? = some (.cells #[.pointer (some ⟨s.a, 0, none⟩)] 51) := by rw [HW1.out, ← hsz]; exact heap_alloc_new _ _
    have k0 : w1.cell? ⟨w.heap.size, 0, none⟩ = some (.pointer (some ⟨t.a, 0, none⟩)) := by rw [cell_of_blk q0]; rfl
    have k1 : w1.cell? ⟨w.heap.size + 1, 0, none⟩ = some (.pointer (some ⟨s.a, 0, none⟩)) := by rw [cell_of_blk q1]; rfl
    have HV1 := value_calls t w1 (htA.keep hb1)
    rw [e1, e3] at HV1
    have HB1 : Hid (Below w.heap.size w w1) := hb1
    have HT : Hid (TAt nR w t ∧ TAt nR w s ∧ WF t ∧ WF s ∧ AllInt t ∧ Sim (fun _ x y => x = y) t s ∧ Dep (n + 1) t) := ⟨htA, hsA, hwt, hws, hi, hS, hd⟩
    have IH : Hid _ := ih
    clear hb1 q0 q1 htA hsA hwt hws hi hS hd ih
    unfold nodeV
    unfold nodeV at HV1
    go_enter Try.func24, Try.ntmps24
    go_wp2_with fail
    rw [← HW1.out]
    refine HV1.mono ?_
    clear HV1 HW1
    rintro e w2 ⟨rfl, hb2⟩
    have HB2 : Hid (Below w.heap.size w w2) := HB1.out.trans (hb2.mono HB1.out.size)
    have d0 : w2.cell? ⟨w.heap.size, 0, none⟩ = some (.pointer (some ⟨t.a, 0, none⟩)) := by rw [hb2.cell (by show w.heap.size < w1.heap.size; omega)]; exact k0
    have d1 : w2.cell? ⟨w.heap.size + 1, 0, none⟩ = some (.pointer (some ⟨s.a, 0, none⟩)) := by rw [hb2.cell (by show w.heap.size + 1 < w1.heap.size; omega)]; exact k1
    have hs2 : w.heap.size + 2 ≤ w2.heap.size := by have := hb2.size; omega
    have HV2 := value_calls s w2 (HT.out.2.1.keep HB2.out)
    rw [e2, e4] at HV2
    unfold nodeV at HV2
    clear hb2 k0 k1 HB1 hs1
    go_wp2_with fail
    refine HV2.mono ?_
    clear HV2
    rintro e w3 ⟨rfl, hb3⟩
    have HB3 : Hid (Below w.heap.size w w3) := HB2.out.trans (hb3.mono HB2.out.size)
    have k0 : w3.cell? ⟨w.heap.size, 0, none⟩ = some (.pointer (some ⟨t.a, 0, none⟩)) := by rw [hb3.cell (by show w.heap.size < w2.heap.size; omega)]; exact d0
    have k1 : w3.cell? ⟨w.heap.size + 1, 0, none⟩ = some (.pointer (some ⟨s.a, 0, none⟩)) := by rw [hb3.cell (by show w.heap.size + 1 < w2.heap.size; omega)]; exact d1
    have hs3 : w.heap.size + 2 ≤ w3.heap.size := by have := hb3.size; omega
    clear hb3 d0 d1 HB2 hs2
    go_wp2_with fail
    have j0 := cell_regrown k0
    have j1 := cell_regrown k1
    have cT := fun d os => Calls.regrown_of (path_calls (R := nR) t (grow (redrawn w3 d) os) ((HT.out.1.keep HB3.out).keep (below_regrown w3 d os)))
    have cS := fun d os => Calls.regrown_of (path_calls (R := nR) s (grow (redrawn w3 d) os) ((HT.out.2.1.keep HB3.out).keep (below_regrown w3 d os)))
    rw [hp] at cS
    unfold nodeV at cT cS
    refine wp_region_quiet_below (by kernel_rfl) (by kernel_rfl) ?_
    repeat (quiet_step (first | exact cT _ _ | exact cS _ _))
    refine wpQuiet_nil ?_
    intro w4 hw'
    obtain ⟨⟨dq, osq⟩, hw4⟩ := hw'
    have hb4 : Below w3.heap.size w3 w4 := by rw [hw4]; exact below_regrown w3 dq osq
    clear hw4
    have HB4 : Hid (Below w.heap.size w w4) := HB3.out.trans (hb4.mono HB3.out.size)
    have d0 : w4.cell? ⟨w.heap.size, 0, none⟩ = some (.pointer (some ⟨t.a, 0, none⟩)) := by rw [hb4.cell (by show w.heap.size < w3.heap.size; omega)]; exact k0
    have d1 : w4.cell? ⟨w.heap.size + 1, 0, none⟩ = some (.pointer (some ⟨s.a, 0, none⟩)) := by rw [hb4.cell (by show w.heap.size + 1 < w3.heap.size; omega)]; exact k1
    have hs4 : w.heap.size + 2 ≤ w4.heap.size := by have := hb4.size; omega
    clear hb4 cT cS j0 j1 k0 k1 HB3 hs3
    go_wp2_with fail
    go_cut [9, 10] from 37 to 40 (fun s9 s10 wx => ∃ kb kc : Nat, s9 = .slice (some ⟨kb, 0, none⟩) t.ks.length t.ks.length ∧ s10 = .slice (some ⟨kc, 0, none⟩) t.ks.length t.ks.length ∧ Hid (AlI w t s kb kc wx))
    case first =>
      have HK1 := kids_calls (R := nR) t w4.drew ((HT.out.1.keep HB4.out).keep ⟨rfl, rfl, rfl, Nat.le_refl _, fun _ _ => rfl⟩) (by omega)
      have HK2 := fun (W : World) (hW : Below w4.heap.size w4 W) => kids_calls (R := nR) s W ((HT.out.2.1.keep HB4.out).keep hW) (show s.ks.length ≤ 1000 by omega)
      unfold nodeV at HK1 HK2
      go_region_held3 (fun W => W.cell? ⟨w.heap.size, 0, none⟩ = some (.pointer (some ⟨t.a, 0, none⟩)) ∧ W.cell? ⟨w.heap.size + 1, 0, none⟩ = some (.pointer (some ⟨s.a, 0, none⟩))) (first | (exact q6) | (exact q5) | go_keep)
        (first
          | (go_at_call 53
             refine HK1.mono ?_
             rintro e w5 ⟨kb, rfl, hb5, hk5, hc5⟩
             have HB5 : Hid (Below w4.heap.size w4 w5) := below_drew hb5
             have q5 : w5.cell? ⟨w.heap.size, 0, none⟩ = some (.pointer (some ⟨t.a, 0, none⟩)) ∧ w5.cell? ⟨w.heap.size + 1, 0, none⟩ = some (.pointer (some ⟨s.a, 0, none⟩)) := ⟨by rw [HB5.out.cell (by show w.heap.size < w4.heap.size; omega)]; exact d0, by rw [HB5.out.cell (by show w.heap.size + 1 < w4.heap.size; omega)]; exact d1⟩
             have HC5 : Hid (∀ i (h : i < t.ks.length), w5.cell? ⟨kb, i, none⟩ = some (.pointer (some ⟨t.ks[i].a, 0, none⟩))) := hc5
             have hz5 := HB5.out.size
             clear hb5 hk5 hc5 HK1)
          | (go_at_call 53
             refine (HK2 w5 HB5.out).mono ?_
             rintro e w6 ⟨kc, he6, hb6, hk6, hc6⟩
             rw [hlen] at he6
             subst he6
             have q6 : w6.cell? ⟨w.heap.size, 0, none⟩ = some (.pointer (some ⟨t.a, 0, none⟩)) ∧ w6.cell? ⟨w.heap.size + 1, 0, none⟩ = some (.pointer (some ⟨s.a, 0, none⟩)) := ⟨by rw [hb6.cell (by show w.heap.size < w5.heap.size; omega)]; exact q5.1, by rw [hb6.cell (by show w.heap.size + 1 < w5.heap.size; omega)]; exact q5.2⟩
             have HA6 : Hid (AlI w t s kb kc w6) := ⟨HB4.out.trans ((HB5.out.trans (hb6.mono hz5)).mono HB4.out.size), fun i hi => by rw [hb6.cell (World.block_lt_of_cell? w5 _ (HC5.out i hi))]; exact HC5.out i hi, hc6⟩
             clear hb6 hk6 hc6))
      all_goals go_wp2
      all_goals go_meet
      all_goals exact ⟨kb, kc, rfl, rfl, HA6⟩
    case rest =>
      obtain ⟨kb, kc, rfl, rfl, HA⟩ := hcut
      clear HB4 d0 d1 hs4
      go_wp2_with fail
      go_loopw [48] (fun i wr => ∃ j : Nat, j ≤ t.ks.length ∧ i = .int .i64 j ∧ Hid (AlI w t s kb kc wr)) (fun i _ => t.ks.length - (intOf i).toNat)
      case atStart => exact ⟨0, Nat.zero_le _, rfl, HA⟩
      case round =>
        obtain ⟨j, hj, rfl, HI⟩ := hrel
        by_cases hlt : j < t.ks.length
        · have hlt' : j < s.ks.length := by omega
          have k0 := HI.out.rt j hlt
          have k1 := HI.out.rs j hlt'
          have hmt : t.ks[j] ∈ t.ks := List.getElem_mem hlt
          have hms : s.ks[j] ∈ s.ks := List.getElem_mem hlt'
          have h1 := HT.out
          have cA := fun d os => Calls.regrown_of (IH.out t.ks[j] s.ks[j] (grow (redrawn wr d) os) (h1.2.2.2.2.2.2 _ hmt) (((h1.1.keep HI.out.below).keep (below_regrown wr d os)).sub' _ hmt) (((h1.2.1.keep HI.out.below).keep (below_regrown wr d os)).sub' _ hms) (h1.2.2.1.kids' _ hmt) (h1.2.2.2.1.kids' _ hms) (h1.2.2.2.2.1.kid hmt) (h1.2.2.2.2.2.1.ks.2 j hlt hlt'))
          unfold nodeV at cA
          clear h1 hmt hms
          go_wp2_with fail
          have j0 := cell_regrown k0
          have j1 := cell_regrown k1
          refine wp_region_quiet_below (by kernel_rfl) (by kernel_rfl) ?_
          repeat (quiet_step (exact cA _ _))
          refine wpQuiet_nil ?_
          intro w7 hw'
          obtain ⟨⟨dq, osq⟩, hw7⟩ := hw'
          have HI2 : Hid (AlI w t s kb kc w7) := HI.out.keep (by rw [hw7]; exact below_regrown wr dq osq)
          clear hw7 cA j0 j1 k0 k1 HI
          go_wp2_with fail
          go_roundw
          case rel => exact ⟨j + 1, by omega, by go_num, HI2⟩
          case measure => simp [intOf]; omega
        · have hjl : j = t.ks.length := by omega
          subst hjl
          go_wp2_with fail
          go_ret
          exact ⟨rfl, HI.out.below⟩
end Go.Proofs.Ytedgaiblcpekaaa
