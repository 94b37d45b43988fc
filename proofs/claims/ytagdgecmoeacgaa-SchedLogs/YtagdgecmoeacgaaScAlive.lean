/- Layer 17 (sched): the law's example. -/
import Derived.Test.YtagdgecmoeacgaaScNxt
namespace Go.Proofs.Ytagdgecmoeacgaa
open Go.RowKit
set_option linter.unusedVariables false
variable {S S' : Nat → Prop}

def cA : Nat → Ch
  | 0 => ⟨[3, 0], 9, -1, []⟩
  | k + 1 => (nextP (cA k) [true, true]).1
def wA : Nat → Nat
  | 0 => 1
  | 1 => 0
  | 2 => 1
  | 3 => 0
  | _ => 1
theorem cA_next : ∀ k, k < 5 → (nextP (cA k) [true, true]).2 = (wA k, true) := by decide
theorem cA_left : (cA 5).picks.length = 0 := by decide
theorem cA_end : (nextP (cA 5) [false]).2 = (0, false) ∧ (nextP (cA 5) [false]).1.picks.length = 0 := by decide
theorem cA_ok : ∀ k, Okc (cA k) k
  | 0 => ⟨by decide, by decide, by decide, by decide, by decide, by decide, by decide⟩
  | k + 1 => (cA_ok k).next _ (by decide)
theorem cA_al : ∀ k, (cA k).ages.length ≤ 2
  | 0 => by decide
  | k + 1 => by
    show (nextP (cA k) [true, true]).1.ages.length ≤ 2
    rw [nextP_eq]
    simp [ageP_length]
theorem wA_at : ∀ k (h : k < [1, 0, 1, 0, 1].length), ([1, 0, 1, 0, 1] : List Int)[k] = (wA k : Int) := by decide
/-- What stands between two calls: the chooser is the law's own, nothing old was written. -/
structure Own1 (w : World) (S : Nat → Prop) (cb : Nat) (c : Ch) (w' : World) : Prop where
  ch : ChAt w' S cb c
  own : ∀ k, S k → w.heap.size ≤ k
  below : Below w.heap.size w w'
theorem Own1.new {w w' : World} {cb : Nat} {c : Ch} (h : ChAt w' (fun k => w.heap.size ≤ k ∧ k < w'.heap.size) cb c) (hb : Below w.heap.size w w') : Own1 w (fun k => w.heap.size ≤ k ∧ k < w'.heap.size) cb c w' := ⟨h, fun k hk => hk.1, hb⟩
theorem Own1.newer {w w0 w' : World} {cb : Nat} {c : Ch} (h0 : Below w.heap.size w w0) (h : ChAt w' (fun k => w0.heap.size ≤ k ∧ k < w'.heap.size) cb c) (hb : Below w0.heap.size w0 w') : Own1 w (fun k => w0.heap.size ≤ k ∧ k < w'.heap.size) cb c w' := ⟨h, fun k hk => Nat.le_trans h0.size hk.1, h0.trans (hb.mono h0.size)⟩
theorem Own1.next {w w1 w2 : World} {cb : Nat} {c c' : Ch} (h : Own1 w S cb c w1) (hc : ChAt w2 (fun k => S k ∨ (w1.heap.size ≤ k ∧ k < w2.heap.size)) cb c') (hf : Frm S w1 w2) : Own1 w (fun k => S k ∨ (w1.heap.size ≤ k ∧ k < w2.heap.size)) cb c' w2 :=
  ⟨hc, fun k hk => by
    rcases hk with hk | hk
    · exact h.own k hk
    · exact Nat.le_trans h.below.size hk.1, h.below.trans (hf.toBelow h.below.size h.own)⟩
theorem Own1.more {w w1 w2 : World} {cb : Nat} {c : Ch} (h : Own1 w S cb c w1) (hb : Below w1.heap.size w1 w2) : Own1 w S cb c w2 := ⟨h.ch.below hb, h.own, h.below.trans (hb.mono h.below.size)⟩
theorem Own1.draws {w w1 : World} {cb : Nat} {c : Ch} (h : Own1 w S cb c w1) (n : Nat) : Own1 w S cb c (w1.drewN n) := h.more (below_drawsT _ _)
theorem below_alloc (w : World) (o : Obj) : Below w.heap.size w (w.alloc o) := (Below.refl _ _).alloc (Nat.le_refl _) o

set_option maxRecDepth 100000 in
set_option maxHeartbeats 1000000 in
theorem alive_calls (w : World) : Calls Try.prog 5 #[] w fun e w' => e = .returned (.bool true) ∧ Below w.heap.size w w' := by
  have HN := newC_calls (some ⟨w.heap.size, 0, none⟩) 2 2 [3, 0] 9 (w.alloc (.cells #[.int .i64 3, .int .i64 0] 3)) rfl (by decide) (by simp) (VAt.new w [.int .i64 3, .int .i64 0] _)
  go_enter Try.func5, Try.ntmps5
  go_wp2_with fail
  refine HN.mono ?_
  clear HN
  rintro e w1 ⟨cb, rfl, hc1, hb1⟩
  have HL := left_calls cb _ w1 hc1
  have HO1 : Hid (Own1 w _ cb (cA 0) w1) := Own1.newer (below_alloc w _) hc1 hb1
  clear hc1 hb1
  go_wp2_with fail
  refine HL.mono ?_
  clear HL
  rintro e w1' ⟨rfl, rfl⟩
  have HB : Hid (Below w1'.heap.size w1' (w1'.alloc (.cells #[.int .i64 1, .int .i64 0, .int .i64 1, .int .i64 0, .int .i64 1] 3))) := below_alloc _ _
  have HV : Hid (VAt (w1'.alloc (.cells #[.int .i64 1, .int .i64 0, .int .i64 1, .int .i64 0, .int .i64 1] 3)) (some ⟨w1'.heap.size, 0, none⟩) (([1, 0, 1, 0, 1] : List Int).map iV)) := VAt.new w1' [.int .i64 1, .int .i64 0, .int .i64 1, .int .i64 0, .int .i64 1] _
  obtain ⟨S1, HO1⟩ : ∃ S, Hid (Own1 w S cb (cA 0) w1' ∧ ∀ k, S k → k < w1'.heap.size) := ⟨_, HO1.out, fun k hk => hk.2⟩
  obtain ⟨g, Hg⟩ : ∃ g, Hid (g = w1'.heap.size) := ⟨_, rfl⟩
  have HO2 : Hid (Own1 w S1 cb (cA 0) (w1'.alloc (.cells #[.int .i64 1, .int .i64 0, .int .i64 1, .int .i64 0, .int .i64 1] 3)) ∧ ¬ S1 w1'.heap.size) := ⟨HO1.out.1.more HB.out, fun h => by have := HO1.out.2 _ h; omega⟩
  obtain ⟨w2, Hw2⟩ : ∃ w2, Hid (w2 = w1'.alloc (.cells #[.int .i64 1, .int .i64 0, .int .i64 1, .int .i64 0, .int .i64 1] 3)) := ⟨_, rfl⟩
  have Hgl : Hid (g < w2.heap.size) := by show _ < _; rw [Hw2.out, Hg.out]; simp [World.size_alloc]
  rw [← Hw2.out] at HO2 HV
  rw [← Hg.out] at HO2 HV
  clear HB HO1
  go_wp2
  rw [← Hw2.out, ← Hg.out]
  clear Hw2 Hg
  go_loopw [19] (fun i wr => ∃ (k : Nat) (S : Nat → Prop), k ≤ 5 ∧ i = .int .i64 k ∧ Hid (Own1 w S cb (cA k) wr ∧ ¬ S g) ∧ Hid (VAt wr (some ⟨g, 0, none⟩) (([1, 0, 1, 0, 1] : List Int).map iV)) ∧ Hid (g < wr.heap.size)) (fun i _ => 5 - (intOf i).toNat)
  case atStart => exact ⟨0, S1, by omega, rfl, HO2, HV, Hgl⟩
  case round =>
    clear HO2 HV Hgl
    obtain ⟨k, S, hk, rfl, HO, HV, Hgl⟩ := hrel
    by_cases hlt : k < 5
    · obtain ⟨b, off, eg, hc⟩ := HV.out.int k (by simpa using hlt)
      simp only [Option.some.injEq, Addr.mk.injEq, and_true] at eg
      obtain ⟨rfl, rfl⟩ := eg
      rw [wA_at k (by simpa using hlt), Nat.zero_add] at hc
      have HX := next_calls cb (cA k) k (some ⟨wr.heap.size, 0, none⟩) 2 2 [true, true] (wr.alloc (.cells #[.bool true, .bool true] 4)) (HO.out.1.ch.below (below_alloc _ _)) (cA_ok k) (by omega) (by have := cA_al k; omega) rfl (by omega) (VAt.new wr [.bool true, .bool true] _) (fun a ea => by
        cases ea
        exact ⟨fun h => Nat.lt_irrefl _ (HO.out.1.ch.sb _ h), by simp [World.size_alloc]⟩)
      have HQ : Hid ((nextP (cA k) [true, true]).2 = (wA k, true)) := cA_next k hlt
      go_wp2_with fail
      refine HX.mono ?_
      clear HX
      rintro e w3 ⟨he, hc3, hf3⟩
      rw [HQ.out] at he
      subst he
      have HO3 : Hid (Own1 w _ cb (cA (k + 1)) w3 ∧ ¬ (S g ∨ ((wr.alloc (.cells #[.bool true, .bool true] 4)).heap.size ≤ g ∧ g < w3.heap.size))) := ⟨(HO.out.1.more (below_alloc _ _)).next hc3 hf3, fun h => by
        rcases h with h | h
        · exact HO.out.2 h
        · have := Hgl.out; simp [World.size_alloc] at h; omega⟩
      have HV3 : Hid (VAt w3 (some ⟨g, 0, none⟩) (([1, 0, 1, 0, 1] : List Int).map iV)) := (HV.out.below (below_alloc _ _)).frm hf3 (fun a ea => by cases ea; exact HO.out.2)
      have Hgl3 : Hid (g < w3.heap.size) := by have := hf3.size; simp [World.size_alloc] at this; have := Hgl.out; rw [Hid]; omega
      clear hc3 hf3 HO HV Hgl
      obtain ⟨wk, Hwk⟩ : ∃ wk, Hid (wk = wA k) := ⟨_, rfl⟩
      rw [← Hwk.out] at hc ⊢
      have hq : ((wk : Int) != (wk : Int)) = false := by simp
      go_wp2
      go_roundw
      case rel => exact ⟨k + 1, _, by omega, by go_num, HO3, HV3, Hgl3⟩
      case measure => simp [intOf]; omega
    · obtain rfl : k = 5 := by omega
      have HX := next_calls cb (cA 5) 5 (some ⟨wr.heap.size, 0, none⟩) 1 1 [false] (wr.alloc (.cells #[.bool false] 4)) (HO.out.1.ch.below (below_alloc _ _)) (cA_ok 5) (by omega) (by have := cA_al 5; omega) rfl (by omega) (VAt.new wr [.bool false] _) (fun a ea => by
        cases ea
        exact ⟨fun h => Nat.lt_irrefl _ (HO.out.1.ch.sb _ h), by simp [World.size_alloc]⟩)
      go_wp2_with fail
      refine HX.mono ?_
      clear HX
      rintro e w3 ⟨he, hc3, hf3⟩
      rw [cA_end.1] at he
      subst he
      have HL := left_calls cb _ w3 hc3
      rw [cA_end.2] at HL
      have HO3 : Hid (Own1 w _ cb _ w3) := (HO.out.1.more (below_alloc _ _)).next hc3 hf3
      clear hc3 hf3
      go_wp2_with fail
      refine HL.mono ?_
      clear HL
      rintro e w4 ⟨rfl, rfl⟩
      go_wp2
      go_ret
      exact ⟨rfl, HO3.out.below⟩
end Go.Proofs.Ytagdgecmoeacgaa
