/- The walk of WatchOnce. -/
import Derived.Test.YtppkomnpcpmcmaaWWatch
namespace Go.Proofs.Ytppkomnpcpmcmaa
open Go.RowKit
set_option linter.unusedVariables false

/-- The bools lie one behind the other at the address. -/
def BoolsAt (w : World) (ao : Option Addr) (bs : List Bool) : Prop :=
  ∀ i (h : i < bs.length), ∃ b off, ao = some ⟨b, off, none⟩ ∧ w.cell? ⟨b, off + i, none⟩ = some (.bool bs[i])
theorem BoolsAt.below {w w' : World} {ao : Option Addr} {bs : List Bool} (h : BoolsAt w ao bs) (hb : Below w.heap.size w w') : BoolsAt w' ao bs := by
  intro i hi
  obtain ⟨b, off, ha, h0⟩ := h i hi
  have hl : b < w.heap.size := World.block_lt_of_cell? w _ h0
  exact ⟨b, off, ha, by rw [hb.cell (by exact hl)]; exact h0⟩

set_option maxRecDepth 100000 in
set_option maxHeartbeats 1600000 in
theorem once_walk (ao : Option Addr) (cap : Nat) (bs : List Bool) (w : World) (hl : bs.length ≤ 9223372036854775807) (hp : BoolsAt w ao bs) :
    Calls Try.prog 5 #[.slice ao bs.length cap] w fun e w' => e = .returned (.bool true) ∧ Below w.heap.size w w' := by
  have hnot : ∀ (x : Bool) (w : World), (Op.unary .not (.bool x)).run Try.prog w = .ok (.bool (!x)) w := fun _ _ => rfl
  go_enter Try.func5, Try.ntmps5
  go_wp2_with fail
  refine (alive_calls w).mono ?_
  rintro e w1 ⟨rfl, hb1⟩
  have hs1 := hb1.size
  go_wp2_with fail
  refine (new_calls w1).mono ?_
  rintro e w2 ⟨rfl, hb2, hs2, hw2⟩
  go_wp2_with fail
  refine (new_calls w2).mono ?_
  rintro e w3 ⟨rfl, hb3, hs3, hw3⟩
  have hv3 := hw2.below hb3
  have hb4 : Below w.heap.size w w3 := (hb1.trans (hb2.mono hs1)).trans (hb3.mono (by omega))
  have hq := eqlWatch_other hv3 hw3 (by omega)
  have g1 : w.heap.size ≤ w1.heap.size + 1 := by omega
  have g2 : w.heap.size ≤ w1.heap.size := by omega
  have g3 : w.heap.size ≤ w2.heap.size + 1 := by omega
  have g4 : w.heap.size ≤ w2.heap.size := by omega
  have g5 : w2.heap.size + 1 ∉ [w1.heap.size + 1, w1.heap.size] := by simp; omega
  have g6 : w2.heap.size ∉ [w1.heap.size + 1, w1.heap.size] := by simp; omega
  clear hw2 hb1 hb2 hb3 hs1 hs2 hs3
  revert hv3 hw3 hq g1 g2 g3 g4 g5 g6
  generalize w1.heap.size + 1 = b1
  generalize w1.heap.size = c1
  generalize w2.heap.size + 1 = b2
  generalize w2.heap.size = c2
  intro hw3 hv3 hq g1 g2 g3 g4 g5 g6
  have G1 : Hid (w.heap.size ≤ b1) := g1
  have G2 : Hid (w.heap.size ≤ c1) := g2
  have G3 : Hid (w.heap.size ≤ b2) := g3
  have G4 : Hid (w.heap.size ≤ c2) := g4
  have G5 : Hid (b2 ∉ [b1, c1]) := g5
  have G6 : Hid (c2 ∉ [b1, c1]) := g6
  clear g1 g2 g3 g4 g5 g6
  go_wp2
  clear hq
  go_loopw [5, 25] (fun fv i wr => ∃ (k : Nat) (f : Bool), k ≤ bs.length ∧ i = .int .i64 k ∧ fv = .bool f ∧ WAt wr b1 c1 f ∧ WAt wr b2 c2 false ∧ Below w.heap.size w wr) (fun _ i _ => bs.length - (intOf i).toNat)
  case atStart => exact ⟨0, false, Nat.zero_le _, rfl, rfl, hv3, hw3, hb4⟩
  case round =>
    obtain ⟨k, f, hk, rfl, rfl, hwa, hwb, hb⟩ := hrel
    clear hv3 hw3 hb4
    have HA : Hid (WAt wr b1 c1 f) := hwa
    have HB : Hid (WAt wr b2 c2 false) := hwb
    have HC : Hid (Below w.heap.size w wr) := hb
    clear hwa hwb
    by_cases hlt : k < bs.length
    · obtain ⟨b, off, rfl, h0⟩ := (hp.below hb) k hlt
      clear hb hp
      cases hbk : bs[k] with
      | true =>
        rw [hbk] at h0
        clear hbk
        go_wp2_with fail
        refine (fire_calls _ _ f _ HA.out).mono ?_
        rintro e w5 ⟨rfl, ht5, hw5⟩
        have HB5 : Hid (WAt w5 b2 c2 false) := HB.out.touched ht5 G5.out G6.out
        have HC5 : Hid (Below w.heap.size w w5) := HC.out.trans (ht5.toBelow HC.out.size (by intro k hk; have := G1.out; have := G2.out; simp at hk; omega))
        have HA5 : Hid (WAt w5 b1 c1 true) := hw5
        clear HA HB HC ht5 hw5 h0
        cases f <;> (
          go_wp2_with fail
          refine (fired_calls _ _ _ w5 HA5.out).mono ?_
          rintro e w6 ⟨rfl, rfl⟩
          go_wp2_with fail
          refine (fired_calls _ _ _ _ HB5.out).mono ?_
          rintro e w7 ⟨rfl, rfl⟩
          go_wp2
          go_roundw
          case rel => exact ⟨k + 1, true, by omega, by go_num, rfl, HA5.out, HB5.out, HC5.out⟩
          case measure => simp [intOf]; omega)
      | false =>
        rw [hbk] at h0
        clear hbk
        cases f <;> (
          go_wp2_with fail
          refine (fired_calls _ _ _ _ HA.out).mono ?_
          rintro e w6 ⟨rfl, rfl⟩
          go_wp2_with fail
          refine (fired_calls _ _ _ _ HB.out).mono ?_
          rintro e w7 ⟨rfl, rfl⟩
          go_wp2
          go_roundw
          case rel => exact ⟨k + 1, _, by omega, by go_num, rfl, HA.out, HB.out, HC.out⟩
          case measure => simp [intOf]; omega)
    · go_wp2_with fail
      refine (fire_calls _ _ _ _ HB.out).mono ?_
      rintro e w5 ⟨rfl, ht5, hw5⟩
      go_wp2
      go_ret
      exact ⟨rfl, hb.trans (ht5.toBelow hb.size (by intro k hk; have := G3.out; have := G4.out; simp at hk; omega))⟩
end Go.Proofs.Ytppkomnpcpmcmaa
