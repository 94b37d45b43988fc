/- Layer 17 (sched): the law on turns. -/
import Derived.Test.YteckckohflnahaaScAlive
import Derived.Test.YteckckohflnahaaScTurnM
namespace Go.Proofs.Yteckckohflnahaa
open Go.RowKit
set_option linter.unusedVariables false
variable {S S' : Nat → Prop}

/-- The chooser is the law's own; so is the list, which is no block of the chooser's. -/
structure RdI (w : World) (S : Nat → Prop) (cb : Nat) (c : Ch) (g : Nat) (l : List Value) (wr : World) : Prop where
  own : Own1 w S cb c wr
  rd : VAt wr (some ⟨g, 0, none⟩) l
  ng : ¬ S g
  gl : g < wr.heap.size
theorem RdI.more {w wr w1 : World} {cb g : Nat} {c : Ch} {l : List Value} (h : RdI w S cb c g l wr) (hb : Below wr.heap.size wr w1) : RdI w S cb c g l w1 := ⟨h.own.more hb, h.rd.below hb, h.ng, Nat.lt_of_lt_of_le h.gl hb.size⟩
theorem RdI.next {w wr w1 : World} {cb g : Nat} {c c' : Ch} {l : List Value} (h : RdI w S cb c g l wr) (hc : ChAt w1 (fun k => S k ∨ (wr.heap.size ≤ k ∧ k < w1.heap.size)) cb c') (hf : Frm S wr w1) : RdI w (fun k => S k ∨ (wr.heap.size ≤ k ∧ k < w1.heap.size)) cb c' g l w1 :=
  ⟨h.own.next hc hf, h.rd.frm hf (fun a e => by cases e; exact h.ng), fun x => by
    rcases x with x | x
    · exact h.ng x
    · have := h.gl; omega, Nat.lt_of_lt_of_le h.gl hf.size⟩
/-- What append([]T{}, l...) makes: new memory. -/
theorem app_below {W W0 w' : World} {v v' : Value} (h0 : Below W0.heap.size W0 W) (hg : Grew W w' v v') (hv : ∀ k, v.ownBlock = some k → W0.heap.size ≤ k) : Below W0.heap.size W0 w' := h0.trans (hg.toBelow h0.size hv)
theorem Ow.shapeB {w : World} {B : Nat} {e : TypeId} {v : Value} {X : List Value} {l : List Bool} {n : Nat} (h : Ow w B e v X) (hX : X = l.map bV) (hn : l.length = n) : ∃ ao cap, v = .slice ao n cap ∧ VAt w ao (l.map bV) ∧ (∀ a, ao = some a → B ≤ a.block ∧ a.block < w.heap.size) ∧ (ao = none → cap = 0 ∧ n = 0) := by
  subst hX
  subst hn
  obtain ⟨ao, cap, e, h1, h2, -⟩ := h.shape
  rw [List.length_map] at e h1
  subst e
  exact ⟨ao, cap, rfl, h.v, fun a ea => (h.block a ea).2, fun en => ⟨h2 en, by have := h2 en; omega⟩⟩
theorem emptyB (W : World) (e : TypeId) : Ow (W.alloc (.cells #[] e)) W.heap.size e (.slice (some ⟨W.heap.size, 0, none⟩) 0 0) [] := World.ownsRow_lit (size := 1) W #[] 0 (Nat.le_refl _) (by unfold maxLen; omega) rfl
theorem set_true {m k : Nat} (hk : k < m) : (List.replicate k true ++ List.replicate (m - k) false).set k true = List.replicate (k + 1) true ++ List.replicate (m - (k + 1)) false := by
  rw [List.set_append_right _ _ (by simp), List.length_replicate, Nat.sub_self, show m - k = (m - (k + 1)) + 1 by omega, List.replicate_succ, List.set_cons_zero, List.replicate_succ', List.append_assoc]
  rfl
theorem okc_al {c : Ch} {n : Nat} {r : List Bool} (hn : r.length ≤ n) : (nextP c r).1.ages.length ≤ n := by rw [nextP_eq]; simp [ageP_length]; exact hn

set_option maxRecDepth 100000 in
set_option maxHeartbeats 2000000 in
theorem schedTurns_calls (n rounds bound : Int) (w : World) (hb2 : bound ≤ 9223372036854775807) : Calls Try.prog 5 #[.int .i64 n, .int .i64 rounds, .int .i64 bound] w fun e w' => e = .returned (.bool true) ∧ Below w.heap.size w w' := by
  have HA := alive_calls w
  go_enter Try.func5, Try.ntmps5
  go_wp2_with fail
  refine HA.mono ?_
  clear HA
  rintro e w1 ⟨rfl, hb1⟩
  by_cases h1 : n < 1
  · go_wp2
    go_ret
    exact ⟨rfl, hb1⟩
  by_cases h2 : 40 < n
  · have h1' : 1 ≤ n := by omega
    go_wp2
    go_ret
    exact ⟨rfl, hb1⟩
  by_cases h3 : rounds < 0
  · have h1' : 1 ≤ n := by omega
    have h2' : n ≤ 40 := by omega
    go_wp2
    go_ret
    exact ⟨rfl, hb1⟩
  by_cases h4 : 20 < rounds
  · have h1' : 1 ≤ n := by omega
    have h2' : n ≤ 40 := by omega
    have h3' : 0 ≤ rounds := by omega
    go_wp2
    go_ret
    exact ⟨rfl, hb1⟩
  obtain ⟨m, rfl⟩ : ∃ m : Nat, n = (m : Int) := ⟨n.toNat, by omega⟩
  obtain ⟨rs, rfl⟩ : ∃ m : Nat, rounds = (m : Int) := ⟨rounds.toNat, by omega⟩
  have h1' : 1 ≤ m := by omega
  have h2' : m ≤ 40 := by omega
  have h4' : rs ≤ 20 := by omega
  have h3 : (0 : Int) ≤ (rs : Int) := by omega
  have h1 : (1 : Int) ≤ (m : Int) := by omega
  have h2 : (m : Int) ≤ 40 := by omega
  have h4 : (rs : Int) ≤ 20 := by omega
  have HN := newC_calls none 0 0 [] bound w1 rfl (by omega) (fun _ => ⟨rfl, rfl⟩) (VAt.nil _ _)
  have HB1 : Hid (Below w.heap.size w w1) := hb1
  clear hb1
  go_wp2_with fail
  refine HN.mono ?_
  clear HN
  rintro e w2 ⟨cb, rfl, hc2, hb2⟩
  have HO2 : Hid (Own1 w _ cb ⟨[], max bound 1, -1, []⟩ w2 ∧ ∀ k, (w1.heap.size ≤ k ∧ k < w2.heap.size) → k < w2.heap.size) := ⟨Own1.newer HB1.out hc2 hb2, fun k hk => hk.2⟩
  obtain ⟨S2, HO2⟩ : ∃ S, Hid (Own1 w S cb ⟨[], max bound 1, -1, []⟩ w2 ∧ ∀ k, S k → k < w2.heap.size) := ⟨_, HO2.out⟩
  obtain ⟨w3, hmk, ho3, hb3⟩ := make_bool w2 m (by omega)
  obtain ⟨g, Hg⟩ : ∃ g, Hid (g = w2.heap.size) := ⟨_, rfl⟩
  rw [← Hg.out] at hmk ho3
  have HR3 : Hid (Ow w3 g 4 (.slice (some ⟨g, 0, none⟩) m m) ((List.replicate 0 true ++ List.replicate (m - 0) false).map bV)) := by
    simpa [bV, Hid] using ho3
  have HB3 : Hid (Below w2.heap.size w2 w3) := hb3
  clear hc2 hb2 ho3 hb3 HB1
  go_wp2
  clear hmk
  go_loopw [37] (fun i wr => ∃ k : Nat, k ≤ m ∧ i = .int .i64 k ∧ Hid (Ow wr g 4 (.slice (some ⟨g, 0, none⟩) m m) ((List.replicate k true ++ List.replicate (m - k) false).map bV)) ∧ Hid (Below w2.heap.size w2 wr)) (fun i _ => m - (intOf i).toNat)
  case atStart => exact ⟨0, Nat.zero_le _, rfl, HR3, HB3⟩
  case round =>
    clear HR3 HB3
    obtain ⟨k, hk, rfl, HR, HB⟩ := hrel
    by_cases hlt : k < m
    · have HR2 : Hid (Ow (wr.setCell ⟨g, k, none⟩ (.bool true)) g 4 (.slice (some ⟨g, 0, none⟩) m m) ((List.replicate (k + 1) true ++ List.replicate (m - (k + 1)) false).map bV)) := by
        have := HR.out.stored k (bV true)
        rw [← List.map_set, set_true hlt] at this
        exact this
      have HB2 : Hid (Below w2.heap.size w2 (wr.setCell ⟨g, k, none⟩ (.bool true))) := HB.out.setCell (by show w2.heap.size ≤ g; rw [Hg.out]; exact Nat.le_refl _) _
      have hat := HR.out.at k (by simp; omega)
      obtain ⟨g', eg, hc, hf⟩ := hat
      simp only [Option.some.injEq, Addr.mk.injEq, and_true] at eg
      subst eg
      clear HR HB
      go_wp2
      go_roundw
      case rel => exact ⟨k + 1, by omega, by go_num, HR2, HB2⟩
      case measure => simp [intOf]; omega
    · have HI : Hid (RdI w S2 cb ⟨[], max bound 1, -1, []⟩ g ((List.replicate m true).map bV) wr) := by
        have hkm : k = m := by omega
        have hv := HR.out
        rw [hkm] at hv
        refine ⟨HO2.out.1.more HB.out, ?_, fun h => ?_, ?_⟩
        · have := hv.v
          simpa using this
        · have := HO2.out.2 _ h; rw [Hg.out] at this; omega
        · exact (hv.lt g rfl).2
      obtain ⟨N, HN⟩ : ∃ N : Nat, (m : Int) * (rs : Int) = (N : Int) := ⟨m * rs, by rw [Int.natCast_mul]⟩
      have hN : N ≤ 800 := by
        have h5 : (m : Int) * (rs : Int) ≤ 40 * 20 := Int.mul_le_mul h2 h4 (by omega) (by omega)
        omega
      clear HR HB HO2 Hg
      go_wp2
      go_loopw [10] (fun i wr => ∃ (k : Nat) (S : Nat → Prop) (c : Ch), k ≤ N ∧ i = .int .i64 k ∧ Hid (RdI w S cb c g ((List.replicate m true).map bV) wr) ∧ Hid (TI m (max bound 1) k c ∧ Okc c k ∧ c.ages.length ≤ m)) (fun i _ => N - (intOf i).toNat)
      case atStart => exact ⟨0, S2, _, Nat.zero_le _, rfl, HI, TI.zero h1', ⟨by show 1 ≤ max bound 1; omega, by show max bound 1 ≤ _; omega, by show (-1 : Int) ≤ -1; omega, by show (-1 : Int) ≤ _; omega, by simp, by simp, by simp⟩, by simp⟩
      case round =>
        clear HI
        obtain ⟨k, S, c, hk, rfl, HI, HT⟩ := hrel
        by_cases hlt : k < N
        · obtain ⟨t, Ht⟩ : ∃ t, Hid (t = k % m) := ⟨_, rfl⟩
          obtain ⟨hnx, htn⟩ := HT.out.1.next h1'
          rw [← Ht.out] at hnx
          have hrem : (k : Int) % (m : Int) = (t : Int) := by rw [Ht.out]; omega
          have HX : Hid ((nextP c (List.replicate m true)).2 = (t, true)) := hnx
          have HT2 : Hid (TI m (max bound 1) (k + 1) (nextP c (List.replicate m true)).1 ∧ Okc (nextP c (List.replicate m true)).1 (k + 1) ∧ (nextP c (List.replicate m true)).1.ages.length ≤ m) := ⟨htn, HT.out.2.1.next _ (by simp; omega), okc_al (by simp)⟩
          have HB0 : Hid (Below wr.heap.size wr (wr.alloc (.cells #[] 4))) := below_alloc _ _
          clear hnx htn Ht
          go_wp2_with (at_builtin; go_must (refine append_vs _ rfl (.tmp 53) (.tmp 54) 31 4 (.bool false) 1 Try.underlying31 info_bool rfl rfl wr.heap.size _ [] rfl (emptyB wr _) (some ⟨g, 0, none⟩) m m ((List.replicate m true).map bV) rfl (by simp) (by simp) (HI.out.rd.below HB0.out) (bV_one _) (by simp; omega) (by simp; omega) (by simp [World.size_alloc]) ?_))
          intro v5 w5 ho5 hg5 _
          have hb5 : Below wr.heap.size wr w5 := app_below HB0.out hg5 (fun j hj => by simp [Value.ownBlock] at hj; omega)
          obtain ⟨ao5, c5, rfl, hv5, hq5, -⟩ := ho5.shapeB (l := List.replicate m true) (n := m) (by simp) (by simp)
          have HI5 : Hid (RdI w S cb c g ((List.replicate m true).map bV) w5) := HI.out.more hb5
          have HXC := next_calls cb c k ao5 m c5 (List.replicate m true) w5 HI5.out.own.ch HT.out.2.1 (by omega) (by have := HT.out.2.2; omega) (by simp) (by omega) hv5 (fun a ea => by
            obtain ⟨q2, q3⟩ := hq5 a ea
            exact ⟨fun h => by have := HI.out.own.ch.sb _ h; omega, q3⟩)
          clear ho5 hg5 hb5 HB0 hv5 hq5
          go_wp2_with fail
          refine HXC.mono ?_
          clear HXC
          rintro e w6 ⟨he, hc6, hf6⟩
          rw [HX.out] at he
          subst he
          have HI6 : Hid (RdI w _ cb _ g ((List.replicate m true).map bV) w6) := HI5.out.next hc6 hf6
          have hq : ((t : Int) != (t : Int)) = false := by simp
          clear hc6 hf6 HI5 HI
          go_wp2
          go_roundw
          case rel => exact ⟨k + 1, _, _, by omega, by go_num, HI6, HT2⟩
          case measure => simp [intOf]; omega
        · go_wp2
          go_ret
          exact ⟨rfl, HI.out.own.below⟩
end Go.Proofs.Yteckckohflnahaa
