/- Layer 14 (timers): the law's example. -/
import Derived.Test.YtedhjdkhfndinaaTiSame
namespace Go.Proofs.Ytedhjdkhfndinaa
open Go.RowKit Go.MapKept
set_option linter.unusedVariables false

theorem IAt.new (w : World) (l : List Int) : IAt (w.alloc (.cells (l.map (Value.int .i64)).toArray 3)) (some ⟨w.heap.size, 0, none⟩) l := fun k hk => by
  refine ⟨w.heap.size, 0, rfl, ?_⟩
  rw [Nat.zero_add, World.cell?_alloc_mark]
  simp [hk]
/-- Turns are unlike: so are timers. -/
theorem apart_turns {L : List Tm} (h : (L.map (·.turn)).Nodup) : Apart L := by
  intro x hx y hy h1 h2
  rw [leT_iff] at h1 h2
  have he : x.turn = y.turn := by omega
  clear h1 h2
  induction L with
  | nil => cases hx
  | cons a L ih =>
    rw [List.map_cons, List.nodup_cons] at h
    rcases List.mem_cons.1 hx with h1 | h1 <;> rcases List.mem_cons.1 hy with h2 | h2
    · rw [h1, h2]
    · exact absurd (List.mem_map.2 ⟨y, h2, by rw [← he, h1]⟩) h.1
    · exact absurd (List.mem_map.2 ⟨x, h1, by rw [he, h2]⟩) h.1
    · exact ih h.2 h1 h2

def t1 (b : Nat) : Tm := ⟨1, 5, 0 + 1, b⟩
def t2 (b : Nat) : Tm := ⟨2, 3, 0 + 1 + 1, b⟩
def t3 (b : Nat) : Tm := ⟨3, 5, 0 + 1 + 1 + 1, b⟩
theorem alive_apart (b1 b2 b3 : Nat) : Apart [t1 b1, t2 b2, t3 b3] := apart_turns (by simp [t1, t2, t3])
theorem alive_fires (b1 b2 b3 : Nat) : Fires 4 [t1 b1, t2 b2, t3 b3] [t2 b2] [t1 b1, t3 b3] := by
  refine ⟨List.Perm.swap _ _ _, by simp, ?_, ?_⟩
  · intro x hx
    rw [List.mem_singleton.1 hx]; simp [t2]
  · intro x hx
    rcases List.mem_cons.1 hx with rfl | hx
    · simp [t1]
    · rw [List.mem_singleton.1 hx]; simp [t3]
theorem alive_apart2 (b1 b3 : Nat) : Apart [t1 b1, t3 b3] := apart_turns (by simp [t1, t3])
theorem alive_fires2 (b1 b3 : Nat) : Fires 9 [t1 b1, t3 b3] [t1 b1, t3 b3] [] := by
  refine ⟨by simp, ?_, ?_, by simp⟩
  · simp [leT_iff, t1, t3]
  · intro x hx
    rcases List.mem_cons.1 hx with rfl | hx
    · simp [t1]
    · rw [List.mem_singleton.1 hx]; simp [t3]
theorem alive_next {L : List Tm} {b1 b2 b3 : Nat} (hp : L.Perm [t1 b1, t2 b2, t3 b3]) (hh : HpAll L L.length) : nextOf L = (3, true) := by
  cases L with
  | nil => exact absurd hp.length_eq (by simp)
  | cons x L =>
    have h2 : leT x (t2 b2) := WhAt.least hh rfl _ (hp.mem_iff.2 (by simp))
    have hx : x ∈ [t1 b1, t2 b2, t3 b3] := hp.mem_iff.1 (by simp)
    rw [leT_iff] at h2
    simp only [List.mem_cons, List.not_mem_nil, or_false] at hx
    rcases hx with rfl | rfl | rfl
    · simp [t1, t2] at h2
    · rfl
    · simp [t3, t2] at h2

set_option maxRecDepth 100000 in
set_option maxHeartbeats 1000000 in
theorem alive_calls (w : World) : Calls Try.prog 7 #[] w fun e w' => e = .returned (.bool true) ∧ Below w.heap.size w w' := by
  have HN := new_calls 9 w
  go_enter Try.func7, Try.ntmps7
  go_wp2_with fail
  refine HN.mono ?_
  clear HN
  rintro e w1 ⟨wb, mb, rfl, hW1, hB1⟩
  have HS := set_ok w1 1 5 hW1 (fun x hx => by cases hx) (by decide) (by decide) (by decide) (by decide)
  have HB1 : Hid (Below w.heap.size w w1) := hB1
  clear hW1 hB1
  go_wp2_with fail
  refine HS.mono ?_
  clear HS
  rintro e w2 ⟨v2, L2, b1, S2, rfl, hW2, hp2, hf2, hs2⟩
  have HB2 : Hid (Below w.heap.size w w2 ∧ (∀ k, S2 k → w.heap.size ≤ k) ∧ L2.Perm [t1 b1]) :=
    ⟨HB1.out.trans (hf2.toBelow HB1.out.size (fun k hk => hk.1)), fun k hk => by
      rcases hs2 k hk with h | h
      · exact h.1
      · exact Nat.le_trans HB1.out.size h.1, hp2⟩
  have hl2 : L2.length = 1 := hp2.length_eq
  have HS := set_ok w2 2 3 hW2 (fun x hx => by rw [List.mem_singleton.1 (hp2.mem_iff.1 hx)]; simp) (by rw [hl2]; decide) (by decide) (by decide) (by rw [hl2]; decide)
  clear hW2 hp2 hf2 hs2 HB1
  go_wp2_with fail
  refine HS.mono ?_
  clear HS
  rintro e w3 ⟨v3, L3, b2, S3, rfl, hW3, hp3, hf3, hs3⟩
  have hp3' : L3.Perm [t1 b1, t2 b2] := hp3.trans (HB2.out.2.2.append_right _)
  have HB3 : Hid (Below w.heap.size w w3 ∧ (∀ k, S3 k → w.heap.size ≤ k) ∧ L3.Perm [t1 b1, t2 b2]) :=
    ⟨HB2.out.1.trans (hf3.toBelow HB2.out.1.size HB2.out.2.1), fun k hk => by
      rcases hs3 k hk with h | h
      · exact HB2.out.2.1 k h
      · exact Nat.le_trans HB2.out.1.size h.1, hp3'⟩
  have hl3 : L3.length = 2 := hp3'.length_eq
  have HS := set_ok w3 3 5 hW3 (fun x hx => by
    have := hp3'.mem_iff.1 hx
    simp only [List.mem_cons, List.not_mem_nil, or_false] at this
    rcases this with rfl | rfl <;> simp [t1, t2]) (by rw [hl3]; decide) (by decide) (by decide) (by rw [hl3]; decide)
  clear hW3 hp3 hf3 hs3 hp3' HB2
  go_wp2_with fail
  refine HS.mono ?_
  clear HS
  rintro e w4 ⟨v4, L4, b3, S4, rfl, hW4, hp4, hf4, hs4⟩
  have hp4' : L4.Perm [t1 b1, t2 b2, t3 b3] := hp4.trans (HB3.out.2.2.append_right _)
  have HB4 : Hid (Below w.heap.size w w4 ∧ (∀ k, S4 k → w.heap.size ≤ k) ∧ L4.Perm [t1 b1, t2 b2, t3 b3]) :=
    ⟨HB3.out.1.trans (hf4.toBelow HB3.out.1.size HB3.out.2.1), fun k hk => by
      rcases hs4 k hk with h | h
      · exact HB3.out.2.1 k h
      · exact Nat.le_trans HB3.out.1.size h.1, hp4'⟩
  have hl4 : L4.length = 3 := hp4'.length_eq
  have HN := wnext_calls w4 hW4
  rw [alive_next hp4' hW4.hp] at HN
  have HA := adv_ok w4 4 hW4 (by decide) (by rw [hl4]; decide)
  have HSB : Hid (∀ k, S4 k → k < w4.heap.size) := hW4.sb
  clear hW4 hp4 hf4 hs4 hp4' HB3
  go_wp2_with fail
  refine HN.mono ?_
  clear HN
  rintro e w4' ⟨rfl, rfl⟩
  go_wp2_with fail
  refine HA.mono ?_
  clear HA
  rintro e w5 ⟨r5, v5, fs5, R5, rfl, hW5, hF5, ho5, hf5⟩
  obtain ⟨rfl, hR5⟩ := hF5.uniq (alive_fires b1 b2 b3) HB4.out.2.2 ((alive_apart b1 b2 b3).perm HB4.out.2.2)
  obtain ⟨ao5, cap5, hr5⟩ := ownsRow_len ho5
  subst hr5
  have HB5 : Hid (Below w.heap.size w w5 ∧ R5.Perm [t1 b1, t3 b3]) := ⟨HB4.out.1.trans (hf5.toBelow HB4.out.1.size HB4.out.2.1), hR5⟩
  have hl5 : R5.length = 2 := hR5.length_eq
  have HA := adv_ok w5 9 hW5 (by decide) (by rw [hl5]; decide)
  have HO5 : Hid (w5.ownsRow w4'.heap.size 3 1 (.slice ao5 1 cap5) ([t2 b2].map idV).length ([t2 b2].map idV)) := ho5
  clear hW5 hF5 ho5 hf5 hR5
  go_wp2_with fail
  refine HA.mono ?_
  clear HA
  rintro e w6 ⟨r6, v6, fs6, R6, rfl, hW6, hF6, ho6, hf6⟩
  obtain ⟨rfl, hR6⟩ := hF6.uniq (alive_fires2 b1 b3) HB5.out.2 ((alive_apart2 b1 b3).perm HB5.out.2)
  obtain ⟨ao6, cap6, hr6⟩ := ownsRow_len ho6
  subst hr6
  have HB6 : Hid (Below w.heap.size w w6) := HB5.out.1.trans (hf6.toBelow HB5.out.1.size HB4.out.2.1)
  have HI5 : Hid (IAt w6 ao5 [2]) := (IAt.own (ownsRow_frm HO5.out hf6 (fun k hk hs => by have := HSB.out k hs; omega))).1
  have HI6 : Hid (IAt w6 ao6 [1, 3]) := (IAt.own ho6).1
  clear hW6 hF6 ho6 hf6 hR6 HO5 HSB HB5 HB4
  have HC1 := sameI_calls ao5 (some ⟨w6.heap.size, 0, none⟩) cap5 1 [2] [2] (w6.alloc (.cells #[.int .i64 2] 3)) (by decide) (by decide) (HI5.out.below ((Below.refl _ _).alloc (Nat.le_refl _) _)) (IAt.new w6 [2])
  go_wp2_with fail
  refine HC1.mono ?_
  clear HC1
  rintro e w7 ⟨rfl, q7, hw7⟩
  have HB7 : Hid (Below w6.heap.size w6 w7) := by rw [hw7]; exact ((Below.refl _ _).alloc (Nat.le_refl _) _).trans ((below_drawsT _ q7).mono (by simp [World.size_alloc]))
  clear hw7
  have HC2 := sameI_calls ao6 (some ⟨w7.heap.size, 0, none⟩) cap6 2 [1, 3] [1, 3] (w7.alloc (.cells #[.int .i64 1, .int .i64 3] 3)) (by decide) (by decide) ((HI6.out.below HB7.out).below ((Below.refl _ _).alloc (Nat.le_refl _) _)) (IAt.new w7 [1, 3])
  go_wp2_with fail
  refine HC2.mono ?_
  clear HC2
  rintro e w8 ⟨rfl, q8, hw8⟩
  have HB8 : Hid (Below w.heap.size w w8) := by
    rw [hw8]
    exact (HB6.out.trans (HB7.out.mono HB6.out.size)).trans ((((Below.refl _ w7).alloc (Nat.le_refl _) _).trans ((below_drawsT _ q8).mono (by simp [World.size_alloc]))).mono (Nat.le_trans HB6.out.size HB7.out.size))
  clear hw8
  go_wp2
  go_ret
  exact ⟨rfl, HB8.out⟩

theorem wrapU (x : Int) : IntKind.u64.wrap x = x % 18446744073709551616 := by simp [IntKind.wrap, IntKind.bits, IntKind.signed]
/-- now and wait, at most the greatest. -/
def sat (now wait : Int) : Int := if wait > 18446744073709551615 - now then 18446744073709551615 else now + wait
set_option maxRecDepth 100000 in
theorem after_calls (now wait : Int) (w : World) (h1 : 0 ≤ now) (h2 : now ≤ 18446744073709551615) (h3 : 0 ≤ wait) (h4 : wait ≤ 18446744073709551615) :
    Calls Try.prog 22 #[.int .u64 now, .int .u64 wait] w fun e w' => e = .returned (.int .u64 (sat now wait)) ∧ w' = w := by
  have hw : (18446744073709551615 - now) % 18446744073709551616 = 18446744073709551615 - now := by omega
  by_cases h : wait > 18446744073709551615 - now
  · have hs : sat now wait = 18446744073709551615 := if_pos h
    rw [hs]
    go_enter Try.func22, Try.ntmps22
    go_wp2
    go_ret
    exact ⟨rfl, rfl⟩
  · have hs : sat now wait = now + wait := if_neg h
    have hw2 : (now + wait) % 18446744073709551616 = now + wait := by omega
    have h' : wait ≤ 18446744073709551615 - now := by omega
    rw [hs]
    go_enter Try.func22, Try.ntmps22
    go_wp2
    go_ret
    exact ⟨rfl, rfl⟩
set_option maxRecDepth 100000 in
theorem rafter_calls (now wait : Int) (w : World) (h1 : 0 ≤ now) (h2 : now ≤ 18446744073709551615) (h3 : 0 ≤ wait) (h4 : wait ≤ 18446744073709551615) :
    Calls Try.prog 14 #[.int .u64 now, .int .u64 wait] w fun e w' => e = .returned (.int .u64 (sat now wait)) ∧ w' = w := by
  by_cases h : wait > 18446744073709551615 - now
  · have hs : sat now wait = 18446744073709551615 := if_pos h
    have hq : IntKind.u64.wrap (now + wait) < now := by rw [wrapU]; omega
    rw [hs]
    go_enter Try.func14, Try.ntmps14
    go_wp2
    go_ret
    exact ⟨rfl, rfl⟩
  · have hs : sat now wait = now + wait := if_neg h
    have hw2 : (now + wait) % 18446744073709551616 = now + wait := by omega
    rw [hs]
    go_enter Try.func14, Try.ntmps14
    go_wp2
    go_ret
    exact ⟨rfl, rfl⟩
set_option maxRecDepth 100000 in
theorem timersNames_calls (w : World) : Calls Try.prog 3 #[] w fun e w' => e = .returned (.bool true) ∧ Below w.heap.size w w' := by
  have HA := alive_calls w
  go_enter Try.func3, Try.ntmps3
  go_wp2_with fail
  refine HA.mono ?_
  clear HA
  rintro e w1 ⟨rfl, hb⟩
  go_wp2
  go_ret
  exact ⟨rfl, hb⟩
theorem sat_ge (now wait : Int) (h1 : 0 ≤ now) (h2 : now ≤ 18446744073709551615) (h3 : 0 ≤ wait) (h4 : wait ≤ 18446744073709551615) : now ≤ sat now wait ∧ wait ≤ sat now wait ∧ sat wait now = sat now wait := by
  unfold sat
  split <;> split <;> omega
set_option maxRecDepth 100000 in
theorem timersAfter_calls (now wait : Int) (w : World) (h1 : 0 ≤ now) (h2 : now ≤ 18446744073709551615) (h3 : 0 ≤ wait) (h4 : wait ≤ 18446744073709551615) :
    Calls Try.prog 6 #[.int .u64 now, .int .u64 wait] w fun e w' => e = .returned (.bool true) ∧ Below w.heap.size w w' := by
  have HA := alive_calls w
  obtain ⟨g1, g2, g3⟩ := sat_ge now wait h1 h2 h3 h4
  have HF1 : Hid (∀ w, Calls Try.prog 22 #[.int .u64 now, .int .u64 wait] w fun e w' => e = .returned (.int .u64 (sat now wait)) ∧ w' = w) := fun w => after_calls now wait w h1 h2 h3 h4
  have HF2 : Hid (∀ w, Calls Try.prog 22 #[.int .u64 wait, .int .u64 now] w fun e w' => e = .returned (.int .u64 (sat now wait)) ∧ w' = w) := fun w => by rw [← g3]; exact after_calls wait now w h3 h4 h1 h2
  have HF3 : Hid (∀ w, Calls Try.prog 14 #[.int .u64 now, .int .u64 wait] w fun e w' => e = .returned (.int .u64 (sat now wait)) ∧ w' = w) := fun w => rafter_calls now wait w h1 h2 h3 h4
  obtain ⟨s, Hs⟩ : ∃ s, Hid (s = sat now wait) := ⟨_, rfl⟩
  rw [← Hs.out] at g1 g2 HF1 HF2 HF3
  clear g3
  have hq : (s == s) = true := by simp
  go_enter Try.func6, Try.ntmps6
  go_wp2_with fail
  refine HA.mono ?_
  clear HA
  rintro e w1 ⟨rfl, hb⟩
  go_wp2_with fail
  refine (HF1.out _).mono ?_
  rintro e w2 ⟨rfl, rfl⟩
  go_wp2_with fail
  refine (HF3.out _).mono ?_
  rintro e w3 ⟨rfl, rfl⟩
  go_wp2_with fail
  refine (HF2.out _).mono ?_
  rintro e w4 ⟨rfl, rfl⟩
  go_wp2
  go_ret
  exact ⟨ret_bool (by simp), hb⟩
end Go.Proofs.Ytedhjdkhfndinaa
