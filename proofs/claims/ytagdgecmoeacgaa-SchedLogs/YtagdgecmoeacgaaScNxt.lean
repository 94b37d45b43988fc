/- Layer 17 (sched): Next. -/
import Derived.Test.YtagdgecmoeacgaaScNext
namespace Go.Proofs.Ytagdgecmoeacgaa
open Go.RowKit
set_option linter.unusedVariables false
variable {S S' : Nat → Prop}

theorem nextP_eq (c : Ch) (r : List Bool) : nextP c r = (⟨(chooseP ⟨c.picks, c.bound, c.last, fitP c.ages r.length⟩ r).1, c.bound, if (chooseP ⟨c.picks, c.bound, c.last, fitP c.ages r.length⟩ r).2.2 = true then ((chooseP ⟨c.picks, c.bound, c.last, fitP c.ages r.length⟩ r).2.1 : Int) else c.last, ageP (fitP c.ages r.length) r (chooseP ⟨c.picks, c.bound, c.last, fitP c.ages r.length⟩ r).2.1⟩, (chooseP ⟨c.picks, c.bound, c.last, fitP c.ages r.length⟩ r).2.1, (chooseP ⟨c.picks, c.bound, c.last, fitP c.ages r.length⟩ r).2.2) := by
  unfold nextP chooseP
  dsimp only
  split <;> rfl
theorem pick_left (ps : List Int) (bound last : Int) (A : List Nat) (r : List Bool) : (∀ p ∈ (pickP ps bound last A r).1, p ∈ ps) ∧ (pickP ps bound last A r).1.length ≤ ps.length := by
  unfold pickP
  split
  · exact ⟨fun p h => h, Nat.le_refl _⟩
  · split
    · exact ⟨fun p h => List.mem_cons_of_mem _ h, by simp⟩
    · exact ⟨fun p h => h, Nat.le_refl _⟩
theorem chosen_lt {c : Ch} {r : List Bool} (h : (chooseP c r).2.2 = true) : (chooseP c r).2.1 < r.length ∧ r.getD (chooseP c r).2.1 false = true := by
  unfold chooseP at h ⊢
  split at h
  · cases h
  · rename_i h0
    rw [if_neg h0]
    exact pick_ok _ _ _ _ _ (by omega)
theorem choose_none {c : Ch} {r : List Bool} (h : (chooseP c r).2.2 = false) : (chooseP c r).2.1 = 0 := by
  unfold chooseP at h ⊢
  split at h
  · rename_i h0; rw [if_pos h0]
  · cases h
/-- The numbers stay in their ranges. -/
theorem Okc.next {c : Ch} {m : Nat} (h : Okc c m) (r : List Bool) (hr : r.length ≤ 140737488355328) : Okc (nextP c r).1 (m + 1) := by
  rw [nextP_eq]
  have hl : (∀ p ∈ (chooseP ⟨c.picks, c.bound, c.last, fitP c.ages r.length⟩ r).1, p ∈ c.picks) ∧ (chooseP ⟨c.picks, c.bound, c.last, fitP c.ages r.length⟩ r).1.length ≤ c.picks.length := by
    unfold chooseP
    split
    · exact ⟨fun p h => h, Nat.le_refl _⟩
    · exact pick_left _ _ _ _ _
  refine ⟨h.b1, h.b2, ?_, ?_, fun p hp => h.pk p (hl.1 p hp), Nat.le_trans hl.2 h.pl, ageP_le (fitP_le h.ag)⟩
  · dsimp only
    split
    · omega
    · exact h.l1
  · dsimp only
    split
    · rename_i h1
      have := (chosen_lt h1).1
      omega
    · exact h.l2
theorem Okc.mono {c : Ch} {m m' : Nat} (h : Okc c m) (hm : m ≤ m') : Okc c m' := ⟨h.b1, h.b2, h.l1, h.l2, h.pk, h.pl, fun a ha => Nat.le_trans (h.ag a ha) hm⟩

/-- What Next leaves. -/
def NextW (w : World) (S : Nat → Prop) (cb : Nat) (q : Ch × Nat × Bool) (e : Ending) (w' : World) : Prop :=
  e = .returned (.tuple #[.int .i64 (q.2.1 : Int), .bool q.2.2]) ∧ ChAt w' (fun k => S k ∨ (w.heap.size ≤ k ∧ k < w'.heap.size)) cb q.1 ∧ Frm S w w'

/-- Between two rounds of Next's loop. -/
structure NxI (w : World) (S' : Nat → Prop) (cb : Nat) (ps : List Int) (bd la : Int) (A : List Nat) (r : List Bool) (ch k : Nat) (ao : Option Addr) (cap : Nat) (av : Value) (W0 wr : World) (S : Nat → Prop) : Prop where
  ch : ChF wr S' cb ⟨ps, bd, la, ageK A r ch k⟩ ao cap av
  frm : Frm S W0 wr
  size : wr.heap.size = w.heap.size

set_option maxRecDepth 100000 in
set_option maxHeartbeats 2000000 in
theorem next_calls (cb : Nat) (c : Ch) (m : Nat) (ro : Option Addr) (n rc : Nat) (r : List Bool) (w : World) (h : ChAt w S cb c) (ho : Okc c m) (hm : m ≤ 4611686018427387904) (hal : c.ages.length ≤ 17592186044416) (hn : r.length = n) (hm2 : n ≤ 17592186044416) (hr : VAt w ro (r.map bV)) (hdj : ∀ a, ro = some a → ¬ S a.block ∧ a.block < w.heap.size) :
    Calls Try.prog 16 #[.pointer (some ⟨cb, 0, none⟩), .slice ro n rc] w (NextW w S cb (nextP c r)) := by
  have HF := fit_calls cb n c w h hm2 (by omega)
  have HR : Hid (VAt w ro (r.map bV)) := hr
  have HDJ : Hid (∀ a, ro = some a → ¬ S a.block ∧ a.block < w.heap.size) := hdj
  have HSB : Hid (∀ k, S k → k < w.heap.size) := h.sb
  have HO : Hid (Okc c m) := ho
  have HN : Hid (r.length = n) := hn
  obtain ⟨q, Hq⟩ : ∃ q, Hid (q = chooseP ⟨c.picks, c.bound, c.last, fitP c.ages n⟩ r) := ⟨_, rfl⟩
  obtain ⟨Z, HZ⟩ : ∃ Z, Hid (Z = nextP c r) := ⟨_, rfl⟩
  have HQ : Hid (Z = (⟨q.1, c.bound, if q.2.2 = true then (q.2.1 : Int) else c.last, ageP (fitP c.ages n) r q.2.1⟩, q.2.1, q.2.2)) := by
    show _ = _
    rw [HZ.out, nextP_eq, hn, Hq.out]
  rw [← HZ.out]
  clear h ho hr hdj hn HZ hal
  have HCL : Hid (q.2.2 = true → q.2.1 < n) := fun hq => by rw [Hq.out] at hq ⊢; have := (chosen_lt hq).1; rwa [HN.out] at this
  obtain ⟨ps, ch, ok⟩ := q
  dsimp only at HCL HQ
  go_enter Try.func16, Try.ntmps16
  go_wp2_with fail
  refine HF.mono ?_
  clear HF
  rintro e w1 ⟨rfl, ⟨ao, cap, av, hC1⟩, hF1⟩
  have HF1 : Hid (Frm S w w1) := hF1
  have HR1 : Hid (VAt w1 ro (r.map bV)) := HR.out.frm hF1 (fun a e => (HDJ.out a e).1)
  have hcb : S cb ∨ w.heap.size ≤ cb ∧ cb < w1.heap.size := hC1.scb
  have HC1 : Hid (ChF w1 (fun k => S k ∨ (w.heap.size ≤ k ∧ k < w1.heap.size)) cb ⟨c.picks, c.bound, c.last, fitP c.ages n⟩ ao cap av) := hC1
  have HD1 : Hid (∀ a, ro = some a → a.block ≠ cb) := fun a e x => by
    have h1 := HDJ.out a e
    rcases hcb with h2 | h2
    · rw [x] at h1; exact h1.1 h2
    · omega
  have HO1 : Hid (Okc ⟨c.picks, c.bound, c.last, fitP c.ages n⟩ m) := ⟨HO.out.b1, HO.out.b2, HO.out.l1, HO.out.l2, HO.out.pk, HO.out.pl, fitP_le HO.out.ag⟩
  have HCh := choose_calls cb ao cap av _ m ro n rc r w1 hC1 HO1.out HN.out (fitP_length _ _) hm2 HR1.out HD1.out
  rw [← Hq.out] at HCh
  clear hC1 hF1 hcb
  go_wp2_with fail
  refine HCh.mono ?_
  clear HCh
  rintro e w2 ⟨rfl, ⟨ao2, cap2, hC2⟩, hF2, hs2⟩
  dsimp only at hC2 ⊢
  have hcb : S cb ∨ w.heap.size ≤ cb ∧ cb < w1.heap.size := HC1.out.scb
  have HF2 : Hid (Frm S w w2) := by
    refine ⟨(hF2.os).trans HF1.out.os, (hF2.tape).trans HF1.out.tape, (hF2.output).trans HF1.out.output, Nat.le_trans HF1.out.size hF2.size, fun k hk hs => ?_⟩
    refine (hF2.block k (Nat.lt_of_lt_of_le hk HF1.out.size) ?_).trans (HF1.out.block k hk hs)
    intro e
    rcases hcb with h2 | h2
    · rw [← e] at h2; exact hs h2
    · omega
  have HI2 : Hid (NxI w2 (fun k => S k ∨ (w.heap.size ≤ k ∧ k < w2.heap.size)) cb ps c.bound c.last (fitP c.ages n) r ch 0 ao2 cap2 av w w2 S) := by
    refine ⟨?_, HF2.out, rfl⟩
    rw [ageK_zero]
    exact hC2.more (fun k hk => by rw [hs2]; exact hk) (fun k hk => by
      rcases hk with hk | hk
      · have := HSB.out k hk; have := HF2.out.size; omega
      · exact hk.2)
  have HAL : Hid ((fitP c.ages n).length = r.length) := by rw [Hid, fitP_length, HN.out]
  obtain ⟨A, HA⟩ : ∃ A, Hid (A = fitP c.ages n) := ⟨_, rfl⟩
  have HAm : Hid (∀ a ∈ A, a ≤ m) := by rw [HA.out]; exact fitP_le HO.out.ag
  rw [← HA.out] at HI2 HAL HQ
  clear hC2 hF2 hs2 hcb HC1 HR1 HF1 HD1 HO1 HF2
  go_wp2
  go_loopw [22] (fun i wr => ∃ k : Nat, k ≤ n ∧ i = .int .i64 k ∧ Hid (NxI w2 (fun k => S k ∨ (w.heap.size ≤ k ∧ k < w2.heap.size)) cb ps c.bound c.last A r ch k ao2 cap2 av w wr S)) (fun i _ => n - (intOf i).toNat)
  case atStart => exact ⟨0, Nat.zero_le _, rfl, HI2⟩
  case round =>
    clear HI2
    obtain ⟨k, hk, rfl, HI⟩ := hrel
    by_cases hlt : k < n
    · have hlr : k < r.length := by rw [HN.out]; exact hlt
      obtain ⟨rb, roff, rfl, hrc⟩ := (HR.out.frm HI.out.frm (fun a e => (HDJ.out a e).1)).bool k hlr
      obtain ⟨ago, ac, rfl, -, -, -⟩ := HI.out.ch.ag.shape
      have hlk : (ageK A r ch k).length = n := by rw [ageK_length _ _ _ _ HAL.out (by omega), HN.out]
      obtain ⟨g, rfl, hak, hfz⟩ := HI.out.ch.ag.at k (by rw [List.length_map, hlk]; exact hlt)
      obtain ⟨x, Hx⟩ : ∃ x, Hid (x = A.getD k 0) := ⟨_, rfl⟩
      have hxm : x ≤ m := by
        rw [Hx.out, List.getD_eq_getElem?_getD, List.getElem?_eq_getElem (by rw [HAL.out]; exact hlr)]
        exact HAm.out _ (List.getElem_mem _)
      have cg : wr.cell? ⟨g, k, none⟩ = some (.int .i64 (x : Int)) := by
        have h1 := ageK_at A r ch k HAL.out hlr
        rw [List.getElem?_eq_getElem (by rw [hlk]; exact hlt)] at h1
        rw [hak, List.getElem_map, Option.some.inj h1, ← Hx.out]; rfl
      have HI1 : Hid (NxI w2 (fun k => S k ∨ (w.heap.size ≤ k ∧ k < w2.heap.size)) cb ps c.bound c.last A r ch k ao2 cap2 (.slice (some ⟨g, 0, none⟩) n ac) w wr S) := by
        have := HI
        rw [List.length_map, hlk] at this
        exact this
      have c3 : wr.cell? ⟨cb, 3, none⟩ = some (.slice (some ⟨g, 0, none⟩) n ac) := by rw [cell_blkT HI1.out.ch.blk]; rfl
      have hgs : S g ∨ w.heap.size ≤ g := by
        rcases HI1.out.ch.sa g rfl with h1 | h1
        · exact .inl h1
        · exact .inr h1.1
      have HN1 : Hid (∀ y : Nat, ageK A r ch (k + 1) = (ageK A r ch k).set k y → NxI w2 (fun k => S k ∨ (w.heap.size ≤ k ∧ k < w2.heap.size)) cb ps c.bound c.last A r ch (k + 1) ao2 cap2 (.slice (some ⟨g, 0, none⟩) n ac) w (wr.setCell ⟨g, k, none⟩ (.int .i64 (y : Int))) S) := by
        intro y hy
        refine ⟨?_, HI1.out.frm.setCell _ _ hgs, by simpa using HI1.out.size⟩
        rw [hy]
        exact (HI1.out.ch.setAge k y).1
      have HS : Hid ((ageK A r ch k).set k (if r.getD k false = true ∧ k ≠ ch then x + 1 else 0) = ageK A r ch (k + 1)) := by rw [Hid, Hx.out]; exact ageK_succ A r ch k HAL.out hlr
      rw [List.length_map, hlk]
      clear hak Hx HI hlk
      cases hb : r.getD k false with
      | false =>
        have HN2 : Hid (NxI _ _ _ _ _ _ _ _ _ _ _ _ _ _ _ _) := HN1.out 0 (by rw [← HS.out, if_neg (by rw [hb]; simp)])
        rw [hb] at hrc
        clear hb HN1 HS HI1 hgs
        go_wp2
        go_roundw
        case rel => exact ⟨k + 1, by omega, by go_num, HN2⟩
        case measure => simp [intOf]; omega
      | true =>
        by_cases hch : k = ch
        · have HN2 : Hid (NxI _ _ _ _ _ _ _ _ _ _ _ _ _ _ _ _) := HN1.out 0 (by rw [← HS.out, if_neg (by simp [hch])])
          rw [hb] at hrc
          have hqc : ((k : Int) != (ch : Int)) = false := by simp [hch]
          clear hch hb HN1 HS HI1 hgs
          go_wp2
          go_roundw
          case rel => exact ⟨k + 1, by omega, by go_num, HN2⟩
          case measure => simp [intOf]; omega
        · have HN2 : Hid (NxI _ _ _ _ _ _ _ _ _ _ _ _ _ _ _ _) := HN1.out (x + 1) (by rw [← HS.out, if_pos ⟨hb, hch⟩])
          rw [hb] at hrc
          have hqc : ((k : Int) != (ch : Int)) = true := by simp; omega
          clear hb HN1 HS HI1 hgs
          go_wp2
          go_roundw
          case rel => exact ⟨k + 1, by omega, by go_num, HN2⟩
          case measure => simp [intOf]; omega
    · have HI1 : Hid (NxI w2 (fun k => S k ∨ (w.heap.size ≤ k ∧ k < w2.heap.size)) cb ps c.bound c.last A r ch n ao2 cap2 av w wr S) := by rw [show n = k by omega]; exact HI
      have HAE : Hid (ageK A r ch n = ageP A r ch) := by rw [← HN.out]; exact ageK_end _ _ _ HAL.out
      have hcb : S cb ∨ w.heap.size ≤ cb ∧ cb < w2.heap.size := HI1.out.ch.scb
      cases ok with
      | false =>
        have HE : Hid (NextW w S cb Z (.returned (.tuple #[.int .i64 (ch : Int), .bool false])) wr) := by
          rw [HQ.out]
          have h1 := HI1.out.ch
          rw [HAE.out, ← HI1.out.size] at h1
          exact ⟨rfl, ⟨_, _, _, h1⟩, HI1.out.frm⟩
        clear HI HI1 HAE hcb
        go_wp2
        go_ret2
        exact HE.out
      | true =>
        have HE : Hid (NextW w S cb Z (.returned (.tuple #[.int .i64 (ch : Int), .bool true])) (wr.setCell ⟨cb, 2, none⟩ (.int .i64 (ch : Int)))) := by
          rw [HQ.out]
          have h1 := (HI1.out.ch.setLast (ch : Int)).1
          rw [HAE.out, ← HI1.out.size] at h1
          refine ⟨rfl, ⟨ao2, cap2, av, ?_⟩, HI1.out.frm.setCell _ _ ?_⟩
          · rw [show (wr.setCell ⟨cb, 2, none⟩ (.int .i64 (ch : Int))).heap.size = wr.heap.size by simp]
            exact h1
          · rcases hcb with h2 | h2
            · exact .inl h2
            · exact .inr h2.1
        have c2 : wr.cell? ⟨cb, 2, none⟩ = some (.int .i64 c.last) := by rw [cell_blkT HI1.out.ch.blk]; rfl
        have f2 : wr.frozen? ⟨cb, 2, none⟩ = false := frozen_blkT HI1.out.ch.blk
        clear HI HI1 HAE hcb
        go_wp2
        go_ret2
        exact HE.out
end Go.Proofs.Ytagdgecmoeacgaa
