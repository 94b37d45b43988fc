/- Layer 17 (sched): a chooser in memory; slices.Clone, New, Left, look. -/
import Derived.Test.YtagdgecmoeacgaaScBase
import Derived.Test.YtagdgecmoeacgaaScM
namespace Go.Proofs.Ytagdgecmoeacgaa
open Go.RowKit
set_option linter.unusedVariables false

/-- The chooser at block cb; its blocks are in S. -/
structure ChF (w : World) (S : Nat → Prop) (cb : Nat) (c : Ch) (ao : Option Addr) (cap : Nat) (av : Value) : Prop where
  blk : w.heap[cb]? = some (.cells #[.slice ao c.picks.length cap, .int .i64 c.bound, .int .i64 c.last, av] 58)
  pk : VAt w ao (c.picks.map iV)
  room : c.picks.length ≤ cap
  nil : ao = none → cap = 0
  ag : Ow w 0 3 av (c.ages.map nV)
  scb : S cb
  sp : ∀ a, ao = some a → S a.block ∧ a.block ≠ cb ∧ av.ownBlock ≠ some a.block
  sa : ∀ k, av.ownBlock = some k → S k
  sb : ∀ k, S k → k < w.heap.size
def ChAt (w : World) (S : Nat → Prop) (cb : Nat) (c : Ch) : Prop := ∃ ao cap av, ChF w S cb c ao cap av
/-- Its numbers are in their ranges; no age is above m. -/
structure Okc (c : Ch) (m : Nat) : Prop where
  b1 : 1 ≤ c.bound
  b2 : c.bound ≤ 9223372036854775807
  l1 : -1 ≤ c.last
  l2 : c.last ≤ 140737488355328
  pk : ∀ p ∈ c.picks, -9223372036854775808 ≤ p ∧ p ≤ 9223372036854775807
  pl : c.picks.length ≤ 17592186044416
  ag : ∀ a ∈ c.ages, a ≤ m
variable {S S' : Nat → Prop}
theorem ChF.frm {T : Nat → Prop} {w w' : World} {cb : Nat} {c : Ch} {ao : Option Addr} {cap : Nat} {av : Value} (h : ChF w S cb c ao cap av) (hf : Frm T w w') (hd : ∀ k, S k → ¬ T k) : ChF w' S cb c ao cap av :=
  ⟨(hf.block cb (h.sb _ h.scb) (hd _ h.scb)).trans h.blk, h.pk.frm hf (fun a e => hd _ (h.sp a e).1), h.room, h.nil, h.ag.frm hf (fun k e => hd _ (h.sa k e)), h.scb, h.sp, h.sa, fun k hk => Nat.lt_of_lt_of_le (h.sb k hk) hf.size⟩
theorem ChAt.frm {T : Nat → Prop} {w w' : World} {cb : Nat} {c : Ch} (h : ChAt w S cb c) (hf : Frm T w w') (hd : ∀ k, S k → ¬ T k) : ChAt w' S cb c := by
  obtain ⟨ao, cap, av, h⟩ := h
  exact ⟨ao, cap, av, h.frm hf hd⟩
theorem ChAt.below {w w' : World} {cb : Nat} {c : Ch} (h : ChAt w S cb c) (hb : Below w.heap.size w w') : ChAt w' S cb c := h.frm (Frm.ofBelow hb (fun _ => False)) (fun _ _ h => h)
theorem ChAt.sb {w : World} {cb : Nat} {c : Ch} (h : ChAt w S cb c) : ∀ k, S k → k < w.heap.size := by
  obtain ⟨ao, cap, av, h⟩ := h
  exact h.sb

set_option maxRecDepth 100000 in
set_option maxHeartbeats 1000000 in
theorem cloneI_calls (ao : Option Addr) (n cap : Nat) (ps : List Int) (w : World) (hn : ps.length = n) (hl : n ≤ 17592186044416) (hnil : ao = none → cap = 0 ∧ n = 0) (hp : VAt w ao (ps.map iV)) :
    Calls Try.prog 19 #[.slice ao n cap] w fun e w' => (∃ v, e = .returned v ∧ Ow w' w.heap.size 3 v (ps.map iV)) ∧ Below w.heap.size w w' := by
  cases ao with
  | none =>
    obtain ⟨rfl, rfl⟩ := hnil rfl
    obtain rfl : ps = [] := List.length_eq_zero_iff.1 hn
    have hq : ∀ W : World, (binOp .eql 23 (.slice none 0 0) (.slice none 0 0)).run Try.prog W = .ok (.bool true) W := fun W => Lib.run_eql_slice_nil W 23 3 none 0 0 0 0 Try.underlying23
    go_enter Try.func19, Try.ntmps19
    go_wp2
    go_ret
    exact ⟨⟨_, rfl, Ow.nil _ _ _⟩, Below.refl _ _⟩
  | some ad =>
    have hb0 : Below w.heap.size w (w.alloc (.cells #[] 3)) := (Below.refl _ _).alloc (Nat.le_refl _) _
    have HP : Hid (VAt (w.alloc (.cells #[] 3)) (some ad) (ps.map iV)) := hp.below hb0
    have HO : Hid (Ow (w.alloc (.cells #[] 3)) w.heap.size 3 (.slice (some ⟨w.heap.size, 0, none⟩) 0 0) []) := World.ownsRow_lit (size := 1) w #[] 0 (Nat.le_refl _) (by unfold maxLen; omega) rfl
    clear hp
    have hq : ∀ W : World, (binOp .eql 23 (.slice (some ad) n cap) (.slice none 0 0)).run Try.prog W = .ok (.bool false) W := fun W => Lib.run_eql_slice_nil W 23 3 (some ad) n cap 0 0 Try.underlying23
    go_enter Try.func19, Try.ntmps19
    go_wp2_with (at_builtin; go_must (refine append_vs _ rfl (.tmp 5) (.tmp 6) 23 3 (.int .i64 0) 8 Try.underlying23 info_int rfl rfl w.heap.size _ [] rfl HO.out (some ad) n cap (ps.map iV) rfl (by simpa using hn) (by simp) HP.out (iV_one _) (by simp; omega) (by simp; omega) (by simp) ?_))
    intro v1 w1 ho1 hg1 _
    have hb1 : Below w.heap.size w w1 := hb0.trans ((hg1.toBelow (B := w.heap.size) (by simp) (fun k hk => by simp [Value.ownBlock] at hk; omega)))
    go_wp2
    go_ret
    exact ⟨⟨_, rfl, ho1⟩, hb1⟩

/-- What New leaves. -/
def NewC (w : World) (c : Ch) (e : Ending) (w' : World) : Prop := ∃ cb, e = .returned (.pointer (some ⟨cb, 0, none⟩)) ∧ ChAt w' (fun k => w.heap.size ≤ k ∧ k < w'.heap.size) cb c ∧ Below w.heap.size w w'
theorem newC_ok {w w1 : World} {ao : Option Addr} {cap : Nat} {ps : List Int} {b : Int} (ho : Ow w1 w.heap.size 3 (.slice ao ps.length cap) (ps.map iV)) (hb : Below w.heap.size w w1) :
    NewC w ⟨ps, b, -1, []⟩ (.returned (.pointer (some ⟨w1.heap.size, 0, none⟩))) (w1.alloc (.cells #[.slice ao ps.length cap, .int .i64 b, .int .i64 (-1), .slice none 0 0] 58)) := by
  have hs := hb.size
  obtain ⟨ao', cap', he, h1, h2, h3⟩ := ho.shape
  simp only [Value.slice.injEq] at he
  obtain ⟨rfl, -, rfl⟩ := he
  rw [List.length_map] at h1
  refine ⟨w1.heap.size, rfl, ⟨ao, cap, .slice none 0 0, heap_alloc_new w1 _, (ho.alloc _).v, h1, h2, Ow.nil _ _ _, ⟨hs, by simp [World.size_alloc]⟩, fun a e => ?_, fun k hk => (by cases hk), fun k hk => hk.2⟩, hb.alloc hs _⟩
  obtain ⟨q1, q2, q3⟩ := ho.block a e
  exact ⟨⟨q2, by simp [World.size_alloc]; omega⟩, by omega, fun x => (by cases x)⟩

set_option maxRecDepth 100000 in
set_option maxHeartbeats 1000000 in
theorem newC_calls (ao : Option Addr) (n cap : Nat) (ps : List Int) (b : Int) (w : World) (hn : ps.length = n) (hl : n ≤ 17592186044416) (hnil : ao = none → cap = 0 ∧ n = 0) (hp : VAt w ao (ps.map iV)) :
    Calls Try.prog 11 #[.slice ao n cap, .int .i64 b] w (NewC w ⟨ps, max b 1, -1, []⟩) := by
  have HC := cloneI_calls ao n cap ps w hn hl hnil hp
  clear hp
  subst hn
  by_cases hb : b < 1
  · have hm : max b 1 = 1 := by omega
    rw [hm]
    go_enter Try.func11, Try.ntmps11
    go_wp2_with fail
    refine HC.mono ?_
    clear HC
    rintro e w1 ⟨⟨v, rfl, ho⟩, hb1⟩
    obtain ⟨ao1, cap1, rfl, -⟩ := ho.shape
    rw [List.length_map] at ho ⊢
    have HN : Hid (NewC w ⟨ps, 1, -1, []⟩ _ _) := newC_ok (b := 1) ho hb1
    clear ho hb1
    go_wp2
    go_ret
    exact HN.out
  · have hm : max b 1 = b := by omega
    have hb' : 1 ≤ b := by omega
    rw [hm]
    go_enter Try.func11, Try.ntmps11
    go_wp2_with fail
    refine HC.mono ?_
    clear HC
    rintro e w1 ⟨⟨v, rfl, ho⟩, hb1⟩
    obtain ⟨ao1, cap1, rfl, -⟩ := ho.shape
    rw [List.length_map] at ho ⊢
    have HN : Hid (NewC w ⟨ps, b, -1, []⟩ _ _) := newC_ok (b := b) ho hb1
    clear ho hb1
    go_wp2
    go_ret
    exact HN.out

theorem left_calls (cb : Nat) (c : Ch) (w : World) (h : ChAt w S cb c) : Calls Try.prog 15 #[.pointer (some ⟨cb, 0, none⟩)] w fun e w' => e = .returned (.int .i64 (c.picks.length : Int)) ∧ w' = w := by
  obtain ⟨ao, cap, av, h⟩ := h
  have c0 : w.cell? ⟨cb, 0, none⟩ = some (.slice ao c.picks.length cap) := by rw [cell_blkT h.blk]; rfl
  clear h
  go_enter Try.func15, Try.ntmps15
  go_wp2
  go_ret
  exact ⟨rfl, rfl⟩

set_option maxRecDepth 100000 in
set_option maxHeartbeats 1000000 in
theorem look_calls (cb : Nat) (ago : Option Addr) (ac : Nat) (A : List Nat) (ro : Option Addr) (n rc : Nat) (r : List Bool) (w : World) (hn : r.length = n) (hA : A.length = n) (hm : n ≤ 140737488355328)
    (hc : w.cell? ⟨cb, 3, none⟩ = some (.slice ago n ac)) (ha : VAt w ago (A.map nV)) (hr : VAt w ro (r.map bV)) :
    Calls Try.prog 26 #[.pointer (some ⟨cb, 0, none⟩), .slice ro n rc] w fun e w' => e = .returned (.tuple #[.int .i64 ((lookP r A).1 : Int), .int .i64 ((lookP r A).2 : Int)]) ∧ ∃ q, w' = w.drewN q := by
  have HA : Hid (VAt w ago (A.map nV)) := ha
  have HR : Hid (VAt w ro (r.map bV)) := hr
  have HE : Hid (lookP r A = lookK r A n) := by show _ = _; rw [← hn]; rfl
  have HL : Hid (A.length = n ∧ r.length = n) := ⟨hA, hn⟩
  rw [HE.out]
  clear ha hr hn hA HE
  go_enter Try.func26, Try.ntmps26
  go_wp2
  go_loopw [4, 5, 10] (fun x y i wr => ∃ k c o : Nat, k ≤ n ∧ i = .int .i64 k ∧ x = .int .i64 (c : Int) ∧ y = .int .i64 (o : Int) ∧ Hid (lookK r A k = (c, o)) ∧ ∃ q, wr = w.drewN q) (fun _ _ i _ => n - (intOf i).toNat)
  case atStart => exact ⟨0, 0, 0, Nat.zero_le _, rfl, rfl, rfl, rfl, 0, rfl⟩
  case round =>
    obtain ⟨k, c, o, hk, rfl, rfl, rfl, HP, hdq⟩ := hrel
    have HQ : Hid (∃ q, wr = w.drewN q) := hdq
    have HQ2 : Hid (∀ n, ∃ q, wr.drewN n = w.drewN q) := by intro n; obtain ⟨q, rfl⟩ := hdq; exact ⟨_, World.drewN_drewN _ _ _⟩
    have hbw : Below w.heap.size w wr := by obtain ⟨q, rfl⟩ := hdq; exact below_drawsT w q
    clear hdq
    by_cases hlt : k < n
    · obtain ⟨rb, roff, rfl, hrc⟩ := (HR.out.below hbw).bool k (by rw [HL.out.2]; exact hlt)
      have HI := look_ok r A k (by rw [HL.out.2]; exact hk)
      rw [HP.out] at HI
      have hck := HI.le
      dsimp only at hck
      cases hb : r.getD k false with
      | false =>
        have HS : Hid (lookK r A (k + 1) = (c, o)) := (lookK_succ_false hb).trans HP.out
        rw [hb] at hrc
        clear HI hb hbw
        go_wp2
        go_roundw
        case rel => exact ⟨k + 1, c, o, by omega, by go_num, rfl, rfl, HS, HQ.out⟩
        case measure => simp [intOf]; omega
      | true =>
        have HS : Hid (lookK r A (k + 1) = (c + 1, if c = 0 ∨ A.getD o 0 < A.getD k 0 then k else o)) := by
          have := lookK_succ_true (A := A) hb
          rw [HP.out] at this
          exact this
        rw [hb] at hrc
        by_cases hc0 : c = 0
        · subst hc0
          have HS2 : Hid (lookK r A (k + 1) = (1, k)) := by show _ = _; rw [HS.out, if_pos (.inl rfl)]
          clear HI hb hbw HS hck
          go_wp2_with fail
          go_quiet (fail)
          go_wp2
          go_roundw
          case rel => exact ⟨k + 1, 1, k, by omega, by go_num, rfl, rfl, HS2, HQ2.out _⟩
          case measure => simp [intOf]; omega
        · have hok : o < n := by have := HI.lt (by dsimp only; omega); dsimp only at this; omega
          obtain ⟨ab, aoff, rfl, hak⟩ := (HA.out.below hbw) k (by rw [List.length_map, HL.out.1]; exact hlt)
          obtain ⟨ab', aoff', he, hao⟩ := (HA.out.below hbw) o (by rw [List.length_map, HL.out.1]; exact hok)
          simp only [Option.some.injEq, Addr.mk.injEq, and_true] at he
          obtain ⟨rfl, rfl⟩ := he
          obtain ⟨x, Hx⟩ : ∃ x, Hid (x = A.getD k 0) := ⟨_, rfl⟩
          obtain ⟨y, Hy⟩ : ∃ y, Hid (y = A.getD o 0) := ⟨_, rfl⟩
          have hak1 : wr.cell? ⟨ab, aoff + k, none⟩ = some (.int .i64 (x : Int)) := by
            rw [hak, Hx.out, List.getElem_map, List.getD_eq_getElem?_getD, List.getElem?_eq_getElem (by rw [HL.out.1]; exact hlt)]; rfl
          have hao1 : wr.cell? ⟨ab, aoff + o, none⟩ = some (.int .i64 (y : Int)) := by
            rw [hao, Hy.out, List.getElem_map, List.getD_eq_getElem?_getD, List.getElem?_eq_getElem (by rw [HL.out.1]; exact hok)]; rfl
          have hc3 : wr.cell? ⟨cb, 3, none⟩ = some (.slice (some ⟨ab, aoff, none⟩) n ac) := by rw [hbw.cell (p := ⟨cb, 3, none⟩) (World.block_lt_of_cell? w _ hc)]; exact hc
          rw [← Hx.out, ← Hy.out] at HS
          have hcq : ((c : Int) == 0) = false := by simp; omega
          clear hak hao HI hb hbw Hx Hy
          by_cases hxy : y < x
          · have HS2 : Hid (lookK r A (k + 1) = (c + 1, k)) := by show _ = _; rw [HS.out, if_pos (.inr hxy)]
            have hd : decide ((x : Int) > (y : Int)) = true := by simp; omega
            clear HS
            go_wp2_with fail
            go_quiet (fail)
            go_wp2
            go_roundw
            case rel => exact ⟨k + 1, c + 1, k, by omega, by go_num, by go_num, rfl, HS2, HQ2.out _⟩
            case measure => simp [intOf]; omega
          · have HS2 : Hid (lookK r A (k + 1) = (c + 1, o)) := by show _ = _; rw [HS.out, if_neg (by omega)]
            have hd : decide ((x : Int) > (y : Int)) = false := by simp; omega
            clear HS
            go_wp2_with fail
            go_quiet (fail)
            go_wp2
            go_roundw
            case rel => exact ⟨k + 1, c + 1, o, by omega, by go_num, by go_num, rfl, HS2, HQ2.out _⟩
            case measure => simp [intOf]; omega
    · have hkn : k = n := by omega
      have HZ : Hid (lookK r A n = (c, o)) := by rw [← hkn]; exact HP
      clear hkn HP
      go_wp2
      go_ret2
      exact ⟨by rw [HZ.out]; rfl, HQ.out⟩
end Go.Proofs.Ytagdgecmoeacgaa
