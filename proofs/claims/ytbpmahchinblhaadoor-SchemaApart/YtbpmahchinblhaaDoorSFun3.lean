/- Layer 6 (schema): anyTwice, takeFlag, mayStand. -/
import Derived.Test.YtbpmahchinblhaaDoorSFun2
namespace Go.Proofs.YtbpmahchinblhaaDoor
open Go.RowKit
set_option linter.unusedVariables false

theorem twice_at {ws : List ByteArray} {k : Nat} (hk : k < ws.length) (h : ws[k] ∈ ws.take k) : true = twiceW ws := by
  have : ¬ ws.Nodup := by
    intro hn
    obtain ⟨i, hi, e⟩ := List.getElem_of_mem h
    rw [List.getElem_take] at e
    have hik : i < k := by simp at hi; omega
    exact (List.pairwise_iff_getElem.1 hn i k (by omega) hk hik) e
  simp [twiceW, this]
def onceTo (ws : List ByteArray) (k : Nat) : Prop := ∀ i (h : i < ws.length), i < k → ws[i] ∉ ws.take i
theorem twice_none {ws : List ByteArray} {k : Nat} (hk : ws.length ≤ k) (h : onceTo ws k) : false = twiceW ws := by
  have : ws.Nodup := by
    refine List.pairwise_iff_getElem.2 fun i j hi hj hij e => ?_
    apply h j hj (by omega)
    rw [← e]
    rw [List.mem_take_iff_getElem]
    exact ⟨i, by omega, rfl⟩
  simp [twiceW, this]
theorem onceTo.succ {ws : List ByteArray} {k : Nat} (h : onceTo ws k) (hk : k < ws.length) (hp : ws[k] ∉ ws.take k) : onceTo ws (k + 1) := by
  intro i hi h'
  rcases Nat.lt_or_ge i k with h1 | h1
  · exact h i hi h1
  · obtain rfl : i = k := by omega
    exact hp

set_option maxHeartbeats 1000000 in
theorem anyTwice_calls (b off cap : Nat) (ws : List ByteArray) (w : World) (hcap : ws.length ≤ cap) (hl : ws.length ≤ 100000) (h : CellsAt w (some ⟨b, off, none⟩) (ws.map Value.string)) :
    Calls Tryd.prog 51 #[.slice (some ⟨b, off, none⟩) ws.length cap] w fun e w' => e = .returned (.bool (twiceW ws)) ∧ w' = w := by
  have hall : Hid (∀ j, j < ws.length → w.cell? ⟨b, off + j, none⟩ = some (.string (ws.getD j ByteArray.empty))) := by
    intro j hj
    obtain ⟨b', off', e, c⟩ := h.str j hj
    simp only [Option.some.injEq, Addr.mk.injEq] at e
    obtain ⟨rfl, rfl, _⟩ := e
    rw [c, List.getD_eq_getElem?_getD, List.getElem?_eq_getElem hj]
    rfl
  go_enter Tryd.func51, Tryd.ntmps51
  go_wp2
  go_loop [7] (fun x => ∃ k : Nat, k ≤ ws.length ∧ x = .int .i64 k ∧ Hid (onceTo ws k)) (fun x => ws.length - (intOf x).toNat)
  case atStart => exact ⟨0, Nat.zero_le _, rfl, fun i h h' => by omega⟩
  case round =>
    obtain ⟨k, hk, rfl, HK⟩ := hrel
    by_cases hlt : k < ws.length
    · obtain ⟨b', off', e, c0⟩ := h.str k hlt
      simp only [Option.some.injEq, Addr.mk.injEq] at e
      obtain ⟨rfl, rfl, _⟩ := e
      have hc : (k : Int) ≤ (cap : Int) := by omega
      cases e1 : Lib.containsS (ws.take k) ws[k] with
      | true =>
        have HE : Hid (true = twiceW ws) := twice_at hlt ((Lib.containsS_iff _ _).1 e1)
        go_wp2_with (go_at_call 62; refine (Tryd.slices_Contains_string b off k cap ws ws[k] _ (by omega) (by omega) hall.out).mono ?_; rintro e w' ⟨rfl, rfl⟩)
        go_ret
        exact ⟨ret_bool HE.out, rfl⟩
      | false =>
        have HE : Hid (ws[k] ∉ ws.take k) := fun hm => by rw [(Lib.containsS_iff _ _).2 hm] at e1; cases e1
        go_wp2_with (go_at_call 62; refine (Tryd.slices_Contains_string b off k cap ws ws[k] _ (by omega) (by omega) hall.out).mono ?_; rintro e w' ⟨rfl, rfl⟩)
        go_round
        case rel => exact ⟨k + 1, by omega, by go_num, HK.out.succ hlt HE.out⟩
        case measure => simp [intOf]; omega
    · go_wp2
      go_ret
      exact ⟨ret_bool (twice_none (by omega) HK.out), rfl⟩

theorem CellsAt.tail {w : World} {b off : Nat} {x : Value} {r : List Value} (h : CellsAt w (some ⟨b, off, none⟩) (x :: r)) : CellsAt w (some ⟨b, off + 1, none⟩) r := by
  intro hne
  obtain ⟨b', off', e, hc⟩ := h (by simp)
  simp only [Option.some.injEq, Addr.mk.injEq] at e
  obtain ⟨rfl, rfl, _⟩ := e
  refine ⟨b, off + 1, rfl, fun j u hj => ?_⟩
  have := hc (j + 1) u (by simpa using hj)
  rw [show off + 1 + j = off + (j + 1) by omega]
  exact this

/-- The words from an address; none may lie anywhere. -/
theorem takeFlag_calls (ao : Option Addr) (cap : Nat) (ws : List ByteArray) (f : ByteArray) (w : World) (hcap : ws.length ≤ cap) (hl : ws.length ≤ 100000) (hc : CellsAt w ao (ws.map Value.string)) :
    Calls Tryd.prog 48 #[.slice ao ws.length cap, .string f] w fun e w' => (∃ ao' cap', e = .returned (.tuple #[.bool (takeF f ws).1, .slice ao' (takeF f ws).2.length cap']) ∧ (∀ W, CellsAt W ao (ws.map Value.string) → CellsAt W ao' ((takeF f ws).2.map Value.string)) ∧ (takeF f ws).2.length ≤ cap') ∧ ∃ m, w' = w.drewN m := by
  cases ws with
  | nil =>
    go_enter Tryd.func48, Tryd.ntmps48
    go_wp2
    go_ret2
    exact ⟨⟨ao, cap, rfl, fun W h => h, by simp [takeF]⟩, 0, rfl⟩
  | cons x r =>
    obtain ⟨b, off, rfl, c0⟩ := hc.str 0 (by simp)
    rw [Nat.add_zero, List.getElem_cons_zero] at c0
    have hr : (x :: r).length = r.length + 1 := rfl
    rw [hr] at hcap hl ⊢
    have hz : ((r.length : Int) + 1 == 0) = false := by simp; omega
    have HC : Hid (CellsAt w (some ⟨b, off, none⟩) ((x :: r).map Value.string)) := hc
    clear hc hr
    by_cases hx : x = f
    · have q1 : (x.toList == f.toList) = true := by rw [beq_toList]; simpa using hx
      have q2 : (x.toList != f.toList) = false := by simp [bne, q1]
      have HT : Hid (takeF f (x :: r) = (true, r)) := by simp [takeF, hx, Hid]
      clear hx
      go_enter Tryd.func48, Tryd.ntmps48
      go_wp2
      go_quiet (fail)
      go_wp2
      all_goals go_ret2
      all_goals rw [HT.out]
      · have hr0 : r = [] := List.length_eq_zero_iff.1 (by omega)
        subst hr0
        exact ⟨⟨_, 0, rfl, fun _ _ h => absurd rfl h, Nat.le_refl _⟩, _, rfl⟩
      · exact ⟨⟨_, _, rfl, fun W h => h.tail, by simp; omega⟩, _, rfl⟩
    · have q1 : (x.toList == f.toList) = false := by rw [beq_toList]; simpa using hx
      have q2 : (x.toList != f.toList) = true := by simp [bne, q1]
      have HT : Hid (takeF f (x :: r) = (false, x :: r)) := by simp [takeF, hx, Hid]
      clear hx
      go_enter Tryd.func48, Tryd.ntmps48
      go_wp2
      go_ret2
      rw [HT.out]
      exact ⟨⟨_, _, rfl, fun W h => h, by simpa using hcap⟩, 0, rfl⟩

theorem lists_succ (fs : List Fd) (ov : List Int) (k : Nat) (hk : k < ov.length) : listsOf fs (ov.take (k + 1)) = listsOf fs (ov.take k) + (if (fs.getD ov[k].toNat ⟨⟨#[]⟩, 0⟩).k = 3 then 1 else 0) := by
  unfold listsOf
  rw [List.take_succ_eq_append_getElem hk, List.filter_append, List.length_append]
  congr 1
  by_cases h : (fs.getD ov[k].toNat ⟨⟨#[]⟩, 0⟩).k = 3
  · rw [if_pos h, List.filter_cons_of_pos (by rw [decide_eq_true h])]; rfl
  · rw [if_neg h, List.filter_cons_of_neg (by simp only [decide_eq_true_eq]; exact h)]; rfl
theorem lists_le (fs : List Fd) (ov : List Int) : listsOf fs ov ≤ ov.length := List.length_filter_le _ _

set_option maxRecDepth 100000 in
set_option maxHeartbeats 2000000 in
theorem mayStand_calls (t : TV) (x : XV) (w : World) (hf : CellsAt w t.fa (fcs t.fs)) (ho : CellsAt w x.va (ics x.x.ov)) (hl : t.fs.length ≤ 16) (hx : t.xs.length ≤ 8) (hol : x.x.ov.length ≤ 4) (hp : ∀ p ∈ x.x.ov, 0 ≤ p ∧ p < t.fs.length) :
    Calls Tryd.prog 53 #[.agg #[.string t.n, .slice t.fa t.fs.length t.fc, .slice t.xa t.xs.length t.xc], .agg #[.string x.x.n, .slice x.va x.x.ov.length x.vc, .bool x.x.u, .bool x.x.l, .bool x.x.s]] w
      fun e w' => e = .returned (.bool (mayB t.tb x.x)) ∧ Below w.heap.size w w' := by
  go_enter Tryd.func53, Tryd.ntmps53
  go_wp2
  go_loopw [5, 11] (fun y i wr => ∃ k : Nat, k ≤ x.x.ov.length ∧ i = .int .i64 k ∧ y = .int .i64 (listsOf t.fs (x.x.ov.take k) : Int) ∧ Below w.heap.size w wr
      ∧ wr.heap[w.heap.size]? = some (.cells #[.string t.n, .slice t.fa t.fs.length t.fc, .slice t.xa t.xs.length t.xc] 35)
      ∧ wr.heap[w.heap.size + 1]? = some (.cells #[.string x.x.n, .slice x.va x.x.ov.length x.vc, .bool x.x.u, .bool x.x.l, .bool x.x.s] 38)) (fun _ i _ => x.x.ov.length - (intOf i).toNat)
  case atStart =>
    refine ⟨0, Nat.zero_le _, rfl, by simp [listsOf], ((Below.refl _ _).alloc (Nat.le_refl _) _).alloc (by simp) _, ?_, ?_⟩
    · exact old_blk (new_blk _ _) _
    · have := new_blk (w.alloc (.cells #[.string t.n, .slice t.fa t.fs.length t.fc, .slice t.xa t.xs.length t.xc] 35)) (.cells #[.string x.x.n, .slice x.va x.x.ov.length x.vc, .bool x.x.u, .bool x.x.l, .bool x.x.s] 38)
      rw [World.size_alloc] at this
      exact this
  case round =>
    obtain ⟨k, hk, rfl, rfl, hb, b1, b2⟩ := hrel
    have t1 : wr.cell? ⟨w.heap.size, 1, none⟩ = some (.slice t.fa t.fs.length t.fc) := by rw [cell_blk b1]; rfl
    have t2 : wr.cell? ⟨w.heap.size, 2, none⟩ = some (.slice t.xa t.xs.length t.xc) := by rw [cell_blk b1]; rfl
    have x0 : wr.cell? ⟨w.heap.size + 1, 0, none⟩ = some (.string x.x.n) := by rw [cell_blk b2]; rfl
    have x2 : wr.cell? ⟨w.heap.size + 1, 2, none⟩ = some (.bool x.x.u) := by rw [cell_blk b2]; rfl
    have x4 : wr.cell? ⟨w.heap.size + 1, 4, none⟩ = some (.bool x.x.s) := by rw [cell_blk b2]; rfl
    have HB1 : Hid (wr.heap[w.heap.size]? = some (.cells #[.string t.n, .slice t.fa t.fs.length t.fc, .slice t.xa t.xs.length t.xc] 35)) := b1
    have HB2 : Hid (wr.heap[w.heap.size + 1]? = some (.cells #[.string x.x.n, .slice x.va x.x.ov.length x.vc, .bool x.x.u, .bool x.x.l, .bool x.x.s] 38)) := b2
    clear b1 b2
    have hle := Nat.le_trans (lists_le t.fs (x.x.ov.take k)) (by simp; omega : (x.x.ov.take k).length ≤ 4)
    by_cases hlt : k < x.x.ov.length
    · obtain ⟨b, off, eo, c0⟩ := (ho.below hb).num k hlt
      have hpk := hp _ (List.getElem_mem hlt)
      have hpn : x.x.ov[k].toNat < t.fs.length := by omega
      obtain ⟨fb, foff, ef, f0, f1⟩ := (hf.below hb).fld x.x.ov[k].toNat hpn
      have HS : Hid (listsOf t.fs (x.x.ov.take (k + 1)) = listsOf t.fs (x.x.ov.take k) + (if t.fs[x.x.ov[k].toNat].k = 3 then 1 else 0)) := by
        have := lists_succ t.fs x.x.ov k hlt
        rw [List.getD_eq_getElem?_getD, List.getElem?_eq_getElem hpn] at this
        exact this
      obtain ⟨q, hq⟩ : ∃ q : Nat, x.x.ov[k] = (q : Int) := ⟨x.x.ov[k].toNat, by omega⟩
      have hqn : x.x.ov[k].toNat = q := by omega
      obtain ⟨fk, hfk⟩ : ∃ fk : Int, t.fs[x.x.ov[k].toNat].k = fk := ⟨_, rfl⟩
      rw [hfk] at f1 
      rw [hq] at c0
      clear f0
      rw [hqn] at f1
      have hql : q < t.fs.length := by omega
      have HQ : Hid (t.fs[x.x.ov[k].toNat].k = fk) := hfk
      have HS1 : Hid (listsOf t.fs (x.x.ov.take (k + 1)) = listsOf t.fs (x.x.ov.take k) + (if fk = 3 then 1 else 0)) := by rw [Hid, HS.out, hfk]
      clear HS HQ hfk hq hqn hpk hpn
      obtain ⟨ova, hova⟩ : ∃ z, z = x.va := ⟨_, rfl⟩
      rw [ef] at t1
      rw [eo]
      have HEO : Hid (x.va = some ⟨b, off, none⟩) := eo
      have HEF : Hid (t.fa = some ⟨fb, foff, none⟩) := ef
      clear eo ef hova
      by_cases h3 : fk = 3
      · have q1 : (fk == 3) = true := by simpa using h3
        have HS2 : Hid (listsOf t.fs (x.x.ov.take (k + 1)) = listsOf t.fs (x.x.ov.take k) + 1) := by rw [Hid, HS1.out, if_pos h3]
        clear h3
        generalize hL : listsOf t.fs (x.x.ov.take k) = L at *
        go_wp2
        go_roundw
        case rel => exact ⟨k + 1, by omega, by go_num, by rw [HS2.out]; go_num, hb, HB1.out, by rw [← HEO.out]; exact HB2.out⟩
        case measure => simp [intOf]; omega
      · have q1 : (fk == 3) = false := by simpa using h3
        have HS2 : Hid (listsOf t.fs (x.x.ov.take (k + 1)) = listsOf t.fs (x.x.ov.take k)) := by rw [Hid, HS1.out, if_neg h3, Nat.add_zero]
        clear h3
        generalize hL : listsOf t.fs (x.x.ov.take k) = L at *
        go_wp2
        go_roundw
        case rel => exact ⟨k + 1, by omega, by go_num, by rw [HS2.out], hb, HB1.out, by rw [← HEO.out]; exact HB2.out⟩
        case measure => simp [intOf]; omega
    · have HT : Hid (x.x.ov.take k = x.x.ov) := List.take_of_length_le (by omega)
      rw [HT.out] at hle ⊢
      obtain ⟨L, hL⟩ : ∃ L, listsOf t.fs x.x.ov = L := ⟨_, rfl⟩
      have HL : Hid (listsOf t.fs x.x.ov = L) := hL
      rw [hL] at hle ⊢
      clear hL
      by_cases h0 : t.xs.length = 0
      · have q0 : ((t.xs.length : Int) == 0) = true := by simpa using h0
        have qn : (x.x.n.toList == [105, 100]) = decide (x.x.n = idW) := beq_lit x.x.n [105, 100]
        have HM : Hid (mayB t.tb x.x = (decide (x.x.n = idW) && (x.x.u && (!x.x.s && decide (L = 0))))) := by
          unfold mayB
          rw [Hid, if_pos (by simpa [TV.tb] using h0)]
          show _ = _
          rw [← HL.out]
          rfl
        obtain ⟨u, hu⟩ : ∃ u, x.x.u = u := ⟨_, rfl⟩
        obtain ⟨sl, hsl⟩ : ∃ u, x.x.s = u := ⟨_, rfl⟩
        have HM2 : Hid (mayB t.tb x.x = (decide (x.x.n = idW) && (u && (!sl && decide (L = 0))))) := by rw [Hid, HM.out, hu, hsl]
        rw [hu] at x2
        rw [hsl] at x4
        have HU : Hid (x.x.u = u ∧ x.x.s = sl) := ⟨hu, hsl⟩
        clear hu hsl h0
        cases hn : decide (x.x.n = idW) with
        | false =>
          have HN : Hid (mayB t.tb x.x = false) := by rw [Hid, HM2.out, hn]; rfl
          rw [hn] at qn
          clear hn
          go_wp2
          go_ret
          exact ⟨ret_bool HN.out.symm, hb⟩
        | true =>
          rw [hn] at qn
          cases u with
          | false =>
            have HN : Hid (mayB t.tb x.x = false) := by rw [Hid, HM2.out, hn]; rfl
            clear hn
            go_wp2
            go_ret
            exact ⟨ret_bool HN.out.symm, hb⟩
          | true =>
            cases sl with
            | true =>
              have HN : Hid (mayB t.tb x.x = false) := by rw [Hid, HM2.out, hn]; rfl
              clear hn
              go_wp2
              go_ret
              exact ⟨ret_bool HN.out.symm, hb⟩
            | false =>
              have HN : Hid (mayB t.tb x.x = decide (L = 0)) := by rw [Hid, HM2.out, hn]; rfl
              clear hn
              go_wp2
              go_ret
              refine ⟨ret_bool ?_, hb⟩
              rw [HN.out]
              rw [Bool.eq_iff_iff, beq_iff_eq, decide_eq_true_iff]
              omega
      · have q0 : ((t.xs.length : Int) == 0) = false := by simpa using h0
        have HM : Hid (mayB t.tb x.x = decide (L < 2)) := by
          unfold mayB
          rw [Hid, if_neg (by simpa [TV.tb] using h0), ← HL.out]
          rfl
        clear h0
        go_wp2
        go_ret
        exact ⟨ret_bool (by rw [HM.out]; exact decide_eq_decide.2 (by omega)), hb⟩
end Go.Proofs.YtbpmahchinblhaaDoor
