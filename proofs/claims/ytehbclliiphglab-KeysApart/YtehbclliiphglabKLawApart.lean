/- The walk of KeysApart. -/
import Derived.Test.YtehbclliiphglabKRDecode
import Derived.Test.YtehbclliiphglabKSame
import Derived.Test.YtehbclliiphglabKEncode
import Derived.KernelRfl
namespace Go.Proofs.Ytehbclliiphglab
open Go.RowKit
set_option linter.unusedVariables false

theorem Grew.store {a b : World} {u v : Value} (h : Grew a b u v) {p : Addr} (hp : v.ownBlock = some p.block) (x : Value) : Grew a (b.setCell p x) u v := by
  refine ⟨⟨h.grown.os, h.grown.tape, h.grown.output, ?_, ?_⟩, h.place⟩
  · have := h.grown.size; simpa [World.setCell] using this
  · intro k hk hne
    rw [Below.heap_setCell _ _ _ _ ?_]
    · exact h.grown.block k hk hne
    · intro e
      subst e
      rcases h.place _ hp with h1 | h1
      · exact hne h1.symm
      · omega

theorem PartsAt.grew {w w' : World} {ao : Option Addr} {ps : List Pt} {u v : Value} (h : PartsAt w ao ps) (hg : Grew w w' u v) (hne : ∀ b off, ao = some ⟨b, off, none⟩ → some b ≠ u.ownBlock) : PartsAt w' ao ps := by
  intro i p hp
  obtain ⟨b, off, ha, h0, h1, h2, hw⟩ := h i p hp
  have hn := hne b off ha
  exact ⟨b, off, ha, hg.cell h0 hn, hg.cell h1 hn, hg.cell h2 hn, hw⟩

def qPs : List Pt := [⟨1, ⟨#[113]⟩, 0⟩, ⟨3, ⟨#[]⟩, 1⟩]
theorem q_ans : encAns false qPs = ([1, 113, 0, 1, 3, 1], 0) := by kernel_rfl
theorem q_parts (w : World) : PartsAt (w.alloc (.cells #[.int .i64 1, .string ⟨#[113]⟩, .int .u64 0, .int .i64 3, .string ⟨#[]⟩, .int .u64 1, .int .i64 2, .string ⟨#[]⟩, .int .u64 77] 33)) (some ⟨w.heap.size, 0, none⟩) qPs := by
  intro i p hp
  refine ⟨w.heap.size, 0, rfl, ?_⟩
  match i, hp with
  | 0, hp =>
    simp [qPs] at hp; subst hp
    refine ⟨?_, ?_, ?_, ?_⟩
    · rw [World.cell?_alloc_mark]; rfl
    · rw [World.cell?_alloc_mark]; rfl
    · rw [World.cell?_alloc_mark]; rfl
    · refine ⟨by decide, by decide, ?_⟩
      show 1 ≤ _; omega
  | 1, hp =>
    simp [qPs] at hp; subst hp
    refine ⟨?_, ?_, ?_, ?_⟩
    · rw [World.cell?_alloc_mark]; rfl
    · rw [World.cell?_alloc_mark]; rfl
    · rw [World.cell?_alloc_mark]; rfl
    · refine ⟨by decide, by decide, ?_⟩
      show 0 ≤ _; omega
  | (n + 2), hp => simp [qPs] at hp

/-- append(out, p) where of out's own cells nothing is known but how many they are. -/
theorem append_row (W : World) {ops : Array Oper} {rest : List Oper} {o : Oper} {a : Act} {Q : Exit → Act → World → Prop} (hgd : o.guard = none) (s x : Operand)
    (ho : o.op = .call { callee := .builtin .append, args := #[s, x], argTypes := #[22, 22] })
    (B : Nat) (v : Value) (n : Nat) (xs : List Value) (hs : a.eval s = v) (news : List Value) (g c : Nat) (cs : Array Value) (hx : a.eval x = .slice (some ⟨g, 0, none⟩) 1 c) (hm : news.length = 1 * 3) (h1 : ∀ u ∈ news, u.oneCell' = true) (hc : cs = news.toArray)
    (hg : g = W.heap.size) (hown : W.ownsRow B 33 3 v n xs) (hlen : (n + 1) * 32 ≤ 140737488355328) (hB : B ≤ W.heap.size)
    (h : ∀ v' w', w'.ownsRow B 33 3 v' (n + 1) (xs ++ news) → Grew W w' v v' → wpList Try.prog ops Q rest (a.put o.dst v') w') : wpList Try.prog ops Q (o :: rest) a (W.alloc (.cells cs 33)) := by
  obtain ⟨i0, hi, hz0, hz1, hz2⟩ := info_parts info_part
  subst hg hc
  refine wpList_append_grew _ hgd s x 22 ho B 33 i0 _ 3 32 Try.underlying22 hi hz0 hz1 hz2 rfl (by decide) v n xs hs (hown.alloc _) ⟨W.heap.size, 0, none⟩ 1 c news hx hm (cells_new _ _ _) h1 (by unfold maxLen; omega) (by omega) (by simp; omega) ?_
  intro v' w' h1 h2 _
  exact h v' w' h1 h2.ofAlloc

theorem decAns_len (l : List UInt8) : (decAns l).1.length ≤ 1024 := by
  rcases decAns_err l with h | ⟨_, h⟩
  · obtain ⟨h1, h2⟩ := decAns_ok h
    obtain ⟨h3, _⟩ := dec_inv h2
    have := enc_length_le (decAns l).1
    rw [h3] at this
    omega
  · rw [h]; simp

set_option maxRecDepth 100000 in
set_option maxHeartbeats 2000000 in
theorem apart_walk (key : ByteArray) (w : World) (hk : key.size ≤ 140737488351232) :
    Calls Try.prog 6 #[.string key] w fun e w' => e = .returned (.bool true) ∧ Below w.heap.size w w' := by
  have hf := q_parts w
  go_enter Try.func6, Try.ntmps6
  go_wp2_with fail
  refine (encode_calls _ _ qPs _ (by decide) hf).mono ?_
  rintro e w1 ⟨rfl, hb1⟩
  rw [q_ans]
  have hc8 : w1.cell? ⟨w.heap.size, 8, none⟩ = some (.int .u64 77) := by rw [hb1.cell (by simp), World.cell?_alloc_mark]; rfl
  have hbw1 : Below w.heap.size w w1 := ((Below.refl _ _).alloc (Nat.le_refl _) _).trans (hb1.mono (by simp))
  clear hf hb1
  go_wp2_with fail
  refine (rdecode_calls key w1 hk).mono ?_
  rintro e w2 ⟨vw, rfl, how, hb2⟩
  have hbw2 : Below w.heap.size w w2 := hbw1.trans (hb2.mono hbw1.size)
  go_wp2_with fail
  refine (decode_calls key w2 hk).mono ?_
  rintro e w3 ⟨va, rfl, hoa, hb3, hsm⟩
  have hbw3 : Below w.heap.size w w3 := hbw2.trans (hb3.mono hbw2.size)
  have HWF : Hid (∀ p ∈ (decAns key.data.toList).1, p.wf) := fun p hp => (hsm p hp).wf
  clear hsm
  go_wp2_with fail
  refine (decode_calls key w3 hk).mono ?_
  rintro e w4 ⟨vb, rfl, hob, hb4, _⟩
  have hbw4 : Below w.heap.size w w4 := hbw3.trans (hb4.mono hbw3.size)
  have hdl := decAns_len key.data.toList
  obtain ⟨D, hD⟩ : ∃ D, D = decAns key.data.toList := ⟨_, rfl⟩
  rw [← hD] at how hoa hob hdl HWF ⊢
  have HD : Hid (decAns key.data.toList = D) := hD.symm
  clear hD
  have how4 := (how.below hb3).below hb4
  have hoa4 := hoa.below hb4
  obtain ⟨aw, capw, hshw⟩ := how.shape
  subst hshw
  obtain ⟨ab, capb, hshb⟩ := hob.shape
  subst hshb
  have hpw := how4.parts HWF.out
  have hpb := hob.parts HWF.out
  have HNW : Hid (∀ b off, aw = some ⟨b, off, none⟩ → some b ≠ va.ownBlock) := by
    intro b off e he
    subst e
    have h1 := (how.lt b rfl).2
    have h2 := (hoa.lt b he.symm).1
    omega
  have HNB : Hid (∀ b off, ab = some ⟨b, off, none⟩ → some b ≠ va.ownBlock) := by
    intro b off e he
    subst e
    have h1 := (hob.lt b rfl).1
    have h2 := (hoa.lt b he.symm).2
    omega
  have hblt : Hid (∀ k, va.ownBlock = some k → w.heap.size ≤ k) := fun k hk => by
    have h1 := (hoa.lt k hk).1
    have := hbw2.size
    omega
  have hown : ∃ xs, w4.ownsRow w2.heap.size 33 3 va D.1.length xs := ⟨_, hoa4⟩
  have HGS : w2.heap.size ≤ w4.heap.size := Nat.le_trans hb3.size hb4.size
  clear how how4 hoa hoa4 hob hb2 hb3 hb4 hbw1 hbw2 hbw3 hc8
  rcases (show (va = .slice none 0 0 ∧ D.1.length = 0) ∨ ∃ g cap, va = .slice (some ⟨g, 0, none⟩) D.1.length cap by
    obtain ⟨xs, h⟩ := hown
    rcases h.2 with h | ⟨g, cap, _, h, _⟩
    · exact .inl h
    · exact .inr ⟨g, cap, h⟩) with ⟨rfl, hn0⟩ | ⟨g, cap, rfl⟩
  · obtain ⟨xs, hox⟩ := hown
    have hn00 : ((D.1.length : Nat) : Int) = 0 := by omega
    have HN0 : Hid (D.1.length = 0) := hn0
    clear hn0 hn00
    go_wp2
    go_loopw [56] (fun i wr => i = .int .i64 0 ∧ wr = w4) (fun i _ => 0)
    case atStart => exact ⟨rfl, rfl⟩
    case round =>
      obtain ⟨rfl, rfl⟩ := hrel
      have hg : Grew wr wr (.slice none 0 0) (.slice none 0 0) := Grew.refl _ _
      obtain ⟨w4, hw4⟩ : ∃ w4, w4 = wr := ⟨_, rfl⟩
      subst hw4
      go_wp2
      go_loopw [8, 13] (fun x i wr => ∃ (k n : Nat) (xs : List Value), k ≤ 16 ∧ i = .int .i64 k ∧ n ≤ 1024 + k ∧ wr.ownsRow w2.heap.size 33 3 x n xs ∧ Grew w4 wr (.slice none 0 0) x) (fun _ i _ => (16 - intOf i).toNat)
      case atStart => exact ⟨0, _, _, by omega, rfl, by omega, hox, hg⟩
      case round =>
        clear hox hg
        obtain ⟨k, n, xs, hk16, rfl, hnk, hox, hg⟩ := hrel
        have hsz := hg.size
        by_cases hlt : k < 16
        · go_wp2_with (at_builtin; refine append_row _ rfl (.tmp 68) (.tmp 72) rfl w2.heap.size _ n xs rfl [.int .i64 8, .string ⟨#[]⟩, .int .u64 k] _ 1 _ rfl rfl (by intro u hu; simp at hu; rcases hu with rfl | rfl | rfl <;> rfl) rfl (by simp) hox (by omega) (by omega) ?_)
          intro v1 x1 ho1 hg1
          have hg2 := hg.trans hg1
          clear hox hg hg1
          go_wp2
          go_roundw
          case rel => exact ⟨k + 1, n + 1, _, by omega, by go_num, by omega, ho1, hg2⟩
          case measure => simp [intOf]; omega
        · have hbr : Below w.heap.size w wr := hbw4.trans (hg.toBelow hbw4.size hblt.out)
          have hpb5 := hpb.grew hg HNB.out
          have hpw5 := hpw.grew hg HNW.out
          clear hpb hpw hox hg
          go_wp2_with fail
          refine (same_calls ab aw capb capw D.1 D.1 _ (by omega) (by omega) hpb5 hpw5).mono ?_
          rintro e w6 ⟨rfl, hb6⟩
          have hb7 : Below w.heap.size w w6 := hbr.trans (hb6.mono hbr.size)
          have hpw6 := hpw5.below hb6
          rw [(sameB_iff D.1 D.1).2 rfl]
          clear hpb5 hpw5 hb6
          go_wp2_with fail
          refine (decode_calls key w6 hk).mono ?_
          rintro e w7 ⟨vc, rfl, hoc, hb8, _⟩
          have hb9 : Below w.heap.size w w7 := hb7.trans (hb8.mono hb7.size)
          have hpw7 := hpw6.below hb8
          rw [HD.out] at hoc ⊢
          obtain ⟨ac, capc, hshc⟩ := hoc.shape
          subst hshc
          have hpc := hoc.parts HWF.out
          go_wp2_with fail
          refine (same_calls ac aw capc capw D.1 D.1 w7 (by omega) (by omega) hpc hpw7).mono ?_
          rintro e w8 ⟨rfl, hb10⟩
          have hb11 : Below w.heap.size w w8 := hb9.trans (hb10.mono hb9.size)
          rw [(sameB_iff D.1 D.1).2 rfl]
          go_wp2
          all_goals go_light
          all_goals go_ret
          all_goals exact ⟨by simp, hb11⟩
  · go_wp2
    go_loopw [56] (fun i wr => ∃ (k : Nat) (xs : List Value), k ≤ D.1.length ∧ i = .int .i64 k ∧ wr.ownsRow w2.heap.size 33 3 (.slice (some ⟨g, 0, none⟩) D.1.length cap) D.1.length xs ∧ Grew w4 wr (.slice (some ⟨g, 0, none⟩) D.1.length cap) (.slice (some ⟨g, 0, none⟩) D.1.length cap)) (fun i _ => D.1.length - (intOf i).toNat)
    case atStart =>
      obtain ⟨xs, h⟩ := hown
      exact ⟨0, xs, Nat.zero_le _, rfl, h, Grew.refl _ _⟩
    case round =>
      obtain ⟨k, xs, hkl, rfl, hox, hg⟩ := hrel
      by_cases hlt : k < D.1.length
      · have hxl : xs.length = D.1.length * 3 := hox.1
        obtain ⟨y0, c0⟩ : ∃ y, wr.cell? ⟨g, k * 3, none⟩ = some y := ⟨_, (World.ownsRow.cellAt hox (k * 3) (by omega)).trans (List.getElem?_eq_getElem (by omega))⟩
        obtain ⟨y1, c1⟩ : ∃ y, wr.cell? ⟨g, k * 3 + 1, none⟩ = some y := ⟨_, (World.ownsRow.cellAt hox (k * 3 + 1) (by omega)).trans (List.getElem?_eq_getElem (by omega))⟩
        obtain ⟨y2, c2⟩ : ∃ y, wr.cell? ⟨g, k * 3 + 2, none⟩ = some y := ⟨_, (World.ownsRow.cellAt hox (k * 3 + 2) (by omega)).trans (List.getElem?_eq_getElem (by omega))⟩
        have f0 := World.ownsRow.frozenAt hox (k * 3)
        have f1 := World.ownsRow.frozenAt hox (k * 3 + 1)
        have f2 := World.ownsRow.frozenAt hox (k * 3 + 2)
        have R := (World.ownsRow.stored (World.ownsRow.stored (World.ownsRow.stored hox (k * 3) (.int .i64 9)).1 (k * 3 + 1) (.string ⟨#[]⟩)).1 (k * 3 + 2) (.int .u64 1)).1
        have G := ((hg.store (p := ⟨g, k * 3, none⟩) rfl (.int .i64 9)).store (p := ⟨g, k * 3 + 1, none⟩) rfl (.string ⟨#[]⟩)).store (p := ⟨g, k * 3 + 2, none⟩) rfl (.int .u64 1)
        clear hxl hox
        go_wp2
        go_roundw
        case rel => exact ⟨k + 1, _, by omega, by go_num, R, G⟩
        case measure => simp [intOf]; omega
      · obtain rfl : k = D.1.length := by omega
        obtain ⟨w5, hw5⟩ : ∃ w5, w5 = wr := ⟨_, rfl⟩
        subst hw5
        go_wp2
        go_loopw [8, 13] (fun x i wr => ∃ (k n : Nat) (xs : List Value), k ≤ 16 ∧ i = .int .i64 k ∧ n ≤ 1024 + k ∧ wr.ownsRow w2.heap.size 33 3 x n xs ∧ Grew w4 wr (.slice (some ⟨g, 0, none⟩) D.1.length cap) x) (fun _ i _ => (16 - intOf i).toNat)
        case atStart => exact ⟨0, _, _, by omega, rfl, by omega, hox, hg⟩
        case round =>
          clear hox hg
          obtain ⟨k, n, xs, hk16, rfl, hnk, hox, hg⟩ := hrel
          have hsz := hg.size
          by_cases hlt : k < 16
          · go_wp2_with (at_builtin; refine append_row _ rfl (.tmp 68) (.tmp 72) rfl w2.heap.size _ n xs rfl [.int .i64 8, .string ⟨#[]⟩, .int .u64 k] _ 1 _ rfl rfl (by intro u hu; simp at hu; rcases hu with rfl | rfl | rfl <;> rfl) rfl (by simp) hox (by omega) (by omega) ?_)
            intro v1 x1 ho1 hg1
            have hg2 := hg.trans hg1
            clear hox hg hg1
            go_wp2
            go_roundw
            case rel => exact ⟨k + 1, n + 1, _, by omega, by go_num, by omega, ho1, hg2⟩
            case measure => simp [intOf]; omega
          · have hbr : Below w.heap.size w wr := hbw4.trans (hg.toBelow hbw4.size hblt.out)
            have hpb5 := hpb.grew hg HNB.out
            have hpw5 := hpw.grew hg HNW.out
            clear hpb hpw hox hg
            go_wp2_with fail
            refine (same_calls ab aw capb capw D.1 D.1 _ (by omega) (by omega) hpb5 hpw5).mono ?_
            rintro e w6 ⟨rfl, hb6⟩
            have hb7 : Below w.heap.size w w6 := hbr.trans (hb6.mono hbr.size)
            have hpw6 := hpw5.below hb6
            rw [(sameB_iff D.1 D.1).2 rfl]
            clear hpb5 hpw5 hb6
            go_wp2_with fail
            refine (decode_calls key w6 hk).mono ?_
            rintro e w7 ⟨vc, rfl, hoc, hb8, _⟩
            have hb9 : Below w.heap.size w w7 := hb7.trans (hb8.mono hb7.size)
            have hpw7 := hpw6.below hb8
            rw [HD.out] at hoc ⊢
            obtain ⟨ac, capc, hshc⟩ := hoc.shape
            subst hshc
            have hpc := hoc.parts HWF.out
            go_wp2_with fail
            refine (same_calls ac aw capc capw D.1 D.1 w7 (by omega) (by omega) hpc hpw7).mono ?_
            rintro e w8 ⟨rfl, hb10⟩
            have hb11 : Below w.heap.size w w8 := hb9.trans (hb10.mono hb9.size)
            rw [(sameB_iff D.1 D.1).2 rfl]
            go_wp2
            all_goals go_light
            all_goals go_ret
            all_goals exact ⟨by simp, hb11⟩
end Go.Proofs.Ytehbclliiphglab
