/- Layer 6 (schema): the document's Plain. -/
import Derived.Test.YtojedpkbhkbaoaaDoorSRSplit
namespace Go.Proofs.YtojedpkbhkbaoaaDoor
open Go.RowKit
set_option linter.unusedVariables false

theorem info_byte : (Tryd.prog.info? 5).map (fun i => (i.zero, i.size, i.bytes)) = some (some (.int .u8 0), 1, 1) := by kernel_rfl

theorem own_string {w : World} {B : Nat} {v : Value} {l : List UInt8} (h : Own w B v l) : (convert 46 9 v).run Tryd.prog w = .ok (.string ⟨l.toArray⟩) w := by
  rcases h.2 with ⟨rfl, h0⟩ | ⟨g, cap, cur, rfl, _, _, _, _, _, _⟩
  · rw [run_convert_bytes_nil w _ _ Tryd.underlying46 Tryd.underlying5 0 0 _ Tryd.underlying9]
    rw [List.length_eq_zero_iff.1 h0]; rfl
  · refine run_convert_bytes_back w _ _ _ _ _ l Tryd.underlying46 Tryd.underlying5 Tryd.underlying9 ?_
    intro j hj
    refine World.ownsRow.cells h (g := g) rfl j _ ?_
    simp [bs, hj]

theorem append_text (w : World) {ops : Array Oper} {rest : List Oper} {o : Oper} {a : Act} {Q : Exit → Act → World → Prop} (hgd : o.guard = none) (s x : Operand)
    (ho : o.op = .call { callee := .builtin .append, args := #[s, x], argTypes := #[46, 9] })
    (B : Nat) (v : Value) (l : List UInt8) (hs : a.eval s = v) (hown : Own w B v l) (t : ByteArray) (hx : a.eval x = .string t)
    (hlen : l.length + t.size ≤ 140737488355328) (hB : B ≤ w.heap.size)
    (h : ∀ v' w', Own w' B v' (l ++ t.data.toList) → w.grownBy w' v.ownBlock → wpList Tryd.prog ops Q rest (a.put o.dst v') w') : wpList Tryd.prog ops Q (o :: rest) a w := by
  obtain ⟨i0, hi, hz0, hz1, hz2⟩ := info_of info_byte
  refine Lib.wpList_append_own_string w hgd s x 46 9 ho B 5 i0 Tryd.underlying46 Tryd.underlying9 hi hz0 hz1 hz2 v l.length (bs l) hs hown t hx (by unfold maxLen; omega) hlen hB ?_
  intro v' w' h1 h2 _
  refine h v' w' ?_ h2
  unfold Own
  rw [bs_append, List.length_append]
  exact h1

theorem append_long (W : World) {ops : Array Oper} {rest : List Oper} {o : Oper} {a : Act} {Q : Exit → Act → World → Prop} (hgd : o.guard = none) (s x : Operand) (t e : TypeId) (z : Value) (size bytes : Nat)
    (ht : Tryd.prog.underlying t = some (.slice e)) (hi : (Tryd.prog.info? e).map (fun i => (i.zero, i.size, i.bytes)) = some (some z, size, bytes)) (hzs : z.cells.size = size) (hsz : 0 < size)
    (ho : o.op = .call { callee := .builtin .append, args := #[s, x], argTypes := #[t, t] })
    (B : Nat) (v : Value) (n : Nat) (l : List Value) (hs : a.eval s = v) (us : List Value) (hus : us.length = size) (h1 : ∀ u ∈ us, u.oneCell' = true) (g : Nat) (cs : Array Value) (hcs : cs = us.toArray) (hx : a.eval x = .slice (some ⟨g, 0, none⟩) 1 1)
    (hg : g = W.heap.size) (hown : W.ownsRow B e size v n l) (hn : n ≤ 1000000000) (hlen : (n + 1) * bytes ≤ 140737488355328) (hB : B ≤ W.heap.size)
    (h : ∀ v' w', w'.ownsRow B e size v' (n + 1) (l ++ us) → Grew W w' v v' → wpList Tryd.prog ops Q rest (a.put o.dst v') w') : wpList Tryd.prog ops Q (o :: rest) a (W.alloc (.cells cs e)) := by
  obtain ⟨i0, hi0, hb⟩ := Option.map_eq_some_iff.1 hi
  simp only [Prod.mk.injEq] at hb
  obtain ⟨hz0, hz1, hz2⟩ := hb
  subst hg hcs
  refine wpList_append_grew _ hgd s x t ho B e i0 z size bytes ht hi0 hz0 hz1 hz2 hzs hsz v n l hs (hown.alloc _) ⟨W.heap.size, 0, none⟩ 1 1 us hx (by omega) (cells_new _ _ _) h1 (by unfold maxLen; omega) hlen (by simp; omega) ?_
  intro v' w' h1 h2 _
  exact h v' w' h1 h2.ofAlloc

def pTo (ls : List ByteArray) (k : Nat) : List UInt8 := ((ls.take k).filter fun l => decide (¬ l = ⟨#[]⟩)).flatMap fun l => l.data.toList ++ [10]
theorem pTo_skip {ls : List ByteArray} {k : Nat} (hk : k < ls.length) (h : ls[k] = ⟨#[]⟩) : pTo ls (k + 1) = pTo ls k := by
  unfold pTo
  rw [List.take_succ_eq_append_getElem hk, List.filter_append, List.filter_cons_of_neg (by simp [h])]
  simp
theorem pTo_step {ls : List ByteArray} {k : Nat} (hk : k < ls.length) (h : ¬ ls[k] = ⟨#[]⟩) : pTo ls (k + 1) = pTo ls k ++ ls[k].data.toList ++ [10] := by
  unfold pTo
  rw [List.take_succ_eq_append_getElem hk, List.filter_append, List.filter_cons_of_pos (by simpa using h)]
  simp
theorem row_kept {w w' : World} {B : Nat} {e : TypeId} {size : Nat} {v : Value} {r : Option Nat} {n : Nat} {l : List Value} (h : w.ownsRow B e size v n l) (hg : w.grownBy w' r) (hne : ∀ k, r = some k → v.ownBlock ≠ some k) : w'.ownsRow B e size v n l := by
  refine World.ownsRow.kept h hg ?_
  cases hv : v.ownBlock with
  | none => exact .inl rfl
  | some k => exact .inr (fun e => hne k e.symm hv)

set_option maxRecDepth 100000 in
set_option maxHeartbeats 1000000 in
theorem rplain_calls (s : ByteArray) (w : World) (hs : s.size ≤ 8192) :
    Calls Tryd.prog 10 #[.string s] w fun e w' => e = .returned (.string ⟨(plainL s).toArray⟩) ∧ Below w.heap.size w w' := by
  have HS : Hid (∀ W, Calls Tryd.prog 19 #[.string s, .int .u8 10] W fun e w' => ∃ v, e = .returned v ∧ w'.ownsRow W.heap.size 9 1 v (wsOf s 10).length ((wsOf s 10).map Value.string) ∧ Below W.heap.size W w') := fun W => rsplit_calls s 10 W hs
  have HZ : Hid (∀ k (h : k < (wsOf s 10).length), (wsOf s 10)[k].size ≤ 8192) := fun k h => by have := wsOf_size s 10 _ (List.getElem_mem h); omega
  have hmost := wsOf_most s 10
  have HE : Hid (pTo (wsOf s 10) (wsOf s 10).length = plainL s) := by show _ = _; unfold pTo plainL fullL; rw [List.take_length]
  go_enter Tryd.func10, Tryd.ntmps10
  go_wp2_with fail
  refine (HS.out _).mono ?_
  rintro e w1 ⟨v, rfl, hr, hb⟩
  obtain ⟨ao, cap, rfl, hao⟩ := row_forms hr
  clear HS
  obtain ⟨ls, hls⟩ : ∃ ls, ls = wsOf s 10 := ⟨_, rfl⟩
  rw [← hls] at hr HZ HE hmost ⊢
  clear hls
  have hb1 : Below w.heap.size w w1 := ((Below.refl _ w).alloc (Nat.le_refl _) _).trans (hb.mono (by simp))
  have ho0 : Own w1 w.heap.size (.slice (some ⟨w.heap.size, 0, none⟩) 0 0) [] := by
    have : Own (w.alloc (.cells #[] 5)) w.heap.size (.slice (some ⟨w.heap.size, 0, none⟩) 0 0) [] := World.ownsRow_lit w #[] 0 (Nat.le_refl _) (by unfold maxLen; omega) rfl
    exact this.below hb
  have hs1 := hb1.size
  have HR1 : Hid (w1.ownsRow (w.alloc (.cells #[] 5)).heap.size 9 1 (.slice ao ls.length cap) ls.length (ls.map Value.string)) := hr
  clear hr hb hao
  go_wp2
  go_loopw [3, 5, 10] (fun x y i wr => ∃ k : Nat, k ≤ ls.length ∧ i = .int .i64 k ∧ Own wr w.heap.size x (pTo ls k) ∧ (pTo ls k).length ≤ k * 8193 ∧ Hid (wr.ownsRow (w.alloc (.cells #[] 5)).heap.size 9 1 (.slice ao ls.length cap) ls.length (ls.map Value.string)) ∧ Below w.heap.size w wr) (fun _ _ i _ => ls.length - (intOf i).toNat)
  case atStart => exact ⟨0, Nat.zero_le _, rfl, by simpa [pTo] using ho0, by simp [pTo], HR1, hb1⟩
  case round =>
    obtain ⟨k, hk, rfl, ho, hpl, HR, hb⟩ := hrel
    have hsz := hb.size
    obtain ⟨xo, xc, hx, _⟩ := row_forms ho
    subst hx
    by_cases hlt : k < ls.length
    · obtain ⟨b, off, rfl, c0⟩ := (row_cells HR.out).str k hlt
      have hz := HZ.out k hlt
      by_cases he : ls[k] = ⟨#[]⟩
      · have HP : Hid (pTo ls (k + 1) = pTo ls k) := pTo_skip hlt he
        have q : ls[k].toList.isEmpty = true := by rw [he, ByteArray.toList_eq]; rfl
        clear he
        go_wp2
        go_roundw
        case rel => exact ⟨k + 1, by omega, by go_num, by rw [HP.out]; exact ho, by rw [HP.out]; omega, HR, hb⟩
        case measure => simp [intOf]; omega
      · have HP := pTo_step hlt he
        have q : ls[k].toList.isEmpty = false := by
          cases h : ls[k].toList.isEmpty with
          | false => rfl
          | true =>
            refine absurd (Go.WideShapes.bytes_inj ?_) he
            rw [← ByteArray.toList_eq]
            exact List.isEmpty_iff.1 h
        clear he
        go_wp2_with (at_builtin; refine append_text _ rfl (.tmp 16) (.tmp 17) rfl w.heap.size _ (pTo ls k) rfl ho ls[k] rfl (by omega) hsz ?_)
        intro v1 w2 ho1 hg1
        have HR1 : Hid (w2.ownsRow (w.alloc (.cells #[] 5)).heap.size 9 1 (.slice (some ⟨b, off, none⟩) ls.length cap) ls.length (ls.map Value.string)) := row_kept HR.out hg1 (rows_ne HR.out ho (by decide))
        have hb2 : Below w.heap.size w w2 := hb.trans ((Below.refl _ wr).grown hg1 hsz fun j hj => (ho.lt j hj).1)
        have hs2 := hb2.size
        have hl1 : (pTo ls k ++ ls[k].data.toList).length ≤ 100000000 := by simp; omega
        clear ho hg1 hb HR c0
        go_wp2_with (at_builtin; refine append_long _ rfl (.tmp 18) (.tmp 19) _ 5 _ 1 1 Tryd.underlying46 info_byte rfl (by decide) rfl w.heap.size _ (pTo ls k ++ ls[k].data.toList).length _ rfl [.int .u8 10] rfl (by simp [Value.oneCell']) _ _ rfl rfl rfl ho1 (by omega) (by omega) hs2 ?_)
        intro v3 w3 ho3 hg3
        have HR3 : Hid (w3.ownsRow (w.alloc (.cells #[] 5)).heap.size 9 1 (.slice (some ⟨b, off, none⟩) ls.length cap) ls.length (ls.map Value.string)) := row_grew HR1.out hg3 (rows_ne HR1.out ho1 (by decide))
        have hb3 : Below w.heap.size w w3 := hb2.trans (hg3.toBelow hs2 fun j hj => (World.ownsRow.lt ho1 j hj).1)
        have ho4 : Own w3 w.heap.size v3 (pTo ls (k + 1)) := by
          unfold Own
          rw [HP, bs_append, List.length_append, show (pTo ls k ++ ls[k].data.toList).length + [(10 : UInt8)].length = (pTo ls k).length + ls[k].size + 1 by simp]
          exact ho3
        have hl4 : (pTo ls (k + 1)).length ≤ (k + 1) * 8193 := by
          rw [HP]; simp; omega
        clear ho1 hg3 hb2 HR1 ho3 HP
        go_wp2
        go_roundw
        case rel => exact ⟨k + 1, by omega, by go_num, ho4, hl4, HR3, hb3⟩
        case measure => simp [intOf]; omega
    · obtain rfl : k = ls.length := by omega
      have hstr := own_string ho
      go_wp2
      go_light
      go_ret
      rw [← HE.out]
      exact ⟨rfl, hb⟩
end Go.Proofs.YtojedpkbhkbaoaaDoor
