/- Layer 17 (sched): lists of jobs that grow; the law's cut. -/
import Derived.Test.YtagdgecmoeacgaaScPlay
namespace Go.Proofs.Ytagdgecmoeacgaa
open Go.RowKit
set_option linter.unusedVariables false
variable {S S' : Nat → Prop}

theorem jobC_length (js : List (Int × Int)) : (jobC js).length = js.length * 2 := by
  induction js with
  | nil => rfl
  | cons j js ih => simp only [jobC, List.flatMap_cons, List.length_append, List.length_cons, List.length_nil] at ih ⊢; omega
theorem jobC_at : ∀ (js : List (Int × Int)) (k : Nat) (h : k < js.length), (jobC js)[k * 2]? = some (.int .i64 js[k].1) ∧ (jobC js)[k * 2 + 1]? = some (.int .i64 js[k].2)
  | j :: js, 0, _ => ⟨rfl, rfl⟩
  | j :: js, k + 1, h => by
    have := jobC_at js k (by simpa using h)
    have e : jobC (j :: js) = [.int .i64 j.1, .int .i64 j.2] ++ jobC js := rfl
    rw [e, List.getElem?_append_right (by simp; omega), List.getElem?_append_right (by simp; omega)]
    simp only [List.length_cons, List.length_nil, List.getElem_cons_succ]
    rw [show (k + 1) * 2 - (0 + 1 + 1) = k * 2 by omega, show (k + 1) * 2 + 1 - (0 + 1 + 1) = k * 2 + 1 by omega]
    exact this
theorem jobC_append (js ks : List (Int × Int)) : jobC (js ++ ks) = jobC js ++ jobC ks := by simp [jobC]
/-- The slice v of jobs, of the call's own. -/
def OwJ (w : World) (B : Nat) (v : Value) (js : List (Int × Int)) : Prop := w.ownsRow B 32 2 v js.length (jobC js)
theorem OwJ.kept {w w' : World} {B : Nat} {v : Value} {l : List (Int × Int)} (h : OwJ w B v l) (hk : ∀ k, v.ownBlock = some k → k < w.heap.size → w'.heap[k]? = w.heap[k]?) : OwJ w' B v l := by
  refine ⟨h.1, ?_⟩
  rcases h.2 with h0 | ⟨g, cap, cur, rfl, hb, hg, r⟩
  · exact .inl h0
  · exact .inr ⟨g, cap, cur, rfl, hb, (hk g (by simp [Value.ownBlock]) (lt_of_heapT hg)).trans hg, r⟩
theorem OwJ.below {w w' : World} {B : Nat} {v : Value} {l : List (Int × Int)} (h : OwJ w B v l) (hb : Below w.heap.size w w') : OwJ w' B v l := h.kept fun k _ hl => hb.block k hl
theorem OwJ.lt {w : World} {B : Nat} {v : Value} {l : List (Int × Int)} (h : OwJ w B v l) : ∀ k, v.ownBlock = some k → B ≤ k ∧ k < w.heap.size := World.ownsRow.lt h
theorem OwJ.mono {w : World} {B B' : Nat} {v : Value} {l : List (Int × Int)} (h : OwJ w B v l) (hB : B' ≤ B) : OwJ w B' v l := by
  refine ⟨h.1, ?_⟩
  rcases h.2 with h | ⟨g, cap, cur, hv, hb, r⟩
  · exact .inl h
  · exact .inr ⟨g, cap, cur, hv, Nat.le_trans hB hb, r⟩
theorem OwJ.shape {w : World} {B : Nat} {v : Value} {l : List (Int × Int)} (h : OwJ w B v l) : ∃ ao cap, v = .slice ao l.length cap := by
  rcases h.2 with ⟨rfl, h0⟩ | ⟨g, cap, cur, rfl, _⟩
  · exact ⟨none, 0, by rw [h0]⟩
  · exact ⟨_, _, rfl⟩
theorem OwJ.jb {w : World} {B : Nat} {ao : Option Addr} {n cap : Nat} {l : List (Int × Int)} (h : OwJ w B (.slice ao n cap) l) : JbAt w ao l := fun k hk => by
  have hc := jobC_at l k hk
  rcases h.2 with ⟨he, h0⟩ | ⟨g, cap', cur, he, _⟩
  · omega
  · simp only [Value.slice.injEq] at he
    obtain ⟨rfl, rfl, rfl⟩ := he
    refine ⟨g, 0, rfl, ?_, ?_⟩
    · rw [Nat.zero_add, World.ownsRow.cellAt h (k * 2) (by omega)]; exact hc.1
    · rw [Nat.zero_add, World.ownsRow.cellAt h (k * 2 + 1) (by omega)]; exact hc.2
theorem info_job : (Try.prog.info? 32).map (fun i => (i.zero, i.size, i.bytes)) = some (some (.agg #[.int .i64 0, .int .i64 0]), 2, 16) := by kernel_rfl
theorem emptyJ (W : World) : OwJ (W.alloc (.cells #[] 32)) W.heap.size (.slice (some ⟨W.heap.size, 0, none⟩) 0 0) [] := World.ownsRow_lit (size := 2) W #[] 0 (Nat.le_refl _) (by unfold maxLen; omega) rfl
/-- append(s, job), the job laid right ahead. -/
theorem append_j (W : World) {ops : Array Oper} {rest : List Oper} {o : Oper} {a : Act} {Q : Exit → Act → World → Prop} (hgd : o.guard = none) (s x : Operand)
    (ho : o.op = .call { callee := .builtin .append, args := #[s, x], argTypes := #[22, 22] })
    (B : Nat) (v : Value) (l : List (Int × Int)) (hs : a.eval s = v) (j : Int × Int) (g : Nat) (hx : a.eval x = .slice (some ⟨g, 0, none⟩) 1 1)
    (hg : g = W.heap.size) (hown : OwJ W B v l) (hlen : l.length + 1 ≤ 1099511627776) (hB : B ≤ W.heap.size)
    (h : ∀ v' w', OwJ w' B v' (l ++ [j]) → Grew W w' v v' → wpList Try.prog ops Q rest (a.put o.dst v') w') : wpList Try.prog ops Q (o :: rest) a (W.alloc (.cells #[.int .i64 j.1, .int .i64 j.2] 32)) := by
  obtain ⟨i0, hi, hz0, hz1, hz2⟩ := infoV info_job
  subst hg
  refine wpList_append_grew _ hgd s x 22 ho B 32 i0 _ 2 16 Try.underlying22 hi hz0 hz1 hz2 rfl (by decide) v l.length (jobC l) hs (World.ownsRow.alloc hown _) ⟨W.heap.size, 0, none⟩ 1 1 [.int .i64 j.1, .int .i64 j.2] hx rfl (cells_new _ _ _) (by simp [Value.oneCell']) (by unfold maxLen; omega) (by omega) (by simp; omega) ?_
  intro v' w' h1 h2 _
  refine h v' w' ?_ h2.ofAlloc
  unfold OwJ
  rw [List.length_append, jobC_append]
  exact h1

set_option maxRecDepth 100000 in
set_option maxHeartbeats 2000000 in
theorem cut_calls (w : World) (jo : Option Addr) (jn jc : Nat) (js : List (Int × Int)) (hj : JbAt w jo js) (hjn : js.length = jn) (hjl : jn ≤ 140737488355328) :
    Calls Try.prog 6 #[.slice jo jn jc] w fun e w' => (∃ v, e = .returned v ∧ OwJ w' w.heap.size v (js.take 20)) ∧ Below w.heap.size w w' := by
  have HJ : Hid (JbAt w jo js) := hj
  have HN : Hid (js.length = jn) := hjn
  have HE : Hid (OwJ (w.alloc (.cells #[] 32)) w.heap.size (.slice (some ⟨w.heap.size, 0, none⟩) 0 0) []) := emptyJ w
  have HB : Hid (Below w.heap.size w (w.alloc (.cells #[] 32))) := below_alloc1 w _
  obtain ⟨w1, hw1⟩ : ∃ w1, Hid (w1 = w.alloc (.cells #[] 32)) := ⟨_, rfl⟩
  rw [← hw1.out] at HE HB
  clear hj hjn
  go_enter Try.func6, Try.ntmps6
  go_wp2
  rw [← hw1.out]
  clear hw1
  go_loopw [3, 9] (fun x i wr => ∃ (k : Nat) (ao : Option Addr) (l c : Nat), k ≤ jn ∧ i = .int .i64 (k : Int) ∧ x = .slice ao l c ∧ Hid (l = min k 20) ∧ Hid (OwJ wr w.heap.size (.slice ao l c) ((js.take 20).take k)) ∧ Hid (Below w.heap.size w wr)) (fun _ i _ => jn - (intOf i).toNat)
  case atStart => exact ⟨0, _, _, _, Nat.zero_le _, rfl, rfl, by show 0 = min 0 20; omega, HE, HB⟩
  case round =>
    clear HE HB
    obtain ⟨k, ao, l, c, hk, rfl, rfl, hl, HO, HB⟩ := hrel
    by_cases hlt : k < jn
    · have hkj : k < js.length := by rw [HN.out]; exact hlt
      obtain ⟨b, off, rfl, hc0, hc1⟩ := (HJ.out.below HB.out) k hkj
      by_cases h20 : k < 20
      · obtain ⟨ja, Hja⟩ : ∃ ja, Hid (ja = (js[k]'hkj).1) := ⟨(js[k]'hkj).1, rfl⟩
        obtain ⟨jb, Hjb⟩ : ∃ jb, Hid (jb = (js[k]'hkj).2) := ⟨(js[k]'hkj).2, rfl⟩
        rw [← Hja.out] at hc0
        rw [← Hjb.out] at hc1
        have HT : Hid ((js.take 20).take k ++ [(ja, jb)] = (js.take 20).take (k + 1)) := by
          rw [Hid, List.take_take, List.take_take, show min k 20 = k by omega, show min (k + 1) 20 = k + 1 by omega, List.take_succ_eq_append_getElem hkj, Hja.out, Hjb.out]
        have HL : Hid (((js.take 20).take k).length = l) := by rw [Hid, List.length_take, List.length_take, HN.out, hl.out]; omega
        have hl20 : l ≤ 20 := by rw [hl.out]; omega
        have HBa : Hid (Below w.heap.size w (wr.alloc (.cells #[.int .i64 ja, .int .i64 jb] 32))) := HB.out.alloc HB.out.size _
        have HOa : Hid (OwJ (wr.alloc (.cells #[.int .i64 ja, .int .i64 jb] 32)) w.heap.size (.slice ao l c) ((js.take 20).take k)) := HO.out.below (below_alloc1 wr _)
        have HB9 : Hid (w.heap.size ≤ (wr.alloc (.cells #[.int .i64 ja, .int .i64 jb] 32)).heap.size) := HBa.out.size
        clear Hja Hjb
        go_wp2_with (at_builtin; go_must (refine append_j _ rfl (.tmp 16) (.tmp 22) rfl w.heap.size _ ((js.take 20).take k) rfl (ja, jb) _ rfl (by simp [World.size_alloc]) HOa.out (by rw [HL.out]; omega) HB9.out ?_))
        intro v5 w5 ho5 hg5
        rw [HT.out] at ho5
        have HB5 : Hid (Below w.heap.size w w5) := HBa.out.trans (hg5.toBelow HBa.out.size (fun j hj => (HOa.out.lt j hj).1))
        obtain ⟨ao5, c5, rfl⟩ := ho5.shape
        have HL5 : Hid (((js.take 20).take (k + 1)).length = min (k + 1) 20) := by rw [Hid, List.length_take, List.length_take, HN.out]; omega
        rw [HL5.out] at ho5 ⊢
        have HO5 : Hid (OwJ w5 w.heap.size (.slice ao5 (min (k + 1) 20) c5) ((js.take 20).take (k + 1))) := ho5
        clear ho5 hg5 HOa HBa HB9 HO HL5
        go_wp2
        go_roundw
        case rel => exact ⟨k + 1, ao5, _, c5, by omega, by go_num, rfl, rfl, HO5, HB5⟩
        case measure => simp [intOf]; omega
      · have HBa : Hid (∀ o, Below w.heap.size w (wr.alloc o)) := fun o => HB.out.alloc HB.out.size _
        have HOa : Hid (∀ o, OwJ (wr.alloc o) w.heap.size (.slice ao l c) ((js.take 20).take (k + 1))) := fun o => by
          have := HO.out.below (below_alloc1 wr o)
          rw [List.take_take, show min k 20 = 20 by omega] at this
          rw [List.take_take, show min (k + 1) 20 = 20 by omega]
          exact this
        clear HO HB
        go_wp2
        go_roundw
        case rel => exact ⟨k + 1, ao, l, c, by omega, by go_num, rfl, by show _ = _; rw [hl.out]; omega, HOa.out _, HBa.out _⟩
        case measure => simp [intOf]; omega
    · have HZ : Hid (OwJ wr w.heap.size (.slice ao l c) (js.take 20)) := by
        have := HO.out
        rw [List.take_of_length_le (l := js.take 20) (by rw [List.length_take, HN.out]; omega)] at this
        exact this
      go_wp2
      go_ret
      exact ⟨⟨_, rfl, HZ.out⟩, HB.out⟩
end Go.Proofs.Ytagdgecmoeacgaa
