/- Layer 14 (timers): container/heap's Remove; Stop. -/
import Derived.Test.YtedhjdkhfndinaaTiAdv
import Derived.Test.YtedhjdkhfndinaaRgGen
namespace Go.Proofs.Ytedhjdkhfndinaa
open Go.RowKit Go.MapKept
set_option linter.unusedVariables false
variable {S S' : Nat → Prop} {wb mb : Nat} {most now sets : Int} {v : Value} {L : List Tm}

set_option maxRecDepth 100000 in
set_option maxHeartbeats 2000000 in
theorem hremove_calls (wb n i : Nat) (v : Value) (L : List Tm) (x : Tm) (cs : Array Value) (w : World) (hb : w.heap[wb]? = some (.cells cs 60)) (hc : cs[3]? = some v) (h : PnAt w v L) (hh : HpAll L L.length)
    (hn : L.length = n + 1) (hx : L[i]? = some x) (hl : n + 1 ≤ 140737488355328) :
    Calls Try.prog 25 #[.iface 66 (.pointer (some ⟨wb, 3, none⟩)), .int .i64 (i : Int)] w fun e w' => e = .returned (.iface 61 (ptrT x)) ∧ ∃ v' M, PnAt w' v' M ∧ (M ++ [x]).Perm L ∧ HpAll M M.length ∧
      w'.heap[wb]? = some (.cells (cs.setIfInBounds 3 v') 60) ∧
      Frm (fun k => k = wb ∨ FT v L k) w w' ∧ (∀ k, v'.ownBlock = some k → v.ownBlock = some k) ∧ w'.heap.size = w.heap.size := by
  have hin : i ≤ n := by have := (List.getElem?_eq_some_iff.1 hx).1; omega
  obtain ⟨y, hy⟩ : ∃ y, L[n]? = some y := ⟨_, List.getElem?_eq_getElem (by omega)⟩
  have HSw := swap_calls v L i n x y w h hx hy
  have c0 : w.cell? ⟨wb, 3, none⟩ = some v := by rw [cell_blkT hb]; exact hc
  obtain ⟨ao, cap, rfl, hml⟩ := h.len
  have hmt := meth_len w wb _ c0
  have hmt2 := meth_swap w wb _ c0
  have HLn := len_calls ao L.length cap w hml
  have HI0 : Hid (HpI w wb (n + 1) (.slice ao L.length cap) L L w) := ⟨c0, h, List.Perm.refl _, fun _ _ => rfl, Frm.refl _ _, rfl⟩
  have HB : Hid (w.heap[wb]? = some (.cells cs 60) ∧ cs[3]? = some (.slice ao L.length cap) ∧ PnAt w (.slice ao L.length cap) L ∧ HpAll L (n + 1) ∧ L[i]? = some x ∧ L[n]? = some y ∧ L.length = n + 1) := ⟨hb, hc, h, hn ▸ hh, hx, hy, hn⟩
  -- the last step: what is taken off, from whatever state
  have HLast : Hid (∀ (w2 : World) (A : List Tm), A.length = n → PnAt w2 (.slice ao L.length cap) (A ++ [x]) → (A ++ [x]).Perm L → HpAll (A ++ [x]) n → w2.heap[wb]? = some (.cells cs 60) → Frm (FT (.slice ao L.length cap) L) w w2 → w2.heap.size = w.heap.size →
      Calls Try.prog 52 #[.pointer (some ⟨wb, 3, none⟩)] w2 fun e w' => e = .returned (.iface 61 (ptrT x)) ∧ ∃ v' M, PnAt w' v' M ∧ (M ++ [x]).Perm L ∧ HpAll M M.length ∧
      w'.heap[wb]? = some (.cells (cs.setIfInBounds 3 v') 60) ∧
      Frm (fun k => k = wb ∨ FT (.slice ao L.length cap) L k) w w' ∧ (∀ k, v'.ownBlock = some k → (Value.slice ao L.length cap).ownBlock = some k) ∧ w'.heap.size = w.heap.size) := by
    intro w2 A hAl hp hpm hA hb2 hf hs
    refine (popM_calls wb _ A x cs w2 hb2 HB.out.2.1 hp (by omega)).mono ?_
    rintro e w3 ⟨rfl, v3, hp3, hb3, hf3, hv3, hs3⟩
    exact ⟨rfl, v3, A, hp3, hpm, hA.cut hAl, hb3, (hf.weaken (fun k _ h => .inr h)).trans (hf3.weaken (fun k _ h => by rcases h with h | h; exact .inl h; exact .inr (.inl h))), hv3, hs3.trans hs⟩
  have hmp := fun w2 => meth_pop w2 wb
  obtain ⟨N, HN⟩ : ∃ N, Hid (N = L.length) := ⟨_, rfl⟩
  rw [← HN.out] at hmt hmt2 HLn HSw
  have hNn : N = n + 1 := by rw [HN.out]; exact hn
  subst hNn
  clear hb hc h hh hx hy c0
  have ew2 : (((n + 1 : Nat) : Int) - 1) = (n : Int) := by omega
  by_cases hni : n = i
  · subst hni
    have hq : ((n : Int) != (n : Int)) = false := by simp
    obtain ⟨A, hLA, hAl⟩ := split_last hn HB.out.2.2.2.2.1
    have HL := HLast.out w A hAl (by rw [← hLA]; exact HB.out.2.2.1) (by rw [← hLA]) (fun k k0 kn a b ha hb => by rw [← hLA] at ha hb; exact HB.out.2.2.2.1 k k0 (by omega) a b ha hb) HB.out.1 (Frm.refl _ _) rfl
    clear HLast HSw hmt2
    go_enter Try.func25, Try.ntmps25
    go_wp2_with fail
    refine HLn.mono ?_
    clear HLn hmt
    rintro e w0 ⟨rfl, rfl⟩
    go_wp2_with fail
    refine HL.mono ?_
    clear HL
    rintro e w3 ⟨rfl, h3⟩
    have HE : Hid _ := h3
    clear h3
    unfold ptrT
    go_wp2
    go_ret
    exact ⟨rfl, HE.out⟩
  · have hlt : i < n := by omega
    have hq : ((n : Int) != (i : Int)) = true := by simp; omega
    go_enter Try.func25, Try.ntmps25
    go_wp2_with fail
    refine HLn.mono ?_
    clear HLn hmt
    rintro e w0 ⟨rfl, rfl⟩
    go_wp2_with fail
    try rw [ew2]
    refine HSw.mono ?_
    clear HSw hmt2
    rintro e w1 ⟨rfl, hp1, hf1, hs1⟩
    rw [HN.out] at hp1 hf1
    have HI1 : Hid (HpI w0 wb (n + 1) (.slice ao L.length cap) L (swapL L i n x y) w1) := HI0.out.swap HB.out.2.2.2.2.1 HB.out.2.2.2.2.2.1 (by omega) (by omega) (not_FT HB.out.2.2.1 HB.out.1) hp1 hf1 hs1
    clear hp1 hf1 hs1 HI0
    have HB1 : Hid (w1.heap[wb]? = some (.cells cs 60)) := HI1.out.blk HB.out.2.2.1 HB.out.1
    have HDn := down_calls wb n i _ (swapL L i n x y) w1 HI1.out.cell HI1.out.pn (not_FT HI1.out.pn HB1.out) (by rw [swapL_length]; omega) (by omega) (by omega) (HB.out.2.2.2.1.dn HB.out.2.2.2.2.1 HB.out.2.2.2.2.2.1 (by omega))
    go_wp2_with fail
    refine HDn.mono ?_
    clear HDn
    rintro e w2 ⟨M1, b, rfl, hI2, hb1, hb2⟩
    have hM1 : M1[n]? = some x := by rw [hI2.rest n (Nat.le_refl _)]; exact swap_at2 HB.out.2.2.2.2.1 HB.out.2.2.2.2.2.1
    have hM1l : M1.length = n + 1 := by rw [hI2.len, swapL_length]; exact hn
    have HB2 : Hid (w2.heap[wb]? = some (.cells cs 60)) := hI2.blk HI1.out.pn HB1.out
    have HF2 : Hid (Frm (FT (.slice ao L.length cap) L) w0 w2 ∧ w2.heap.size = w0.heap.size ∧ M1.Perm L) := by
      refine ⟨HI1.out.frm.trans ?_, hI2.size.trans HI1.out.size, hI2.perm.trans HI1.out.perm⟩
      have := hI2.frm
      rw [FT.perm HI1.out.perm] at this
      exact this
    have HP2 : Hid (PnAt w2 (.slice ao L.length cap) M1 ∧ w2.cell? ⟨wb, 3, none⟩ = some (.slice ao L.length cap)) := ⟨hI2.pn, hI2.cell⟩
    cases b with
    | true =>
      obtain ⟨A, hMA, hAl⟩ := split_last hM1l hM1
      have HL := HLast.out w2 A hAl (by rw [← hMA]; exact HP2.out.1) (by rw [← hMA]; exact HF2.out.2.2) (by rw [← hMA]; exact hb1 rfl) HB2.out HF2.out.1 HF2.out.2.1
      clear hI2 hb1 hb2 hM1 HLast
      go_wp2_with fail
      refine HL.mono ?_
      clear HL
      rintro e w3 ⟨rfl, h3⟩
      have HE : Hid _ := h3
      clear h3
      unfold ptrT
      go_wp2
      go_ret
      exact ⟨rfl, HE.out⟩
    | false =>
      have HUp := up_calls wb n i _ M1 w2 HP2.out.2 HP2.out.1 (not_FT HP2.out.1 HB2.out) hlt (by omega) (by omega) (hb2 rfl)
      clear hI2 hb1 hb2
      go_wp2_with fail
      refine HUp.mono ?_
      clear HUp
      rintro e w3 ⟨rfl, M3, hI3, hA3⟩
      have hM3 : M3[n]? = some x := by rw [hI3.rest n (Nat.le_refl _)]; exact hM1
      obtain ⟨A, hMA, hAl⟩ := split_last (by rw [hI3.len]; exact hM1l) hM3
      have hF3 : Frm (FT (.slice ao L.length cap) L) w0 w3 := by
        have := hI3.frm
        rw [FT.perm HF2.out.2.2] at this
        exact HF2.out.1.trans this
      have HL := HLast.out w3 A hAl (by rw [← hMA]; exact hI3.pn) (by rw [← hMA]; exact hI3.perm.trans HF2.out.2.2) (by rw [← hMA]; exact hA3) (hI3.blk HP2.out.1 HB2.out) hF3 (hI3.size.trans HF2.out.2.1)
      clear hI3 hA3 hM3 hM1 hF3 HLast
      go_wp2_with fail
      refine HL.mono ?_
      clear HL
      rintro e w4 ⟨rfl, h3⟩
      have HE : Hid _ := h3
      clear h3
      unfold ptrT
      go_wp2
      go_ret
      exact ⟨rfl, HE.out⟩

set_option maxRecDepth 100000 in
theorem stop_no (w : World) (id : Int) (h : WhAt w S wb mb most now sets v L) (hi : ∀ x ∈ L, x.id ≠ id) :
    Calls Try.prog 13 #[.pointer (some ⟨wb, 0, none⟩), .int .i64 id] w fun e w' => e = .returned (.bool false) ∧ w' = w := by
  obtain ⟨M, hM, hp⟩ := h.mp
  have hlk := hM.lookNo (id := id) (h.no hi hp)
  have c : w.cell? ⟨wb, 4, none⟩ = some (.map (some mb)) := by rw [cell_blkT h.blk]; rfl
  have hnot : ∀ (x : Bool) (w : World), (Op.unary .not (.bool x)).run Try.prog w = .ok (.bool (!x)) w := fun _ _ => rfl
  clear h hM hp hi
  go_enter Try.func13, Try.ntmps13
  go_wp2
  go_ret
  exact ⟨rfl, rfl⟩

section
variable {o : Oper} {a : Act} {W : World} {K : Act → World → Prop} {Q : Exit → Act → World → Prop}
theorem f_nilW {x : Operand} {p : Addr} (ho : o.op = .nilCheck x) (hx : a.eval x = .pointer (some p)) (h : K (a.put o.dst (.pointer (some p))) W) : o.wp Try.prog a W K Q :=
  wp_valF (v := .pointer (some p)) (by unfold execOp; simp only [ho, hx]; simp [go_sem]) h
theorem f_fldW3 {x : Operand} {g : Nat} (ho : o.op = .fieldAddr 60 x 3) (hx : a.eval x = .pointer (some ⟨g, 0, none⟩)) (h : K (a.put o.dst (.pointer (some ⟨g, 3, none⟩))) W) : o.wp Try.prog a W K Q :=
  wp_valF (v := .pointer (some ⟨g, 3, none⟩)) (by unfold execOp; simp only [ho, hx]; go_simp) h
theorem f_fldT3 {x : Operand} {g : Nat} (ho : o.op = .fieldAddr 64 x 3) (hx : a.eval x = .pointer (some ⟨g, 0, none⟩)) (h : K (a.put o.dst (.pointer (some ⟨g, 3, none⟩))) W) : o.wp Try.prog a W K Q :=
  wp_valF (v := .pointer (some ⟨g, 3, none⟩)) (by unfold execOp; simp only [ho, hx]; go_simp) h
theorem f_mkW {x : Operand} {p : Addr} (ho : o.op = .makeInterface 66 x) (hx : a.eval x = .pointer (some p)) (h : K (a.put o.dst (.iface 66 (.pointer (some p)))) W) : o.wp Try.prog a W K Q :=
  wp_valF (v := .iface 66 (.pointer (some p))) (by unfold execOp; simp only [ho, hx]; go_simp) h
theorem f_loadN {x : Operand} {p k : Nat} {n : Int} (ho : o.op = .load 3 x) (hx : a.eval x = .pointer (some ⟨p, k, none⟩)) (hc : W.cell? ⟨p, k, none⟩ = some (.int .i64 n)) (h : K (a.put o.dst (.int .i64 n)) W) : o.wp Try.prog a W K Q :=
  wp_valF (v := .int .i64 n) (by unfold execOp; simp only [ho, hx]; simp [hc, go_sem]) h
end

/-- What a Stop leaves that stops. -/
def StopW (w : World) (S : Nat → Prop) (wb mb : Nat) (most now sets : Int) (L : List Tm) (x : Tm) (e : Ending) (w' : World) : Prop :=
  ∃ (v' : Value) (L' : List Tm), e = .returned (.bool true) ∧ WhAt w' S wb mb most now sets v' L' ∧ (L' ++ [x]).Perm L ∧ Frm S w w'

set_option maxRecDepth 100000 in
set_option maxHeartbeats 1000000 in
theorem stop_ok (w : World) (n : Nat) (x : Tm) (h : WhAt w S wb mb most now sets v L) (hn : L.length = n + 1) (hx : x ∈ L) (hl : n + 1 ≤ 140737488355328) :
    Calls Try.prog 13 #[.pointer (some ⟨wb, 0, none⟩), .int .i64 x.id] w (StopW w S wb mb most now sets L x) := by
  obtain ⟨i, hi⟩ := List.mem_iff_getElem?.1 hx
  obtain ⟨M, hM, hMp⟩ := h.mp
  have hxM : (x.id, x.b) ∈ M := hMp.mem_iff.2 (List.mem_map.2 ⟨x, hx, rfl⟩)
  have hlk := hM.look hxM
  have c : w.cell? ⟨wb, 4, none⟩ = some (.map (some mb)) := by rw [cell_blkT h.blk]; rfl
  have hnot : ∀ (x : Bool) (w : World), (Op.unary .not (.bool x)).run Try.prog w = .ok (.bool (!x)) w := fun _ _ => rfl
  have HT : Hid (w.heap[x.b]? = some (.cells (tcell x i) 64)) := h.pn.tms i x hi
  have HH : Hid (WhAt w S wb mb most now sets v L ∧ MpAt w mb M ∧ M.Perm (L.map idb) ∧ (x.id, x.b) ∈ M ∧ L[i]? = some x) := ⟨h, hM, hMp, hxM, hi⟩
  clear h hM hMp hxM hi hx
  go_enter Try.func13, Try.ntmps13
  go_upto_region 4 with fail
  refine wp_region_inv 8 (fun i' v W => match i' with
    | 0 => v = .pointer (some ⟨wb, 0, none⟩)
    | 1 => v = .pointer (some ⟨wb, 0, none⟩)
    | 2 => v = .pointer (some ⟨wb, 3, none⟩)
    | 3 => v = .iface 66 (.pointer (some ⟨wb, 3, none⟩))
    | 4 => v = .pointer (some ⟨x.b, 0, none⟩)
    | 5 => v = .pointer (some ⟨x.b, 0, none⟩)
    | 6 => v = .pointer (some ⟨x.b, 3, none⟩)
    | 7 => v = .int .i64 (i : Int)
    | _ => False) (by kernel_rfl) (by kernel_rfl) (by kernel_rfl) [some 18, some 19, some 20, some 21, some 22, some 23, some 24, some 25] (by kernel_rfl) ?mono ?hop ?tail
  case mono => exact fun i v W W' h _ => h
  case hop =>
    intro i' o hi' ho a W hB hs hd
    match i', hi', ho, hd with
    | 0, _, ho, hd =>
      obtain rfl := Option.some.inj ho
      exact f_move rfl ((hs 0 (by kernel_rfl)).trans rfl) ⟨_, rfl, rfl, Below.refl _ _⟩
    | 1, _, ho, hd =>
      obtain rfl := Option.some.inj ho
      exact f_nilW rfl (hd 0 18 (by kernel_rfl) (by kernel_rfl)) ⟨_, rfl, rfl, Below.refl _ _⟩
    | 2, _, ho, hd =>
      obtain rfl := Option.some.inj ho
      exact f_fldW3 rfl (hd 1 19 (by kernel_rfl) (by kernel_rfl)) ⟨_, rfl, rfl, Below.refl _ _⟩
    | 3, _, ho, hd =>
      obtain rfl := Option.some.inj ho
      exact f_mkW rfl (hd 2 20 (by kernel_rfl) (by kernel_rfl)) ⟨_, rfl, rfl, Below.refl _ _⟩
    | 4, _, ho, hd =>
      obtain rfl := Option.some.inj ho
      exact f_move rfl ((hs 5 (by kernel_rfl)).trans rfl) ⟨_, rfl, rfl, Below.refl _ _⟩
    | 5, _, ho, hd =>
      obtain rfl := Option.some.inj ho
      exact f_nilW rfl (hd 4 22 (by kernel_rfl) (by kernel_rfl)) ⟨_, rfl, rfl, Below.refl _ _⟩
    | 6, _, ho, hd =>
      obtain rfl := Option.some.inj ho
      exact f_fldT3 rfl (hd 5 23 (by kernel_rfl) (by kernel_rfl)) ⟨_, rfl, rfl, Below.refl _ _⟩
    | 7, _, ho, hd =>
      obtain rfl := Option.some.inj ho
      exact f_loadN rfl (hd 6 24 (by kernel_rfl) (by kernel_rfl)) (by rw [cell_blkT ((hB.block _ (lt_of_heapT HT.out)).trans HT.out)]; rfl) ⟨_, rfl, rfl, Below.refl _ _⟩
    | k + 8, hi', _, _ => exact absurd hi' (by omega)
  case tail =>
    intro vs W hB hR
    have r3 : vs 3 = .iface 66 (.pointer (some ⟨wb, 3, none⟩)) := hR 3 (by decide)
    have r7 : vs 7 = .int .i64 (i : Int) := hR 7 (by decide)
    have HW : Hid (WhAt W S wb mb most now sets v L ∧ MpAt W mb M ∧ M.Perm (L.map idb) ∧ (x.id, x.b) ∈ M ∧ L[i]? = some x) := ⟨HH.out.1.below hB, HH.out.2.1.same (hB.block _ HH.out.2.1.lt), HH.out.2.2⟩
    have HFW : Hid (Frm S w W) := Frm.ofBelow hB S
    have HL := hremove_calls wb n i v L x (wCell most now sets v mb) W HW.out.1.blk rfl HW.out.1.pn HW.out.1.hp hn HW.out.2.2.2.2 hl
    clear hB hR HH HT c hlk
    simp only [putL, put_lit, List.setIfInBounds_toArray, List.set_cons_succ, List.set_cons_zero, List.drop_succ_cons, List.drop_zero]
    rw [r3, r7]
    go_wp2_with fail
    refine HL.mono ?_
    clear HL
    rintro e w1 ⟨rfl, v1, A, hp1, hpm, hh1, hb1, hf1, hv1, hs1⟩
    have hb1' : w1.heap[wb]? = some (.cells (wCell most now sets v1 mb) 60) := by rw [hb1]; simp [wCell]
    have hFS : Frm S W w1 := hf1.weaken (fun k _ hk => by
      rcases hk with rfl | h | ⟨y, hy, rfl⟩
      · exact HW.out.1.sw
      · exact HW.out.1.sv k h
      · exact HW.out.1.st y hy)
    have hM := HW.out.2.1
    have hM1 : MpAt w1 mb M := hM.same (hf1.block _ hM.lt (by
      rintro (e | e | ⟨y, hy, e⟩)
      · exact hM.ne HW.out.1.blk e.symm
      · rcases HW.out.1.pn.pend.2 with ⟨e0, _⟩ | ⟨g, cap', cur, e0, _, hg, _⟩
        · rw [e0] at e; cases e
        · rw [e0] at e
          simp [Value.ownBlock] at e
          exact hM.ne hg e
      · obtain ⟨i, hi⟩ := List.mem_iff_getElem?.1 hy
        exact hM.ne (HW.out.1.pn.tms i y hi) e))
    obtain ⟨w2, M2, hdel, hM2, hMq, hF2, hs2⟩ := hM1.del HW.out.2.2.2.1 0
    have c4 : w1.cell? ⟨wb, 4, none⟩ = some (.map (some mb)) := by rw [cell_blkT hb1']; rfl
    have n2 : ∀ (b : Nat) cs t, w1.heap[b]? = some (.cells cs t) → w2.heap[b]? = some (.cells cs t) := fun b cs t hb => (hF2.block b (lt_of_heapT hb) (hM1.ne hb)).trans hb
    have HE : Hid (StopW w S wb mb most now sets L x (.returned (.bool true)) w2) := by
      refine ⟨v1, A, rfl, ⟨n2 _ _ _ hb1', ?_, ⟨M2, hM2, ?_⟩, hh1, HW.out.1.sw, HW.out.1.sm, fun k hk => HW.out.1.sv k (hv1 k hk), fun y hy => HW.out.1.st y (hpm.mem_iff.1 (List.mem_append_left _ hy)), fun k hk => ?_⟩, hpm, ?_⟩
      · refine hp1.same (fun k hk => ?_) (fun y hy => ?_)
        · rcases hp1.pend.2 with ⟨e0, _⟩ | ⟨g, cap', cur, e0, _, hg, _⟩
          · rw [e0] at hk; cases hk
          · rw [e0] at hk
            simp [Value.ownBlock] at hk
            rw [← hk, n2 _ _ _ hg, hg]
        · obtain ⟨i, hi⟩ := List.mem_iff_getElem?.1 hy
          rw [n2 _ _ _ (hp1.tms i y hi), hp1.tms i y hi]
      · have h1 : ((x.id, x.b) :: M2).Perm ((A ++ [x]).map idb) := hMq.symm.trans (HW.out.2.2.1.trans (hpm.map idb).symm)
        rw [List.map_append] at h1
        exact (h1.trans List.perm_append_comm).cons_inv
      · exact Nat.lt_of_lt_of_le (HW.out.1.sb k hk) (Nat.le_trans hFS.size hF2.size)
      · exact (HFW.out.trans hFS).trans (hF2.weaken (fun k _ e => by rw [e]; exact HW.out.1.sm))
    clear hp1 hpm hh1 hb1 hf1 hv1 hs1 hb1' hFS hM hM1 hM2 hMq hF2 hs2 n2
    go_wp2
    go_ret
    exact HE.out
end Go.Proofs.Ytedhjdkhfndinaa
