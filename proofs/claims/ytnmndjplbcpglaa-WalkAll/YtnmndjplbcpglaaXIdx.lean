/- The document's From over sorted lists. -/
import Derived.Test.YtnmndjplbcpglaaXRemade
import Derived.Test.YtnmndjplbcpglaaXRise
namespace Go.Proofs.Ytnmndjplbcpglaa
open Go.RowKit
set_option linter.unusedVariables false

/-- The places of the entries at which p holds, among the first j. -/
def idxTo (p : En → Bool) (es : List En) (j : Nat) : List Nat := (List.range j).filter fun i => p (es.getD i (⟨#[]⟩, 0))
theorem idxTo_succ (p : En → Bool) (es : List En) (j : Nat) (hj : j < es.length) : idxTo p es (j + 1) = idxTo p es j ++ (if p es[j] then [j] else []) := by
  unfold idxTo
  rw [List.range_succ, List.filter_append]
  congr 1
  simp [List.filter_cons, hj]
theorem idxTo_len (p : En → Bool) (es : List En) (j : Nat) : (idxTo p es j).length ≤ j := by
  have := List.length_filter_le (fun i => p (es.getD i (⟨#[]⟩, 0))) (List.range j)
  simpa [idxTo] using this
theorem idxTo_map (p : En → Bool) (es : List En) (j : Nat) (hj : j ≤ es.length) : (idxTo p es j).map (fun i => es.getD i (⟨#[]⟩, 0)) = (es.take j).filter p := by
  induction j with
  | zero => simp [idxTo]
  | succ j ih =>
    rw [idxTo_succ p es j (by omega), List.map_append, ih (by omega), List.take_succ_eq_append_getElem (by omega : j < es.length), List.filter_append]
    congr 1
    by_cases h : p es[j] = true
    · simp [h, show j < es.length by omega]
    · simp [h]
theorem idxTo_lt (p : En → Bool) (es : List En) (j : Nat) : ∀ i ∈ idxTo p es j, i < j := fun i hi => by
  have := (List.mem_filter.1 hi).1
  simpa using this
def natV (l : List Nat) : List Value := ints (l.map (fun i : Nat => (i : Int)))
theorem natV_length (l : List Nat) : (natV l).length = l.length := by simp [natV, ints]

structure IdI (w : World) (tc : Array Value) (l : List Nat) (ao : Option Addr) (n cap : Nat) (W : World) : Prop where
  below : Below w.heap.size w W
  tb : W.heap[w.heap.size]? = some (.cells tc 28)
  own : OwnV W w.heap.size 3 (.slice ao n cap) (natV l)
theorem IdI.keep {w : World} {tc : Array Value} {l : List Nat} {ao : Option Addr} {n cap : Nat} {W W' : World} (h : IdI w tc l ao n cap W) (hb : Below W.heap.size W W') : IdI w tc l ao n cap W' := ⟨h.below.trans (hb.mono h.below.size), (hb.block _ (lt_of_heap h.tb)).trans h.tb, h.own.below hb⟩

set_option maxRecDepth 100000 in
set_option maxHeartbeats 1600000 in
theorem refFrom_calls (d : Dv) (es : List En) (ps : List ByteArray) (lo : ByteArray) (w : World) (hd : DocAt w d es ps) (hlo : lo.size ≤ 140737488351296) (hl : es.length ≤ 5864062014650) :
    Calls Try.prog 10 #[.agg (d.cells es.length ps.length), .string lo] w fun e w' => ∃ x : Sv, e = .returned (.slice x.ao (idxTo (notLt (kyb lo)) es es.length).length x.cap) ∧ x.vs = natV (idxTo (notLt (kyb lo)) es es.length) ∧ x.At w' ∧ Below w.heap.size w w' := by
  obtain ⟨w2, HW2⟩ : ∃ w2, Hid (w2 = (w.alloc (.cells (d.cells es.length ps.length) 28)).alloc (.cells #[] 3)) := ⟨_, rfl⟩
  have hs2 : w2.heap.size = w.heap.size + 2 := by rw [HW2.out]; simp [World.size_alloc]
  have e1 : (w.alloc (.cells (d.cells es.length ps.length) 28)).heap.size = w.heap.size + 1 := by simp [World.size_alloc]
  have q0 : w2.heap[w.heap.size]? = some (.cells (d.cells es.length ps.length) 28) := by
    rw [HW2.out, Below.heap_alloc _ _ _ (by omega)]; exact heap_alloc_new _ _
  have HI0 : Hid (IdI w (d.cells es.length ps.length) (idxTo (notLt (kyb lo)) es 0) (some ⟨w.heap.size + 1, 0, none⟩) 0 0 w2) := by
    have hM := OwnV.made (w.alloc (.cells (d.cells es.length ps.length) 28)) 3 [] (by decide)
    rw [e1] at hM
    refine ⟨by rw [HW2.out]; exact ((Below.refl _ w).alloc (Nat.le_refl _) _).alloc (by omega) _, q0, ?_⟩
    rw [HW2.out]; exact OwnV.mono (B' := w.heap.size) hM (by omega)
  have k0 : (((w.alloc (.cells (d.cells es.length ps.length) 28)).alloc (.cells #[] 3))).cell? ⟨w.heap.size, 0, none⟩ = some (.slice d.k.ao es.length d.k.cap) := by rw [← HW2.out, cell_of_blk q0]; rfl
  have HX : Hid (∀ i (hi : i < es.length), ∃ b off, d.k.ao = some ⟨b, off, none⟩ ∧ w.cell? ⟨b, off + i, none⟩ = some (.string es[i].1)) := fun i hi => by
    obtain ⟨b, off, h1, h2⟩ := hd.k.str hd.kk i (by rw [keysOf_len]; exact hi)
    exact ⟨b, off, h1, by rw [h2]; simp [keysOf]⟩
  have HZ : Hid (∀ i (hi : i < es.length), es[i].1.size ≤ 140737488351296) := fun i hi => hd.ksz _ (List.mem_map.2 ⟨_, List.getElem_mem hi, rfl⟩)
  clear hd q0
  obtain ⟨tc, htc⟩ : ∃ tc, tc = d.cells es.length ps.length := ⟨_, rfl⟩
  have HTC : Hid (tc = d.cells es.length ps.length) := htc
  rw [← htc] at HI0 HW2 k0 e1
  have htc' : tc = #[.slice d.k.ao es.length d.k.cap, .slice d.v.ao es.length d.v.cap, .slice d.l.ao es.length d.l.cap, .slice d.p.ao ps.length d.p.cap, .slice d.m.ao ps.length d.m.cap] := htc
  rw [htc'] at HW2 k0
  unfold Dv.cells
  clear htc htc' e1
  go_enter Try.func10, Try.ntmps10
  go_wp2_with fail
  rw [← HW2.out]
  clear HW2 k0
  obtain ⟨⟨ka, kc, kv⟩, dv, dl, dp, dm⟩ := d
  dsimp only at HX ⊢
  go_loopw [5, 12] (fun o i wr => ∃ (j : Nat) (ao : Option Addr) (n cap : Nat), j ≤ es.length ∧ i = .int .i64 j ∧ o = .slice ao n cap ∧ Hid (IdI w tc (idxTo (notLt (kyb lo)) es j) ao n cap wr)) (fun _ i _ => es.length - (intOf i).toNat)
  case atStart => exact ⟨0, _, _, _, Nat.zero_le _, rfl, rfl, HI0⟩
  case round =>
    obtain ⟨j, ao, n, cap, hj, rfl, rfl, HI⟩ := hrel
    clear HI0
    by_cases hlt : j < es.length
    · obtain ⟨b, off, rfl, hc⟩ := HX.out j hlt
      have hcw : wr.cell? ⟨b, off + j, none⟩ = some (.string es[j].1) := by rw [HI.out.below.cell (World.block_lt_of_cell? w _ hc)]; exact hc
      have HL := less_calls es[j].1 lo wr (HZ.out j hlt) hlo
      rw [less_lt] at HL
      have HSN : Hid (idxTo (notLt (kyb lo)) es (j + 1) = idxTo (notLt (kyb lo)) es j ++ (if notLt (kyb lo) es[j] then [j] else [])) := idxTo_succ _ es j hlt
      have hil := idxTo_len (notLt (kyb lo)) es j
      clear hc
      go_wp2_with fail
      refine HL.mono ?_
      clear HL
      rintro e w3 ⟨rfl, q, hw3⟩
      have HI3 : Hid (IdI w tc (idxTo (notLt (kyb lo)) es j) ao n cap w3) := HI.out.keep (by rw [hw3]; exact drewN_below wr q)
      have hbs := HI3.out.below.size
      clear hw3 hcw HI
      by_cases hL : Lt es[j].1.data.toList lo.data.toList
      · rw [decide_eq_true hL]
        have HI4 : Hid (IdI w tc (idxTo (notLt (kyb lo)) es (j + 1)) ao n cap w3) := by
          show IdI _ _ _ _ _ _ _
          rw [HSN.out, show notLt (kyb lo) es[j] = false by unfold notLt; rw [decide_eq_true (show Lt (kyl es[j]) (kyb lo) from hL)]; rfl]
          simpa using HI3.out
        clear HI3
        go_wp2
        go_roundw
        case rel => exact ⟨j + 1, ao, n, cap, by omega, by go_num, rfl, HI4⟩
        case measure => simp [intOf]; omega
      · rw [decide_eq_false hL]
        go_wp2_with (at_builtin; refine append_val w3 rfl (.tmp 21) (.tmp 23) 26 3 (.int .i64 0) 8 Try.underlying26 infoI rfl rfl w.heap.size _ _ rfl (.int .i64 (j : Int)) rfl _ rfl (by first | rfl | simp) HI3.out.own (by rw [natV_length]; omega) (by rw [natV_length]; omega) hbs ?_)
        intro v4 w4 ho4 hg4
        obtain ⟨ao4, cap4, hv4⟩ := ho4.shape
        obtain ⟨n4, hn4⟩ : ∃ n4, n4 = (natV (idxTo (notLt (kyb lo)) es j) ++ [Value.int .i64 (j : Int)]).length := ⟨_, rfl⟩
        rw [← hn4] at hv4
        subst hv4
        clear hn4
        have HI4 : Hid (IdI w tc (idxTo (notLt (kyb lo)) es (j + 1)) ao4 n4 cap4 w4) := by
          refine ⟨HI3.out.below.trans (hg4.toBelow hbs (fun k hk => (HI3.out.own.lt k hk).1)), grew_blk HI3.out.own hg4 HI3.out.tb (by decide), ?_⟩
          rw [HSN.out, show notLt (kyb lo) es[j] = true by unfold notLt; rw [decide_eq_false (show ¬ Lt (kyl es[j]) (kyb lo) from hL)]; rfl]
          have : natV (idxTo (notLt (kyb lo)) es j ++ (if true = true then [j] else [])) = natV (idxTo (notLt (kyb lo)) es j) ++ [Value.int .i64 (j : Int)] := by simp [natV, ints]
          rw [this]; exact ho4
        clear ho4 hg4 HI3
        go_wp2
        go_roundw
        case rel => exact ⟨j + 1, ao4, n4, cap4, by omega, by go_num, rfl, HI4⟩
        case measure => simp [intOf]; omega
    · have hjl : j = es.length := by omega
      subst hjl
      go_wp2
      go_ret
      obtain ⟨x, h1, h2, h3⟩ := HI.out.own.sv
      refine ⟨x, ?_, h2, h3, HI.out.below⟩
      rw [h2, natV_length] at h1
      rw [h1]; rfl
end Go.Proofs.Ytnmndjplbcpglaa
