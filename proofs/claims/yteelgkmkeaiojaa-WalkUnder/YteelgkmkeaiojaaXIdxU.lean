/- The document's Under over sorted lists. -/
import Derived.Test.YteelgkmkeaiojaaXIdx
import Derived.Test.YteelgkmkeaiojaaXUnder
namespace Go.Proofs.Yteelgkmkeaiojaa
open Go.RowKit
set_option linter.unusedVariables false

theorem starts_beg (s p : List UInt8) : startsB s p = begB s p := by
  unfold startsB
  by_cases h : p.length ≤ s.length
  · rw [decide_eq_true h, Bool.true_and, begB_take s p h]
  · rw [decide_eq_false h, Bool.false_and, begB_long s p h]

set_option maxRecDepth 100000 in
set_option maxHeartbeats 1600000 in
theorem refUnder_calls (d : Dv) (es : List En) (ps : List ByteArray) (lo : ByteArray) (w : World) (hd : DocAt w d es ps) (hlo : lo.size ≤ 140737488351232) (hl : es.length ≤ 5864062014650) :
    Calls Try.prog 16 #[.agg (d.cells es.length ps.length), .string lo] w fun e w' => ∃ x : Sv, e = .returned (.slice x.ao (idxTo (beg lo) es es.length).length x.cap) ∧ x.vs = natV (idxTo (beg lo) es es.length) ∧ x.At w' ∧ Below w.heap.size w w' := by
  obtain ⟨w2, HW2⟩ : ∃ w2, Hid (w2 = (w.alloc (.cells (d.cells es.length ps.length) 28)).alloc (.cells #[] 3)) := ⟨_, rfl⟩
  have hs2 : w2.heap.size = w.heap.size + 2 := by rw [HW2.out]; simp [World.size_alloc]
  have e1 : (w.alloc (.cells (d.cells es.length ps.length) 28)).heap.size = w.heap.size + 1 := by simp [World.size_alloc]
  have q0 : w2.heap[w.heap.size]? = some (.cells (d.cells es.length ps.length) 28) := by
    rw [HW2.out, Below.heap_alloc _ _ _ (by omega)]; exact heap_alloc_new _ _
  have HI0 : Hid (IdI w (d.cells es.length ps.length) (idxTo (beg lo) es 0) (some ⟨w.heap.size + 1, 0, none⟩) 0 0 w2) := by
    have hM := OwnV.made (w.alloc (.cells (d.cells es.length ps.length) 28)) 3 [] (by decide)
    rw [e1] at hM
    refine ⟨by rw [HW2.out]; exact ((Below.refl _ w).alloc (Nat.le_refl _) _).alloc (by omega) _, q0, ?_⟩
    rw [HW2.out]; exact OwnV.mono (B' := w.heap.size) hM (by omega)
  have k0 : (((w.alloc (.cells (d.cells es.length ps.length) 28)).alloc (.cells #[] 3))).cell? ⟨w.heap.size, 0, none⟩ = some (.slice d.k.ao es.length d.k.cap) := by rw [← HW2.out, cell_of_blk q0]; rfl
  have HX : Hid (∀ i (hi : i < es.length), ∃ b off, d.k.ao = some ⟨b, off, none⟩ ∧ w.cell? ⟨b, off + i, none⟩ = some (.string es[i].1)) := fun i hi => by
    obtain ⟨b, off, h1, h2⟩ := hd.k.str hd.kk i (by rw [keysOf_len]; exact hi)
    exact ⟨b, off, h1, by rw [h2]; simp [keysOf]⟩
  have HZ : Hid (∀ i (hi : i < es.length), es[i].1.size ≤ 140737488351232) := fun i hi => hd.ksz _ (List.mem_map.2 ⟨_, List.getElem_mem hi, rfl⟩)
  clear hd q0
  obtain ⟨tc, htc⟩ : ∃ tc, tc = d.cells es.length ps.length := ⟨_, rfl⟩
  have HTC : Hid (tc = d.cells es.length ps.length) := htc
  rw [← htc] at HI0 HW2 k0 e1
  have htc' : tc = #[.slice d.k.ao es.length d.k.cap, .slice d.v.ao es.length d.v.cap, .slice d.l.ao es.length d.l.cap, .slice d.p.ao ps.length d.p.cap, .slice d.m.ao ps.length d.m.cap] := htc
  rw [htc'] at HW2 k0
  unfold Dv.cells
  clear htc htc' e1
  go_enter Try.func16, Try.ntmps16
  go_wp2_with fail
  rw [← HW2.out]
  clear HW2 k0
  obtain ⟨⟨ka, kc, kv⟩, dv, dl, dp, dm⟩ := d
  dsimp only at HX ⊢
  go_loopw [5, 12] (fun o i wr => ∃ (j : Nat) (ao : Option Addr) (n cap : Nat), j ≤ es.length ∧ i = .int .i64 j ∧ o = .slice ao n cap ∧ Hid (IdI w tc (idxTo (beg lo) es j) ao n cap wr)) (fun _ i _ => es.length - (intOf i).toNat)
  case atStart => exact ⟨0, _, _, _, Nat.zero_le _, rfl, rfl, HI0⟩
  case round =>
    obtain ⟨j, ao, n, cap, hj, rfl, rfl, HI⟩ := hrel
    clear HI0
    by_cases hlt : j < es.length
    · obtain ⟨b, off, rfl, hc⟩ := HX.out j hlt
      have hcw : wr.cell? ⟨b, off + j, none⟩ = some (.string es[j].1) := by rw [HI.out.below.cell (World.block_lt_of_cell? w _ hc)]; exact hc
      have hz := HZ.out j hlt
      have HL := starts_calls es[j].1 lo wr (by omega) (by omega)
      rw [starts_beg] at HL
      have HSN : Hid (idxTo (beg lo) es (j + 1) = idxTo (beg lo) es j ++ (if beg lo es[j] then [j] else [])) := idxTo_succ _ es j hlt
      have hil := idxTo_len (beg lo) es j
      clear hc
      go_wp2_with fail
      refine HL.mono ?_
      clear HL
      rintro e w3 ⟨rfl, hw3⟩
      have HI3 : Hid (IdI w tc (idxTo (beg lo) es j) ao n cap w3) := HI.out.keep (by rw [hw3]; exact Below.refl _ _)
      have hbs := HI3.out.below.size
      clear hw3 hcw HI
      by_cases hL : beg lo es[j] = true
      · rw [show begB es[j].1.data.toList lo.data.toList = true from hL]
        go_wp2_with (at_builtin; refine append_val w3 rfl (.tmp 20) (.tmp 22) 26 3 (.int .i64 0) 8 Try.underlying26 infoI rfl rfl w.heap.size _ _ rfl (.int .i64 (j : Int)) rfl _ rfl (by first | rfl | simp) HI3.out.own (by rw [natV_length]; omega) (by rw [natV_length]; omega) hbs ?_)
        intro v4 w4 ho4 hg4
        obtain ⟨ao4, cap4, hv4⟩ := ho4.shape
        obtain ⟨n4, hn4⟩ : ∃ n4, n4 = (natV (idxTo (beg lo) es j) ++ [Value.int .i64 (j : Int)]).length := ⟨_, rfl⟩
        rw [← hn4] at hv4
        subst hv4
        clear hn4
        have HI4 : Hid (IdI w tc (idxTo (beg lo) es (j + 1)) ao4 n4 cap4 w4) := by
          refine ⟨HI3.out.below.trans (hg4.toBelow hbs (fun k hk => (HI3.out.own.lt k hk).1)), grew_blk HI3.out.own hg4 HI3.out.tb (by decide), ?_⟩
          rw [HSN.out, show beg lo es[j] = true from hL]
          have : natV (idxTo (beg lo) es j ++ (if true = true then [j] else [])) = natV (idxTo (beg lo) es j) ++ [Value.int .i64 (j : Int)] := by simp [natV, ints]
          rw [this]; exact ho4
        clear ho4 hg4 HI3
        go_wp2
        go_roundw
        case rel => exact ⟨j + 1, ao4, n4, cap4, by omega, by go_num, rfl, HI4⟩
        case measure => simp [intOf]; omega
      · have hL' : beg lo es[j] = false := Bool.eq_false_iff.2 hL
        rw [show begB es[j].1.data.toList lo.data.toList = false from hL']
        have HI4 : Hid (IdI w tc (idxTo (beg lo) es (j + 1)) ao n cap w3) := by
          show IdI _ _ _ _ _ _ _
          rw [HSN.out, hL']
          simpa using HI3.out
        clear HI3
        go_wp2
        go_roundw
        case rel => exact ⟨j + 1, ao, n, cap, by omega, by go_num, rfl, HI4⟩
        case measure => simp [intOf]; omega
    · have hjl : j = es.length := by omega
      subst hjl
      go_wp2
      go_ret
      obtain ⟨x, h1, h2, h3⟩ := HI.out.own.sv
      refine ⟨x, ?_, h2, h3, HI.out.below⟩
      rw [h2, natV_length] at h1
      rw [h1]; rfl
end Go.Proofs.Yteelgkmkeaiojaa
