/- The document's Between over sorted lists. -/
import Derived.Test.YteelgkmkeaiojaaXIdx
import Derived.Test.YteelgkmkeaiojaaXBetween
namespace Go.Proofs.Yteelgkmkeaiojaa
open Go.RowKit
set_option linter.unusedVariables false

def bwP (lo hi : ByteArray) (e : En) : Bool := notLt (kyb lo) e && bef hi e

set_option maxRecDepth 100000 in
set_option maxHeartbeats 1600000 in
theorem refBetween_calls (d : Dv) (es : List En) (ps : List ByteArray) (lo hi : ByteArray) (w : World) (hd : DocAt w d es ps) (hlo : lo.size ≤ 140737488351232) (hhi : hi.size ≤ 140737488351232) (hl : es.length ≤ 5864062014650) :
    Calls Try.prog 20 #[.agg (d.cells es.length ps.length), .string lo, .string hi] w fun e w' => ∃ x : Sv, e = .returned (.slice x.ao (idxTo (bwP lo hi) es es.length).length x.cap) ∧ x.vs = natV (idxTo (bwP lo hi) es es.length) ∧ x.At w' ∧ Below w.heap.size w w' := by
  obtain ⟨w2, HW2⟩ : ∃ w2, Hid (w2 = (w.alloc (.cells (d.cells es.length ps.length) 28)).alloc (.cells #[] 3)) := ⟨_, rfl⟩
  have hs2 : w2.heap.size = w.heap.size + 2 := by rw [HW2.out]; simp [World.size_alloc]
  have e1 : (w.alloc (.cells (d.cells es.length ps.length) 28)).heap.size = w.heap.size + 1 := by simp [World.size_alloc]
  have q0 : w2.heap[w.heap.size]? = some (.cells (d.cells es.length ps.length) 28) := by
    rw [HW2.out, Below.heap_alloc _ _ _ (by omega)]; exact heap_alloc_new _ _
  have HI0 : Hid (IdI w (d.cells es.length ps.length) (idxTo (bwP lo hi) es 0) (some ⟨w.heap.size + 1, 0, none⟩) 0 0 w2) := by
    have hM := OwnV.made (w.alloc (.cells (d.cells es.length ps.length) 28)) 3 [] (by decide)
    rw [e1] at hM
    refine ⟨by rw [HW2.out]; exact ((Below.refl _ w).alloc (Nat.le_refl _) _).alloc (by omega) _, q0, ?_⟩
    rw [HW2.out]; exact OwnV.mono (B' := w.heap.size) hM (by omega)
  have k0 : (((w.alloc (.cells (d.cells es.length ps.length) 28)).alloc (.cells #[] 3))).cell? ⟨w.heap.size, 0, none⟩ = some (.slice d.k.ao es.length d.k.cap) := by rw [← HW2.out, cell_of_blk q0]; rfl
  have HX : Hid (∀ i (hi : i < es.length), ∃ b off, d.k.ao = some ⟨b, off, none⟩ ∧ w.cell? ⟨b, off + i, none⟩ = some (.string es[i].1)) := fun i hi => by
    obtain ⟨b, off, h1, h2⟩ := hd.k.str hd.kk i (by rw [keysOf_len]; exact hi)
    exact ⟨b, off, h1, by rw [h2]; simp [keysOf]⟩
  have HZ : Hid (∀ i (hi : i < es.length), es[i].1.size ≤ 140737488351232) := fun i hi => hd.ksz _ (List.mem_map.2 ⟨_, List.getElem_mem hi, rfl⟩)
  clear hd q0
  obtain ⟨tc, htc⟩ : ∃ tc, tc = d.cells es.length ps.length := ⟨_, rfl⟩
  have HTC : Hid (tc = d.cells es.length ps.length) := htc
  rw [← htc] at HI0 HW2 k0 e1
  have htc' : tc = #[.slice d.k.ao es.length d.k.cap, .slice d.v.ao es.length d.v.cap, .slice d.l.ao es.length d.l.cap, .slice d.p.ao ps.length d.p.cap, .slice d.m.ao ps.length d.m.cap] := htc
  rw [htc'] at HW2 k0
  unfold Dv.cells
  clear htc htc' e1
  go_enter Try.func20, Try.ntmps20
  go_wp2_with fail
  rw [← HW2.out]
  clear HW2 k0
  obtain ⟨⟨ka, kc, kv⟩, dv, dl, dp, dm⟩ := d
  dsimp only at HX ⊢
  go_loopw [7, 14] (fun o i wr => ∃ (j : Nat) (ao : Option Addr) (n cap : Nat), j ≤ es.length ∧ i = .int .i64 j ∧ o = .slice ao n cap ∧ Hid (IdI w tc (idxTo (bwP lo hi) es j) ao n cap wr)) (fun _ i _ => es.length - (intOf i).toNat)
  case atStart => exact ⟨0, _, _, _, Nat.zero_le _, rfl, rfl, HI0⟩
  case round =>
    obtain ⟨j, ao, n, cap, hj, rfl, rfl, HI⟩ := hrel
    clear HI0
    by_cases hlt : j < es.length
    · obtain ⟨b, off, rfl, hc⟩ := HX.out j hlt
      have hcw : wr.cell? ⟨b, off + j, none⟩ = some (.string es[j].1) := by rw [HI.out.below.cell (World.block_lt_of_cell? w _ hc)]; exact hc
      have HL := less_calls es[j].1 lo wr (HZ.out j hlt) hlo
      rw [less_lt] at HL
      have HSN : Hid (idxTo (bwP lo hi) es (j + 1) = idxTo (bwP lo hi) es j ++ (if bwP lo hi es[j] then [j] else [])) := idxTo_succ _ es j hlt
      have hil := idxTo_len (bwP lo hi) es j
      clear hc
      go_wp2_with fail
      refine HL.mono ?_
      clear HL
      rintro e w3 ⟨rfl, q, hw3⟩
      have HI3 : Hid (IdI w tc (idxTo (bwP lo hi) es j) ao n cap w3) := HI.out.keep (by rw [hw3]; exact drewN_below wr q)
      have hbs := HI3.out.below.size
      clear hw3 hcw HI
      by_cases hL : Lt es[j].1.data.toList lo.data.toList
      · rw [decide_eq_true hL]
        have HI4 : Hid (IdI w tc (idxTo (bwP lo hi) es (j + 1)) ao n cap w3) := by
          show IdI _ _ _ _ _ _ _
          rw [HSN.out, show bwP lo hi es[j] = false by unfold bwP notLt; rw [decide_eq_true (show Lt (kyl es[j]) (kyb lo) from hL)]; rfl]
          simpa using HI3.out
        clear HI3
        go_wp2
        go_roundw
        case rel => exact ⟨j + 1, ao, n, cap, by omega, by go_num, rfl, HI4⟩
        case measure => simp [intOf]; omega
      · rw [decide_eq_false hL]
        have HL2 := less_calls es[j].1 hi w3 (HZ.out j hlt) hhi
        rw [less_lt] at HL2
        go_wp2_with fail
        refine HL2.mono ?_
        clear HL2
        rintro e w5 ⟨rfl, q5, hw5⟩
        have HI5 : Hid (IdI w tc (idxTo (bwP lo hi) es j) ao n cap w5) := HI3.out.keep (by rw [hw5]; exact drewN_below w3 q5)
        have hbs := HI5.out.below.size
        clear hw5 HI3
        by_cases hM : Lt es[j].1.data.toList hi.data.toList
        · rw [decide_eq_true hM]
          go_wp2_with (at_builtin; refine append_val w5 rfl (.tmp 28) (.tmp 30) 26 3 (.int .i64 0) 8 Try.underlying26 infoI rfl rfl w.heap.size _ _ rfl (.int .i64 (j : Int)) rfl _ rfl (by first | rfl | simp) HI5.out.own (by rw [natV_length]; omega) (by rw [natV_length]; omega) hbs ?_)
          intro v4 w4 ho4 hg4
          obtain ⟨ao4, cap4, hv4⟩ := ho4.shape
          obtain ⟨n4, hn4⟩ : ∃ n4, n4 = (natV (idxTo (bwP lo hi) es j) ++ [Value.int .i64 (j : Int)]).length := ⟨_, rfl⟩
          rw [← hn4] at hv4
          subst hv4
          clear hn4
          have HI4 : Hid (IdI w tc (idxTo (bwP lo hi) es (j + 1)) ao4 n4 cap4 w4) := by
            refine ⟨HI5.out.below.trans (hg4.toBelow hbs (fun k hk => (HI5.out.own.lt k hk).1)), grew_blk HI5.out.own hg4 HI5.out.tb (by decide), ?_⟩
            rw [HSN.out, show bwP lo hi es[j] = true by unfold bwP notLt bef; rw [decide_eq_false (show ¬ Lt (kyl es[j]) (kyb lo) from hL), decide_eq_true (show Lt (kyl es[j]) (kyb hi) from hM)]; rfl]
            have : natV (idxTo (bwP lo hi) es j ++ (if true = true then [j] else [])) = natV (idxTo (bwP lo hi) es j) ++ [Value.int .i64 (j : Int)] := by simp [natV, ints]
            rw [this]; exact ho4
          clear ho4 hg4 HI5
          go_wp2
          go_roundw
          case rel => exact ⟨j + 1, ao4, n4, cap4, by omega, by go_num, rfl, HI4⟩
          case measure => simp [intOf]; omega
        · rw [decide_eq_false hM]
          have HI6 : Hid (IdI w tc (idxTo (bwP lo hi) es (j + 1)) ao n cap w5) := by
            show IdI _ _ _ _ _ _ _
            rw [HSN.out, show bwP lo hi es[j] = false by unfold bwP bef; rw [decide_eq_false (show ¬ Lt (kyl es[j]) (kyb hi) from hM), Bool.and_false]]
            simpa using HI5.out
          clear HI5
          go_wp2
          go_roundw
          case rel => exact ⟨j + 1, ao, n, cap, by omega, by go_num, rfl, HI6⟩
          case measure => simp [intOf]; omega
    · have hjl : j = es.length := by omega
      subst hjl
      go_wp2
      go_ret
      obtain ⟨x, h1, h2, h3⟩ := HI.out.own.sv
      refine ⟨x, ?_, h2, h3, HI.out.below⟩
      rw [h2, natV_length] at h1
      rw [h1]; rfl
end Go.Proofs.Yteelgkmkeaiojaa
