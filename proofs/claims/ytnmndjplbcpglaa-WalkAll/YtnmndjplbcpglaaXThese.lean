/- Layer 4 (walk): these. -/
import Derived.Test.YtnmndjplbcpglaaXBuilt4
import Derived.Test.YtnmndjplbcpglaaXIdx
namespace Go.Proofs.Ytnmndjplbcpglaa
open Go.RowKit
set_option linter.unusedVariables false

structure ThI (w : World) (tc : Array Value) (W : World) : Prop where
  below : Below w.heap.size w W
  tb : W.heap[w.heap.size]? = some (.cells tc 28)

set_option maxRecDepth 100000 in
set_option maxHeartbeats 4000000 in
theorem these_calls (gao : Option Addr) (gcap : Nat) (got : List En) (d : Dv) (es : List En) (ps : List ByteArray) (x : Sv) (is : List Nat) (w : World) (hg : EntsAt w gao got) (hd : DocAt w d es ps) (hx : x.At w) (hv : x.vs = natV is) (hl : got.length = is.length) (hin : ∀ i ∈ is, i < es.length) (hgot : got = is.map (fun i => es.getD i (⟨#[]⟩, 0))) (hn : es.length ≤ 5864062014650) (hm : is.length ≤ 5864062014650) :
    Calls Try.prog 9 #[.slice gao got.length gcap, .agg (d.cells es.length ps.length), .slice x.ao is.length x.cap] w fun e w' => e = .returned (.bool true) ∧ Below w.heap.size w w' := by
  obtain ⟨w1, HW1⟩ : ∃ w1, Hid (w1 = w.alloc (.cells (d.cells es.length ps.length) 28)) := ⟨_, rfl⟩
  have HI1 : Hid (ThI w (d.cells es.length ps.length) w1) := ⟨by rw [HW1.out]; exact (Below.refl _ _).alloc (Nat.le_refl _) _, by rw [HW1.out]; exact heap_alloc_new _ _⟩
  have HALL : Hid (∀ j (hj : j < is.length), ∃ (gb goff pb poff kb koff vb voff at_ : Nat) (k : ByteArray) (v : Int), gao = some ⟨gb, goff, none⟩ ∧ w.cell? ⟨gb, goff + j * 2, none⟩ = some (.string k) ∧ w.cell? ⟨gb, goff + j * 2 + 1, none⟩ = some (.int .i64 v) ∧
      x.ao = some ⟨pb, poff, none⟩ ∧ w.cell? ⟨pb, poff + j, none⟩ = some (.int .i64 (at_ : Int)) ∧ at_ < es.length ∧ d.k.ao = some ⟨kb, koff, none⟩ ∧ w.cell? ⟨kb, koff + at_, none⟩ = some (.string k) ∧ d.v.ao = some ⟨vb, voff, none⟩ ∧ w.cell? ⟨vb, voff + at_, none⟩ = some (.int .i64 v)) := fun j hj => by
    obtain ⟨gb, goff, a1, a2, a3, -⟩ := hg j (by omega)
    obtain ⟨pb, poff, b1, b2⟩ := hx.cells j (by rw [hv, natV_length]; exact hj)
    have hat := hin _ (List.getElem_mem hj)
    have hgj : got[j]'(by omega) = es[is[j]] := by simp [hgot, hat]
    obtain ⟨kb, koff, c1, c2⟩ := hd.k.str hd.kk is[j] (by rw [keysOf_len]; exact hat)
    obtain ⟨vb, voff, d1, d2⟩ := hd.v.int hd.vv is[j] (by simp [valsOf]; exact hat)
    refine ⟨gb, goff, pb, poff, kb, koff, vb, voff, is[j], es[is[j]].1, es[is[j]].2, a1, by rw [a2, hgj], by rw [a3, hgj], b1, ?_, hat, c1, by rw [c2]; simp [keysOf], d1, by rw [d2]; simp [valsOf]⟩
    rw [b2]; simp [hv, natV, ints]
  have hlen : got.length = is.length := hl
  rw [hlen]
  clear hg hd hx hv hl hin hgot
  obtain ⟨⟨ka, kc, kv⟩, ⟨va, vc, vv⟩, dl, dp, dm⟩ := d
  obtain ⟨xa, xc, xv⟩ := x
  dsimp only at HALL ⊢
  unfold Dv.cells
  unfold Dv.cells at HW1
  go_enter Try.func9, Try.ntmps9
  go_wp2_with fail
  rw [← HW1.out]
  clear HW1
  go_loopw [16] (fun i wr => ∃ j : Nat, j ≤ is.length ∧ i = .int .i64 j ∧ Hid (ThI w (Dv.cells ⟨⟨ka, kc, kv⟩, ⟨va, vc, vv⟩, dl, dp, dm⟩ es.length ps.length) wr)) (fun i _ => is.length - (intOf i).toNat)
  case atStart => exact ⟨0, Nat.zero_le _, rfl, HI1⟩
  case round =>
    obtain ⟨j, hj, rfl, HI⟩ := hrel
    clear HI1
    by_cases hlt : j < is.length
    · obtain ⟨gb, goff, pb, poff, kb, koff, vb, voff, at_, k, v, rfl, a2, a3, rfl, b2, hat, rfl, c2, rfl, d2⟩ := HALL.out j hlt
      have hbl := HI.out.below
      have a2' : wr.cell? ⟨gb, goff + j * 2, none⟩ = some (.string k) := by rw [hbl.cell (World.block_lt_of_cell? w _ a2)]; exact a2
      have a3' : wr.cell? ⟨gb, goff + j * 2 + 1, none⟩ = some (.int .i64 v) := by rw [hbl.cell (World.block_lt_of_cell? w _ a3)]; exact a3
      obtain ⟨w5, HW5⟩ : ∃ w5, Hid (w5 = wr.alloc (.cells #[.string k, .int .i64 v] 35)) := ⟨_, rfl⟩
      have hb5 : Below wr.heap.size wr w5 := by rw [HW5.out]; exact (Below.refl _ _).alloc (Nat.le_refl _) _
      have q5 : w5.heap[wr.heap.size]? = some (.cells #[.string k, .int .i64 v] 35) := by rw [HW5.out]; exact heap_alloc_new _ _
      have hb05 : Below w.heap.size w w5 := hbl.trans (hb5.mono hbl.size)
      have t5 : w5.heap[w.heap.size]? = some (.cells (Dv.cells ⟨⟨some ⟨kb, koff, none⟩, kc, kv⟩, ⟨some ⟨vb, voff, none⟩, vc, vv⟩, dl, dp, dm⟩ es.length ps.length) 28) := (hb5.block _ (lt_of_heap HI.out.tb)).trans HI.out.tb
      have e0 : w5.cell? ⟨wr.heap.size, 0, none⟩ = some (.string k) := by rw [cell_of_blk q5]; rfl
      have e1 : w5.cell? ⟨wr.heap.size, 1, none⟩ = some (.int .i64 v) := by rw [cell_of_blk q5]; rfl
      have m0 : w5.cell? ⟨w.heap.size, 0, none⟩ = some (.slice (some ⟨kb, koff, none⟩) es.length kc) := by rw [cell_of_blk t5]; rfl
      have m1 : w5.cell? ⟨w.heap.size, 1, none⟩ = some (.slice (some ⟨vb, voff, none⟩) es.length vc) := by rw [cell_of_blk t5]; rfl
      have b2' : w5.cell? ⟨pb, poff + j, none⟩ = some (.int .i64 (at_ : Int)) := by rw [hb05.cell (World.block_lt_of_cell? w _ b2)]; exact b2
      have c2' : w5.cell? ⟨kb, koff + at_, none⟩ = some (.string k) := by rw [hb05.cell (World.block_lt_of_cell? w _ c2)]; exact c2
      have d2' : w5.cell? ⟨vb, voff + at_, none⟩ = some (.int .i64 v) := by rw [hb05.cell (World.block_lt_of_cell? w _ d2)]; exact d2
      have i1 : (0 : Int) ≤ (j : Int) ∧ (j : Int) < (is.length : Int) := by omega
      have i2 : (0 : Int) ≤ (at_ : Int) ∧ (at_ : Int) < (es.length : Int) := by omega
      have HI5 : Hid (ThI w (Dv.cells ⟨⟨some ⟨kb, koff, none⟩, kc, kv⟩, ⟨some ⟨vb, voff, none⟩, vc, vv⟩, dl, dp, dm⟩ es.length ps.length) w5) := ⟨hb05, t5⟩
      clear a2 a3 b2 c2 d2 hbl hb5 q5 t5 hb05 HI
      go_wp2_with fail
      rw [← HW5.out]
      clear HW5
      go_quiet (fail)
      have HI6 : Hid (ThI w (Dv.cells ⟨⟨some ⟨kb, koff, none⟩, kc, kv⟩, ⟨some ⟨vb, voff, none⟩, vc, vv⟩, dl, dp, dm⟩ es.length ps.length) (w5.drewN nq)) := ⟨below_drewN HI5.out.below nq, HI5.out.tb⟩
      clear HI5 a2' a3' e0 e1 m0 m1 b2' c2' d2'
      go_wp2_with fail
      go_roundw
      case rel => exact ⟨j + 1, by omega, by go_num, HI6⟩
      case measure => simp [intOf]; omega
    · have hjl : j = is.length := by omega
      subst hjl
      go_wp2_with fail
      go_ret
      exact ⟨rfl, HI.out.below⟩
end Go.Proofs.Ytnmndjplbcpglaa
