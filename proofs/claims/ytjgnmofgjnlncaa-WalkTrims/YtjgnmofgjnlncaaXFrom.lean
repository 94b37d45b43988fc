import Derived.Test.YtjgnmofgjnlncaaXBuilt4
import Derived.Test.YtjgnmofgjnlncaaXIdx
import Derived.Test.YtjgnmofgjnlncaaXRise
import Derived.Deep.RegionWith
/- Layer 4 (walk): these. -/
namespace Go.Proofs.Ytjgnmofgjnlncaa
open Go.RowKit
set_option linter.unusedVariables false

structure ThI (w : World) (tc : Array Value) (W : World) : Prop where
  below : Below w.heap.size w W
  tb : W.heap[w.heap.size]? = some (.cells tc 28)

set_option maxRecDepth 100000 in
set_option maxHeartbeats 4000000 in
theorem these_calls (gao : Option Addr) (gcap : Nat) (got : List En) (d : Dv) (es : List En) (ps : List ByteArray) (x : Sv) (is : List Nat) (w : World) (hg : EntsAt w gao got) (hd : DocAt w d es ps) (hx : x.At w) (hv : x.vs = natV is) (hl : got.length = is.length) (hin : ∀ i ∈ is, i < es.length) (hgot : got = is.map (fun i => es.getD i (⟨#[]⟩, 0))) (hn : es.length ≤ 5864062014650) (hm : is.length ≤ 5864062014650) :
    Calls Try.prog 10 #[.slice gao got.length gcap, .agg (d.cells es.length ps.length), .slice x.ao is.length x.cap] w fun e w' => e = .returned (.bool true) ∧ Below w.heap.size w w' := by
  obtain ⟨w1, HW1⟩ : ∃ w1, Hid (w1 = w.alloc (.cells (d.cells es.length ps.length) 28)) := ⟨_, rfl⟩
  have HI1 : Hid (ThI w (d.cells es.length ps.length) w1) := ⟨by rw [HW1.out]; exact (Below.refl _ _).alloc (Nat.le_refl _) _, by rw [HW1.out]; exact heap_alloc_new _ _⟩
  have HALL : Hid (∀ j (hj : j < is.length), ∃ (gb goff pb poff kb koff vb voff at_ : Nat) (k : ByteArray) (v : Int), gao = some ⟨gb, goff, none⟩ ∧ w.cell? ⟨gb, goff + j * 2, none⟩ = some (.string k) ∧ w.cell? ⟨gb, goff + j * 2 + 1, none⟩ = some (.int .i64 v) ∧
      x.ao = some ⟨pb, poff, none⟩ ∧ w.cell? ⟨pb, poff + j, none⟩ = some (.int .i64 (at_ : Int)) ∧ at_ < es.length ∧ d.k.ao = some ⟨kb, koff, none⟩ ∧ w.cell? ⟨kb, koff + at_, none⟩ = some (.string k) ∧ d.v.ao = some ⟨vb, voff, none⟩ ∧ w.cell? ⟨vb, voff + at_, none⟩ = some (.int .i64 v)) := fun j hj => by
    obtain ⟨gb, goff, a1, a2, a3, -⟩ := hg j (by omega)
    obtain ⟨pb, poff, b1, b2⟩ := hx.cells j (by rw [hv, natV_length]; exact hj)
    have hat := hin _ (List.getElem_mem hj)
    have hgj : got[j]'(by omega) = es[is[j]] := by simp [hgot, hat]
    obtain ⟨kb, koff, c1, c2⟩ := hd.k.str hd.kk is[j] (by rw [keysOf_len]; exact hat)
    obtain ⟨vb, voff, d1, d2⟩ := hd.v.int hd.vv is[j] (by simp [valsOf]; exact hat)
    refine ⟨gb, goff, pb, poff, kb, koff, vb, voff, is[j], es[is[j]].1, es[is[j]].2, a1, by rw [a2, hgj], by rw [a3, hgj], b1, ?_, hat, c1, by rw [c2]; simp [keysOf], d1, by rw [d2]; simp [valsOf]⟩
    rw [b2]; simp [hv, natV, ints]
  have hlen : got.length = is.length := hl
  rw [hlen]
  clear hg hd hx hv hl hin hgot
  obtain ⟨⟨ka, kc, kv⟩, ⟨va, vc, vv⟩, dl, dp, dm⟩ := d
  obtain ⟨xa, xc, xv⟩ := x
  dsimp only at HALL ⊢
  unfold Dv.cells
  unfold Dv.cells at HW1
  go_enter Try.func10, Try.ntmps10
  go_wp2_with fail
  rw [← HW1.out]
  clear HW1
  go_loopw [16] (fun i wr => ∃ j : Nat, j ≤ is.length ∧ i = .int .i64 j ∧ Hid (ThI w (Dv.cells ⟨⟨ka, kc, kv⟩, ⟨va, vc, vv⟩, dl, dp, dm⟩ es.length ps.length) wr)) (fun i _ => is.length - (intOf i).toNat)
  case atStart => exact ⟨0, Nat.zero_le _, rfl, HI1⟩
  case round =>
    obtain ⟨j, hj, rfl, HI⟩ := hrel
    clear HI1
    by_cases hlt : j < is.length
    · obtain ⟨gb, goff, pb, poff, kb, koff, vb, voff, at_, k, v, rfl, a2, a3, rfl, b2, hat, rfl, c2, rfl, d2⟩ := HALL.out j hlt
      have hbl := HI.out.below
      have a2' : wr.cell? ⟨gb, goff + j * 2, none⟩ = some (.string k) := by rw [hbl.cell (World.block_lt_of_cell? w _ a2)]; exact a2
      have a3' : wr.cell? ⟨gb, goff + j * 2 + 1, none⟩ = some (.int .i64 v) := by rw [hbl.cell (World.block_lt_of_cell? w _ a3)]; exact a3
      obtain ⟨w5, HW5⟩ : ∃ w5, Hid (w5 = wr.alloc (.cells #[.string k, .int .i64 v] 35)) := ⟨_, rfl⟩
      have hb5 : Below wr.heap.size wr w5 := by rw [HW5.out]; exact (Below.refl _ _).alloc (Nat.le_refl _) _
      have q5 : w5.heap[wr.heap.size]? = some (.cells #[.string k, .int .i64 v] 35) := by rw [HW5.out]; exact heap_alloc_new _ _
      have hb05 : Below w.heap.size w w5 := hbl.trans (hb5.mono hbl.size)
      have t5 : w5.heap[w.heap.size]? = some (.cells (Dv.cells ⟨⟨some ⟨kb, koff, none⟩, kc, kv⟩, ⟨some ⟨vb, voff, none⟩, vc, vv⟩, dl, dp, dm⟩ es.length ps.length) 28) := (hb5.block _ (lt_of_heap HI.out.tb)).trans HI.out.tb
      have e0 : w5.cell? ⟨wr.heap.size, 0, none⟩ = some (.string k) := by rw [cell_of_blk q5]; rfl
      have e1 : w5.cell? ⟨wr.heap.size, 1, none⟩ = some (.int .i64 v) := by rw [cell_of_blk q5]; rfl
      have m0 : w5.cell? ⟨w.heap.size, 0, none⟩ = some (.slice (some ⟨kb, koff, none⟩) es.length kc) := by rw [cell_of_blk t5]; rfl
      have m1 : w5.cell? ⟨w.heap.size, 1, none⟩ = some (.slice (some ⟨vb, voff, none⟩) es.length vc) := by rw [cell_of_blk t5]; rfl
      have b2' : w5.cell? ⟨pb, poff + j, none⟩ = some (.int .i64 (at_ : Int)) := by rw [hb05.cell (World.block_lt_of_cell? w _ b2)]; exact b2
      have c2' : w5.cell? ⟨kb, koff + at_, none⟩ = some (.string k) := by rw [hb05.cell (World.block_lt_of_cell? w _ c2)]; exact c2
      have d2' : w5.cell? ⟨vb, voff + at_, none⟩ = some (.int .i64 v) := by rw [hb05.cell (World.block_lt_of_cell? w _ d2)]; exact d2
      have i1 : (0 : Int) ≤ (j : Int) ∧ (j : Int) < (is.length : Int) := by omega
      have i2 : (0 : Int) ≤ (at_ : Int) ∧ (at_ : Int) < (es.length : Int) := by omega
      have HI5 : Hid (ThI w (Dv.cells ⟨⟨some ⟨kb, koff, none⟩, kc, kv⟩, ⟨some ⟨vb, voff, none⟩, vc, vv⟩, dl, dp, dm⟩ es.length ps.length) w5) := ⟨hb05, t5⟩
      clear a2 a3 b2 c2 d2 hbl hb5 q5 t5 hb05 HI
      go_wp2_with fail
      rw [← HW5.out]
      clear HW5
      go_quiet (fail)
      have HI6 : Hid (ThI w (Dv.cells ⟨⟨some ⟨kb, koff, none⟩, kc, kv⟩, ⟨some ⟨vb, voff, none⟩, vc, vv⟩, dl, dp, dm⟩ es.length ps.length) (w5.drewN nq)) := ⟨below_drewN HI5.out.below nq, HI5.out.tb⟩
      clear HI5 a2' a3' e0 e1 m0 m1 b2' c2' d2'
      go_wp2_with fail
      go_roundw
      case rel => exact ⟨j + 1, by omega, by go_num, HI6⟩
      case measure => simp [intOf]; omega
    · have hjl : j = is.length := by omega
      subst hjl
      go_wp2_with fail
      go_ret
      exact ⟨rfl, HI.out.below⟩
end Go.Proofs.Ytjgnmofgjnlncaa

/- Layer 4 (walk): From, All. -/
namespace Go.Proofs.Ytjgnmofgjnlncaa
open Go.RowKit Go.Shelf
set_option linter.unusedVariables false

theorem ownFrom_abs {β : Type} {B : Nat} {J : β → World → Prop} (h : OwnFrom B J) : Abs J := fun s A C hs hb => h s A C none hs ⟨hb.os, hb.tape, hb.output, hb.size, fun k hk _ => hb.block k hk⟩ (fun r e => by cases e)

/-- A tree that lay in w₀, and what is said of it. -/
structure Tin (w₀ : World) (tb : Nat) (T : Tr) (ne : Int) (d : Nat) : Prop where
  tree : TreeAt w₀ tb T ne
  wf : WF T
  dep : Dep (d + 1) T
  root : T.p = kE
theorem Held.tin {w W : World} {tb : Nat} {T : Tr} {ne : Int} {d : Nat} {es : List En} (h : Held w W tb T ne d es) : Tin W tb T ne d := ⟨h.good.tree, h.good.wf, h.good.dep, h.good.root⟩

set_option maxRecDepth 100000 in
set_option maxHeartbeats 4000000 in
theorem from1_calls (w₀ : World) (tb : Nat) (T : Tr) (ne : Int) (d : Nat) (hT : Tin w₀ tb T ne d) (lo : ByteArray) (hlo : lo.size ≤ 140737488355328) (l N B0 : Nat) (X : Nat → Prop) (es : List En) (J Jx : List (El es) → World → Prop) (hJ : Abs J) (hY : YOk l w₀.heap.size N X es J Jx) (hX : ∀ b, X b → b < B0)
    (Bt Bl : Nat) (W : World) (hb : Below w₀.heap.size w₀ W) (hB : B0 ≤ W.heap.size) (ht : W.cell? ⟨Bt, 0, none⟩ = some (.pointer (some ⟨tb, 0, none⟩))) (hl : W.cell? ⟨Bl, 0, none⟩ = some (.string lo)) (hj : J [] W) (hes : ∀ e ∈ fil (d + 1) T lo, e ∈ es) (hlen : (fil (d + 1) T lo).length ≤ N) :
    Calls Try.prog 48 #[.func (.yield l) #[] #[], .pointer (some ⟨Bt, 0, none⟩), .pointer (some ⟨Bl, 0, none⟩)] W fun e W' => (∃ v, e = .returned v) ∧
      ((∃ ys : List (El es), ys.map (·.1) = fil (d + 1) T lo ∧ J ys W') ∨ (∃ ys : List (El es), ys.map (·.1) <+: fil (d + 1) T lo ∧ Jx ys W')) := by
  have HR := root_calls tb T ne W.drew ((hT.tree.keep hb).keep ⟨rfl, rfl, rfl, Nat.le_refl _, fun _ _ => rfl⟩)
  have HRI := fun (W2 : World) (h2 : Below W.heap.size W W2) => rise_calls w₀ l N B0 X es J Jx hJ hY hX (d + 1) T lo [] W2 hT.dep hT.wf hT.tree.tat (hb.trans (h2.mono hb.size)) (Nat.le_trans hB h2.size) (hJ _ _ _ hj h2) hes (by simpa using hlen) hlo
  unfold nodeV at HR HRI
  have hbt := World.block_lt_of_cell? W _ ht
  have hbl := World.block_lt_of_cell? W _ hl
  clear hj hes hlen hY hJ
  go_enter Try.func48, Try.ntmps48
  go_wp2_with fail
  go_region_with
    (first
      | (go_at_call 27
         refine HR.mono ?_
         rintro e w2 ⟨rfl, hb2⟩
         have hb2' : Below W.heap.size W w2 := ⟨hb2.os, hb2.tape, hb2.output, hb2.size, hb2.block⟩
         have hl2 : w2.cell? ⟨Bl, 0, none⟩ = some (.string lo) := by rw [hb2'.cell hbl]; exact hl
         have HB2 : Hid (Below W.heap.size W w2) := hb2'
         clear hb2 hb2' HR)
      | (go_at_call 49
         refine (HRI w2 HB2.out).mono ?_
         clear HRI
         intro e w3 h3
         obtain ⟨bb, rfl, HRES⟩ : ∃ bb : Bool, e = .returned (.bool bb) ∧ Hid ((∃ ys : List (El es), ys.map (·.1) = fil (d + 1) T lo ∧ J ys w3) ∨ (∃ ys : List (El es), ys.map (·.1) <+: fil (d + 1) T lo ∧ Jx ys w3)) := by
           rcases h3 with ⟨rfl, ys, hy1, hy2, -⟩ | ⟨rfl, ys, hy1, hy2⟩
           · exact ⟨true, rfl, .inl ⟨ys, hy1, by simpa using hy2⟩⟩
           · exact ⟨false, rfl, .inr ⟨ys, hy1, by simpa using hy2⟩⟩
         clear h3))
  all_goals go_wp2_with fail
  all_goals go_end0
  all_goals exact ⟨⟨_, rfl⟩, HRES.out⟩

theorem from_seq (w₀ : World) (tb : Nat) (T : Tr) (ne : Int) (d : Nat) (hT : Tin w₀ tb T ne d) (lo : ByteArray) (hlo : lo.size ≤ 140737488355328) (X : Nat → Prop) (Bt Bl : Nat) (w : World) (hb : Below w₀.heap.size w₀ w) (hX : ∀ b, X b → b < w.heap.size)
    (ht : w.cell? ⟨Bt, 0, none⟩ = some (.pointer (some ⟨tb, 0, none⟩))) (hl : w.cell? ⟨Bl, 0, none⟩ = some (.string lo)) :
    SeqY (Kp w₀.heap.size X) 48 #[.pointer (some ⟨Bt, 0, none⟩), .pointer (some ⟨Bl, 0, none⟩)] (encE (fil (d + 1) T lo)) (fun ys => ys.map (·.1) = fil (d + 1) T lo) (fun ys => ys.map (·.1) <+: fil (d + 1) T lo) (fil (d + 1) T lo).length w := fun l J Jx W hW hlt hJ hJx hY h0 =>
  from1_calls w₀ tb T ne d hT lo hlo l _ w.heap.size X _ J Jx (ownFrom_abs hJ) hY hX Bt Bl W (hb.trans (hW.mono hb.size)) hW.size (by rw [hW.cell (World.block_lt_of_cell? w _ ht)]; exact ht) (by rw [hW.cell (World.block_lt_of_cell? w _ hl)]; exact hl) h0 (fun _ h => h) (Nat.le_refl _)

theorem from_calls (ao : Option Addr) (lo : ByteArray) (w : World) :
    Calls Try.prog 24 #[.pointer ao, .string lo] w fun e w' => e = .returned (.func (.func 48) #[] #[.pointer (some ⟨w.heap.size, 0, none⟩), .pointer (some ⟨w.heap.size + 1, 0, none⟩)]) ∧ w' = (w.alloc (.cells #[.pointer ao] 24)).alloc (.cells #[.string lo] 9) := by
  have hmf : ∀ (fn : Fn) (first cap : Array Value) (w : World), (Instr.makeFunc fn first cap).run Try.prog w = .ok (.func fn first cap) w := fun _ _ _ _ => rfl
  go_enter Try.func24, Try.ntmps24
  go_wp2
  go_ret
  exact ⟨rfl, rfl⟩
theorem all_calls (ao : Option Addr) (w : World) :
    Calls Try.prog 8 #[.pointer ao] w fun e w' => e = .returned (.func (.func 48) #[] #[.pointer (some ⟨w.heap.size, 0, none⟩), .pointer (some ⟨w.heap.size + 1, 0, none⟩)]) ∧ w' = (w.alloc (.cells #[.pointer ao] 24)).alloc (.cells #[.string ⟨#[]⟩] 9) := by
  have HF := from_calls ao ⟨#[]⟩ w
  go_enter Try.func8, Try.ntmps8
  go_wp2_with fail
  refine HF.mono ?_
  clear HF
  rintro e w1 ⟨rfl, rfl⟩
  go_wp2
  go_ret
  exact ⟨rfl, rfl⟩

/-- The two boxes that From lays. -/
theorem from_boxes {w w1 : World} {ao : Option Addr} {lo : ByteArray} (h : w1 = (w.alloc (.cells #[.pointer ao] 24)).alloc (.cells #[.string lo] 9)) :
    Below w.heap.size w w1 ∧ w1.heap.size = w.heap.size + 2 ∧ w1.cell? ⟨w.heap.size, 0, none⟩ = some (.pointer ao) ∧ w1.cell? ⟨w.heap.size + 1, 0, none⟩ = some (.string lo) := by
  subst h
  have e1 : ((w.alloc (.cells #[.pointer ao] 24)).alloc (.cells #[.string lo] 9)).heap[w.heap.size]? = some (.cells #[.pointer ao] 24) := by
    rw [Below.heap_alloc _ _ _ (by simp)]; exact heap_alloc_new _ _
  have e2 : ((w.alloc (.cells #[.pointer ao] 24)).alloc (.cells #[.string lo] 9)).heap[w.heap.size + 1]? = some (.cells #[.string lo] 9) := by
    have := heap_alloc_new (w.alloc (.cells #[.pointer ao] 24)) (.cells #[.string lo] 9)
    rwa [World.size_alloc] at this
  exact ⟨((Below.refl _ w).alloc (Nat.le_refl _) _).alloc (by simp) _, by simp [World.size_alloc], by rw [cell_of_blk e1]; rfl, by rw [cell_of_blk e2]; rfl⟩
end Go.Proofs.Ytjgnmofgjnlncaa
