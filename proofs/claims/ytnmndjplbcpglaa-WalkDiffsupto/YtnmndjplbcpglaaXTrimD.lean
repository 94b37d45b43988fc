/- Layer 4 (walk): the document's Trim. -/
import Derived.Test.YtnmndjplbcpglaaXDelD
import Derived.Test.YtnmndjplbcpglaaXIdxU
import Derived.Test.YtnmndjplbcpglaaXTrimM
import Derived.Test.YtnmndjplbcpglaaRgJ
namespace Go.Proofs.Ytnmndjplbcpglaa
open Go.RowKit
set_option linter.unusedVariables false

/-- The keys at the first j places. -/
def kyAt (es : List En) (is : List Nat) (j : Nat) : List ByteArray := (is.take j).map fun i => (es.getD i (⟨#[]⟩, 0)).1
theorem kyAt_succ (es : List En) (is : List Nat) (j : Nat) (h : j < is.length) : kyAt es is (j + 1) = kyAt es is j ++ [(es.getD is[j] (⟨#[]⟩, 0)).1] := by
  unfold kyAt
  rw [List.take_succ_eq_append_getElem h, List.map_append]; rfl
theorem idxTo_nodup (p : En → Bool) (es : List En) (j : Nat) : (idxTo p es j).Nodup := List.Pairwise.filter _ List.nodup_range
theorem key_fresh {es : List En} (hs : SortedE es) {is : List Nat} (hn : is.Nodup) (hin : ∀ i ∈ is, i < es.length) {j : Nat} (hj : j < is.length) : (es.getD is[j] (⟨#[]⟩, 0)).1 ∈ keysOf (rmE es (kyAt es is j)) := by
  have hjl := hin _ (List.getElem_mem hj)
  have he : es.getD is[j] (⟨#[]⟩, 0) = es[is[j]] := by simp [hjl]
  rw [he]
  refine List.mem_map.2 ⟨es[is[j]], (mem_rmE hs _).2 ⟨List.getElem_mem _, fun hm => ?_⟩, rfl⟩
  obtain ⟨i, hi, e⟩ := List.mem_map.1 hm
  obtain ⟨q, hq, rfl⟩ := List.getElem_of_mem hi
  rw [List.length_take] at hq
  rw [List.getElem_take] at e
  have hql := hin _ (List.getElem_mem (show q < is.length by omega))
  have e2 : (es[is[q]]).1 = (es[is[j]]).1 := by simpa [hql] using e
  have hne : is[q] ≠ is[j] := List.pairwise_iff_getElem.1 hn q j (by omega) hj (by omega)
  have hk := List.pairwise_iff_getElem.1 hs
  rcases Nat.lt_or_ge is[q] is[j] with h | h
  · have := hk _ _ hql hjl h
    rw [EnLt, kyl, kyl, e2] at this
    exact lt_irr _ this
  · have := hk _ _ hjl hql (by omega)
    rw [EnLt, kyl, kyl, e2] at this
    exact lt_irr _ this
theorem kyAt_all (es : List En) (p : En → Bool) : kyAt es (idxTo p es es.length) (idxTo p es es.length).length = (es.filter p).map (·.1) := by
  unfold kyAt
  rw [List.take_length]
  have := congrArg (List.map (·.1)) (idxTo_map p es es.length (Nat.le_refl _))
  rw [List.map_map, List.take_length] at this
  exact this

/-- What the document's Delete answers. -/
def TupD (es2 : List En) (ps2 : List ByteArray) (v : Value) (W : World) : Prop := ∃ (d2 : Dv) (z2 : Int) (x1 x2 : Value), v = .tuple #[.agg #[.slice d2.k.ao es2.length d2.k.cap, .slice d2.v.ao es2.length d2.v.cap, .slice d2.l.ao es2.length d2.l.cap, .slice d2.p.ao ps2.length d2.p.cap, .slice d2.m.ao ps2.length d2.m.cap], x1, x2, .int .i64 z2] ∧ DocAt W d2 es2 ps2

/-- What the operations of Trim's region leave. -/
def TmR (es1 es2 : List En) (ps' ps2 : List ByteArray) (d d' : Dv) (n kb koff at_ g : Nat) (ky : ByteArray) (zz : Int) (i : Nat) (v : Value) (W : World) : Prop := match i with
  | 0 => v = .agg #[.slice d'.k.ao es1.length d'.k.cap, .slice d'.v.ao es1.length d'.v.cap, .slice d'.l.ao es1.length d'.l.cap, .slice d'.p.ao ps'.length d'.p.cap, .slice d'.m.ao ps'.length d'.m.cap]
  | 1 => v = .pointer (some ⟨g, 0, none⟩)
  | 2 => v = .slice (some ⟨kb, koff, none⟩) n d.k.cap
  | 3 => v = .int .i64 (at_ : Int)
  | 4 => v = .pointer (some ⟨kb, koff + at_, none⟩)
  | 5 => v = .string ky
  | 6 => v = .int .i64 zz
  | 7 => TupD es2 ps2 v W
  | 8 => TupD es2 ps2 v W
  | 9 => ∃ d2 : Dv, v = .agg #[.slice d2.k.ao es2.length d2.k.cap, .slice d2.v.ao es2.length d2.v.cap, .slice d2.l.ao es2.length d2.l.cap, .slice d2.p.ao ps2.length d2.p.cap, .slice d2.m.ao ps2.length d2.m.cap] ∧ DocAt W d2 es2 ps2
  | 12 => ∃ z : Int, v = .int .i64 z
  | _ => True
theorem TmR.mono {es1 es2 : List En} {ps' ps2 : List ByteArray} {d d' : Dv} {n kb koff at_ g : Nat} {ky : ByteArray} {zz : Int} {i : Nat} {v : Value} {W W' : World} (hd : ∀ d2, DocAt W d2 es2 ps2 → DocAt W' d2 es2 ps2) (h : TmR es1 es2 ps' ps2 d d' n kb koff at_ g ky zz i v W) : TmR es1 es2 ps' ps2 d d' n kb koff at_ g ky zz i v W' := by
  unfold TmR at *
  match i, h with
  | 0, h => exact h
  | 1, h => exact h
  | 2, h => exact h
  | 3, h => exact h
  | 4, h => exact h
  | 5, h => exact h
  | 6, h => exact h
  | 7, ⟨d2, z2, x1, x2, h1, h2⟩ => exact ⟨d2, z2, x1, x2, h1, hd _ h2⟩
  | 8, ⟨d2, z2, x1, x2, h1, h2⟩ => exact ⟨d2, z2, x1, x2, h1, hd _ h2⟩
  | 9, ⟨d2, h1, h2⟩ => exact ⟨d2, h1, hd _ h2⟩
  | 10, h => exact trivial
  | 11, h => exact trivial
  | 12, h => exact h
  | k + 13, h => exact trivial

structure TmI (w w2 : World) (d' : Dv) (es' : List En) (ps' : List ByteArray) (W : World) : Prop where
  size : w2.heap.size ≤ W.heap.size
  base : Below w.heap.size w W
  kept : ∀ b, b < w2.heap.size → b ≠ w.heap.size + 2 → W.heap[b]? = w2.heap[b]?
  ub : W.heap[w.heap.size + 2]? = some (.cells (d'.cells es'.length ps'.length) 28)
  doc : DocAt W d' es' ps'

set_option maxRecDepth 100000 in
set_option maxHeartbeats 8000000 in
theorem refTrim_calls (d : Dv) (es : List En) (ps : List ByteArray) (p : ByteArray) (next : Int) (w : World) (hd : DocAt w d es ps) (hp : p.size ≤ 140737488351296) (hl : es.length ≤ 5864062014640) :
    Calls Try.prog 14 #[.agg (d.cells es.length ps.length), .string p, .int .i64 next] w fun e w' => ∃ (d' : Dv) (ps' : List ByteArray) (z : Int), e = .returned (.tuple #[.agg (d'.cells (leftE p es).length ps'.length), .int .i64 ((es.filter (beg p)).length : Int), .int .i64 z]) ∧ DocAt w' d' (leftE p es) ps' ∧ Below w.heap.size w w' := by
  obtain ⟨w1, HW1⟩ : ∃ w1, Hid (w1 = ((w.alloc (.cells (d.cells es.length ps.length) 28)).alloc (.cells #[.slice none 0 0, .slice none 0 0, .slice none 0 0, .slice none 0 0, .slice none 0 0] 28)).alloc (.cells (d.cells es.length ps.length) 28)) := ⟨_, rfl⟩
  have s0 : (w.alloc (.cells (d.cells es.length ps.length) 28)).heap.size = w.heap.size + 1 := by simp [World.size_alloc]
  have s1 : ((w.alloc (.cells (d.cells es.length ps.length) 28)).alloc (.cells #[.slice none 0 0, .slice none 0 0, .slice none 0 0, .slice none 0 0, .slice none 0 0] 28)).heap.size = w.heap.size + 2 := by simp [World.size_alloc]
  have hb1 : Below w.heap.size w w1 := by rw [HW1.out]; exact (((Below.refl _ w).alloc (Nat.le_refl _) _).alloc (by omega) _).alloc (by omega) _
  have hs1 : w1.heap.size = w.heap.size + 3 := by rw [HW1.out]; simp [World.size_alloc]
  have q0 : w1.heap[w.heap.size]? = some (.cells (d.cells es.length ps.length) 28) := by rw [HW1.out, Below.heap_alloc _ _ _ (by omega), Below.heap_alloc _ _ _ (by omega)]; exact heap_alloc_new _ _
  have q1 : w1.heap[w.heap.size + 1]? = some (.cells #[.slice none 0 0, .slice none 0 0, .slice none 0 0, .slice none 0 0, .slice none 0 0] 28) := by rw [HW1.out, Below.heap_alloc _ _ _ (by omega)]; exact new_at s0 _
  have q2 : w1.heap[w.heap.size + 2]? = some (.cells (d.cells es.length ps.length) 28) := by rw [HW1.out]; exact new_at s1 _
  obtain ⟨is, his⟩ : ∃ is, is = idxTo (beg p) es es.length := ⟨_, rfl⟩
  have HRU := refUnder_calls d es ps p w1 (hd.keep hb1) hp (by omega)
  rw [← his] at HRU
  have hil : is.length ≤ es.length := by rw [his]; exact idxTo_len _ _ _
  have HFL : Hid (is.length = (es.filter (beg p)).length) := by
    show _ = _
    have := congrArg List.length (idxTo_map (beg p) es es.length (Nat.le_refl _))
    rw [List.take_length, List.length_map, ← his] at this
    exact this
  have HIS : Hid (is.Nodup ∧ (∀ i ∈ is, i < es.length) ∧ kyAt es is is.length = (es.filter (beg p)).map (·.1)) := ⟨by rw [his]; exact idxTo_nodup _ _ _, by rw [his]; exact idxTo_lt _ _ _, by rw [his]; exact kyAt_all _ _⟩
  have HD : Hid (DocAt w d es ps) := hd
  have HQ : Hid (Below w.heap.size w w1 ∧ w1.heap[w.heap.size]? = some (.cells (d.cells es.length ps.length) 28) ∧ w1.heap[w.heap.size + 1]? = some (.cells #[.slice none 0 0, .slice none 0 0, .slice none 0 0, .slice none 0 0, .slice none 0 0] 28) ∧ w1.heap[w.heap.size + 2]? = some (.cells (d.cells es.length ps.length) 28)) := ⟨hb1, q0, q1, q2⟩
  clear hd his hb1 q0 q1 q2
  unfold Dv.cells
  unfold Dv.cells at HW1 HRU
  go_enter Try.func14, Try.ntmps14
  go_wp2_with fail
  rw [← HW1.out]
  clear HW1 s0 s1
  refine HRU.mono ?_
  clear HRU
  rintro e w2 ⟨x, rfl, hxv, hxA, hb2⟩
  obtain ⟨xa, xc, xv⟩ := x
  dsimp only at hxv hxA ⊢
  have hz2 := hb2.size
  have hb02 : Below w.heap.size w w2 := HQ.out.1.trans (hb2.mono HQ.out.1.size)
  have HX : Hid (∀ j (hj : j < is.length), ∃ pb poff, xa = some ⟨pb, poff, none⟩ ∧ pb ≠ w.heap.size + 2 ∧ w2.cell? ⟨pb, poff + j, none⟩ = some (.int .i64 ((is[j] : Nat) : Int))) := fun j hj => by
    obtain ⟨pb, poff, h1, h2⟩ := hxA.cells j (by rw [hxv, natV_length]; exact hj)
    refine ⟨pb, poff, h1, fun e => ?_, by rw [h2]; simp [hxv, natV, ints]⟩
    subst e
    have hu2 := (hb2.block _ (lt_of_heap HQ.out.2.2.2)).trans HQ.out.2.2.2
    rw [cell_of_blk hu2] at h2
    generalize poff + j = q at h2
    simp only [Dv.cells] at h2
    rcases q with _ | _ | _ | _ | _ | q <;> simp [hxv, natV, ints] at h2
  have HB2 : Hid (w2.heap[w.heap.size]? = some (.cells (d.cells es.length ps.length) 28) ∧ w2.heap[w.heap.size + 1]? = some (.cells #[.slice none 0 0, .slice none 0 0, .slice none 0 0, .slice none 0 0, .slice none 0 0] 28)) := ⟨(hb2.block _ (lt_of_heap HQ.out.2.1)).trans HQ.out.2.1, (hb2.block _ (lt_of_heap HQ.out.2.2.1)).trans HQ.out.2.2.1⟩
  have HI2 : Hid (TmI w w2 d (rmE es (kyAt es is 0)) ps w2) := ⟨Nat.le_refl _, hb02, fun _ _ _ => rfl, (hb2.block _ (lt_of_heap HQ.out.2.2.2)).trans HQ.out.2.2.2, HD.out.keep hb02⟩
  clear hxv hxA hb2 HQ
  go_wp2_with fail
  go_loopw [2, 19] (fun z i wr => ∃ (j : Nat) (zz : Int) (d' : Dv) (ps' : List ByteArray), j ≤ is.length ∧ i = .int .i64 j ∧ z = .int .i64 zz ∧ Hid (TmI w w2 d' (rmE es (kyAt es is j)) ps' wr)) (fun _ i _ => is.length - (intOf i).toNat)
  case atStart => exact ⟨0, next, d, ps, Nat.zero_le _, rfl, rfl, HI2⟩
  case round =>
    obtain ⟨j, zz, d', ps', hj, rfl, rfl, HI⟩ := hrel
    clear HI2
    have hel := rmE_len (es := es) (kyAt es is j)
    by_cases hlt : j < is.length
    · obtain ⟨pb, poff, rfl, hpb, hpc⟩ := HX.out j hlt
      have hin := key_fresh HD.out.sorted HIS.out.1 HIS.out.2.1 hlt
      have hisl := HIS.out.2.1 _ (List.getElem_mem hlt)
      obtain ⟨kb, koff, hka, hkc⟩ := HD.out.k.str HD.out.kk is[j] (by rw [keysOf_len]; exact hisl)
      obtain ⟨ky, hky⟩ : ∃ ky, ky = (es.getD is[j] (⟨#[]⟩, 0)).1 := ⟨_, rfl⟩
      have hke : (keysOf es)[is[j]]'(by rw [keysOf_len]; exact hisl) = ky := by rw [hky]; simp [keysOf, hisl]
      rw [hke] at hkc
      rw [← hky] at hin
      have hkz : ky.size ≤ 140737488351296 := HD.out.ksz _ (by rw [← hke]; exact List.getElem_mem _)
      have HKS : Hid (kyAt es is (j + 1) = kyAt es is j ++ [ky]) := by show _ = _; rw [kyAt_succ es is j hlt, hky]
      obtain ⟨at_, hat⟩ : ∃ a, a = is[j] := ⟨_, rfl⟩
      rw [← hat] at hpc hkc hisl
      have c1 : wr.cell? ⟨pb, poff + j, none⟩ = some (.int .i64 (at_ : Int)) := (World.cell?_of_block (w := w2) (HI.out.kept pb (World.block_lt_of_cell? w2 _ hpc) hpb)).trans hpc
      have c2 : wr.cell? ⟨kb, koff + at_, none⟩ = some (.string ky) := (HI.out.base.cell (World.block_lt_of_cell? w _ hkc)).trans hkc
      have tb := (HI.out.kept _ (lt_of_heap HB2.out.1) (by omega)).trans HB2.out.1
      have c3 : wr.cell? ⟨w.heap.size, 0, none⟩ = some (.slice (some ⟨kb, koff, none⟩) es.length d.k.cap) := by rw [cell_of_blk tb, ← hka]; rfl
      obtain ⟨es1, hes1⟩ : ∃ e, e = rmE es (kyAt es is j) := ⟨_, rfl⟩
      rw [← hes1] at HI hin hel
      have HE1 : Hid (es1 = rmE es (kyAt es is j)) := hes1
      have f0 : wr.cell? ⟨w.heap.size + 2, 0, none⟩ = some (.slice d'.k.ao es1.length d'.k.cap) := by rw [cell_of_blk HI.out.ub]; rfl
      have f1 : wr.cell? ⟨w.heap.size + 2, 1, none⟩ = some (.slice d'.v.ao es1.length d'.v.cap) := by rw [cell_of_blk HI.out.ub]; rfl
      have f2 : wr.cell? ⟨w.heap.size + 2, 2, none⟩ = some (.slice d'.l.ao es1.length d'.l.cap) := by rw [cell_of_blk HI.out.ub]; rfl
      have f3 : wr.cell? ⟨w.heap.size + 2, 3, none⟩ = some (.slice d'.p.ao ps'.length d'.p.cap) := by rw [cell_of_blk HI.out.ub]; rfl
      have f4 : wr.cell? ⟨w.heap.size + 2, 4, none⟩ = some (.slice d'.m.ao ps'.length d'.m.cap) := by rw [cell_of_blk HI.out.ub]; rfl
      have HDL : Hid (∀ W, Below wr.heap.size wr W → Calls Try.prog 38 #[.agg (d'.cells es1.length ps'.length), .string ky, .int .i64 zz] W _) := fun W h => deleteD_calls d' es1 ps' ky zz W (HI.out.doc.keep h) hkz (by omega) hin
      obtain ⟨es2, hes2⟩ : ∃ e, e = delE es1 ky := ⟨_, rfl⟩
      rw [← hes2] at HDL
      obtain ⟨ps2, hps2⟩ : ∃ p, p = pathsN (keysOf es2) es2.length := ⟨_, rfl⟩
      rw [← hps2] at HDL
      have HES : Hid (es2 = rmE es (kyAt es is (j + 1))) := by show _ = _; rw [hes2, HKS.out, rmE_snoc, hes1]
      have i1 : (0 : Int) ≤ (j : Int) ∧ (j : Int) < (is.length : Int) := by omega
      have i2 : (0 : Int) ≤ (at_ : Int) ∧ (at_ : Int) < (es.length : Int) := by omega
      unfold Dv.cells at HDL
      have hwl := lt_of_heap HI.out.ub
      clear hpc hkc hka hke hky hat hes1 hes2 hps2 tb hin hkz
      go_wp2_with fail
      have HUB : Hid (∀ W, Below wr.heap.size wr W → W.heap[w.heap.size + 2]? = some (.cells #[.slice d'.k.ao es1.length d'.k.cap, .slice d'.v.ao es1.length d'.v.cap, .slice d'.l.ao es1.length d'.l.cap, .slice d'.p.ao ps'.length d'.p.cap, .slice d'.m.ao ps'.length d'.m.cap] 28)) := fun W h => (h.block _ hwl).trans HI.out.ub
      have L2 : Hid (∀ W, Below wr.heap.size wr W → W.cell? ⟨w.heap.size, 0, none⟩ = some (.slice (some ⟨kb, koff, none⟩) es.length d.k.cap)) := fun W h => (h.cell (World.block_lt_of_cell? wr _ c3)).trans c3
      have L5 : Hid (∀ W, Below wr.heap.size wr W → W.cell? ⟨kb, koff + at_, none⟩ = some (.string ky)) := fun W h => (h.cell (World.block_lt_of_cell? wr _ c2)).trans c2
      clear c2 c3 f0 f1 f2 f3 f4
      have HPUT : Hid (∀ w7, Below wr.heap.size wr w7 → ∀ d2, DocAt w7 d2 es2 ps2 → TmI w w2 d2 es2 ps2 (put5 w7 (w.heap.size + 2) (.slice d2.k.ao es2.length d2.k.cap) (.slice d2.v.ao es2.length d2.v.cap) (.slice d2.l.ao es2.length d2.l.cap) (.slice d2.p.ao ps2.length d2.p.cap) (.slice d2.m.ao ps2.length d2.m.cap))) := by
        intro w7 hb7' d2 hd7
        have u7 := (hb7'.block _ hwl).trans HI.out.ub
        have HIZ : Hid (TmI w w2 d2 es2 ps2 (put5 w7 (w.heap.size + 2) (.slice d2.k.ao es2.length d2.k.cap) (.slice d2.v.ao es2.length d2.v.cap) (.slice d2.l.ao es2.length d2.l.cap) (.slice d2.p.ao ps2.length d2.p.cap) (.slice d2.m.ao ps2.length d2.m.cap))) := by
          have hsz : (put5 w7 (w.heap.size + 2) (.slice d2.k.ao es2.length d2.k.cap) (.slice d2.v.ao es2.length d2.v.cap) (.slice d2.l.ao es2.length d2.l.cap) (.slice d2.p.ao ps2.length d2.p.cap) (.slice d2.m.ao ps2.length d2.m.cap)).heap.size = w7.heap.size := by simp only [put5, size_setCell']
          have h07 : Below w.heap.size w w7 := HI.out.base.trans (hb7'.mono HI.out.base.size)
          refine ⟨by rw [hsz]; exact Nat.le_trans HI.out.size hb7'.size, ?_, fun b hb hne => ?_, put5_blk u7 rfl _ _ _ _ _, put5_doc u7 rfl _ _ _ _ _ hd7⟩
          · unfold put5
            exact ((((h07.setCell (p := ⟨w.heap.size + 2, 0, none⟩) (by show w.heap.size ≤ w.heap.size + 2; omega) _).setCell (p := ⟨w.heap.size + 2, 1, none⟩) (by show w.heap.size ≤ w.heap.size + 2; omega) _).setCell (p := ⟨w.heap.size + 2, 2, none⟩) (by show w.heap.size ≤ w.heap.size + 2; omega) _).setCell (p := ⟨w.heap.size + 2, 3, none⟩) (by show w.heap.size ≤ w.heap.size + 2; omega) _).setCell (p := ⟨w.heap.size + 2, 4, none⟩) (by show w.heap.size ≤ w.heap.size + 2; omega) _
          · rw [put5_other u7 rfl _ _ _ _ _ hne, hb7'.block b (by have := HI.out.size; omega)]
            exact HI.out.kept b hb hne
        exact HIZ.out
      refine wp_region_J 14 (fun ls W => (ls 13 = false ∧ Below wr.heap.size wr W) ∨ (ls 13 = true ∧ ∃ d2, TmI w w2 d2 es2 ps2 W)) (TmR es1 es2 ps' ps2 d d' es.length kb koff at_ w.heap.size ky zz) (by kernel_rfl) (by kernel_rfl) (by kernel_rfl) [some 24, some 25, some 26, some 27, some 28, some 29, some 30, some 31, some 23, some 32, some 33, some 34, some 35, none] (by kernel_rfl) ?hJ0 ?hop ?tail
      case hJ0 => exact fun W hB => .inl ⟨rfl, hB⟩
      case hop =>
        intro i o hi ho a W ls hJ hli hs hd hdl hcl
        have pre : ls 13 = false → Below wr.heap.size wr W := fun h => by
          rcases hJ with ⟨_, h'⟩ | ⟨h', _⟩
          · exact h'
          · rw [h] at h'; cases h'
        have stay : ∀ i, i ≠ 13 → ((updB ls i 13 = false ∧ Below wr.heap.size wr W) ∨ (updB ls i 13 = true ∧ ∃ d2, TmI w w2 d2 es2 ps2 W)) := fun i hne => by simpa [updB, Ne.symm hne] using hJ
        match i, hi, ho, hli, hd, hdl, hcl with
        | 0, _, ho, hli, hd, hdl, hcl =>
          obtain rfl := Option.some.inj ho
          exact ⟨.inl rfl, f_loadTree rfl ((hs 9 (notDst (by kernel_rfl))).trans rfl) (HUB.out W (pre (hcl 13 _ rfl (by kernel_rfl)))) ⟨_, rfl, rfl, stay 0 (by decide), fun _ _ _ _ h => h⟩⟩
        | 1, _, ho, hli, hd, hdl, hcl =>
          obtain rfl := Option.some.inj ho
          exact ⟨.inl rfl, f_fldTree rfl ((hs 3 (notDst (by kernel_rfl))).trans rfl) ⟨_, rfl, rfl, stay 1 (by decide), fun _ _ _ _ h => h⟩⟩
        | 2, _, ho, hli, hd, hdl, hcl =>
          obtain rfl := Option.some.inj ho
          exact ⟨.inl rfl, f_loadLS rfl (hd 1 25 (by kernel_rfl) (by kernel_rfl)) (L2.out W (pre (hcl 13 _ rfl (by kernel_rfl)))) ⟨_, rfl, rfl, stay 2 (by decide), fun _ _ _ _ h => h⟩⟩
        | 3, _, ho, hli, hd, hdl, hcl =>
          obtain rfl := Option.some.inj ho
          exact ⟨.inl rfl, f_move rfl ((hs 12 (notDst (by kernel_rfl))).trans rfl) ⟨_, rfl, rfl, stay 3 (by decide), fun _ _ _ _ h => h⟩⟩
        | 4, _, ho, hli, hd, hdl, hcl =>
          obtain rfl := Option.some.inj ho
          exact ⟨.inl rfl, f_idxStr rfl (hd 2 26 (by kernel_rfl) (by kernel_rfl)) (hd 3 27 (by kernel_rfl) (by kernel_rfl)) hisl ⟨_, rfl, rfl, stay 4 (by decide), fun _ _ _ _ h => h⟩⟩
        | 5, _, ho, hli, hd, hdl, hcl =>
          obtain rfl := Option.some.inj ho
          exact ⟨.inl rfl, f_loadS rfl (hd 4 28 (by kernel_rfl) (by kernel_rfl)) (L5.out W (pre (hcl 13 _ rfl (by kernel_rfl)))) ⟨_, rfl, rfl, stay 5 (by decide), fun _ _ _ _ h => h⟩⟩
        | 6, _, ho, hli, hd, hdl, hcl =>
          obtain rfl := Option.some.inj ho
          exact ⟨.inl rfl, f_move rfl ((hs 2 (notDst (by kernel_rfl))).trans rfl) ⟨_, rfl, rfl, stay 6 (by decide), fun _ _ _ _ h => h⟩⟩
        | 7, _, ho, hli, hd, hdl, hcl =>
          obtain rfl := Option.some.inj ho
          have hB := pre (hcl 13 _ rfl (by kernel_rfl))
          refine ⟨.inl rfl, wp_callF (f := 38) (vals := #[.agg #[.slice d'.k.ao es1.length d'.k.cap, .slice d'.v.ao es1.length d'.v.cap, .slice d'.l.ao es1.length d'.l.cap, .slice d'.p.ao ps'.length d'.p.cap, .slice d'.m.ao ps'.length d'.m.cap], .string ky, .int .i64 zz]) rfl (map3 (hd 0 24 (by kernel_rfl) (by kernel_rfl)) (hd 5 29 (by kernel_rfl) (by kernel_rfl)) (hd 6 30 (by kernel_rfl) (by kernel_rfl))) (by go_simp) ?_⟩
          refine (HDL.out W hB).mono ?_
          rintro e w7 ⟨d2, z2, rfl, hd7, hb7⟩
          exact ⟨_, rfl, _, rfl, ⟨d2, z2, _, _, rfl, hd7⟩, .inl ⟨by simpa [updB] using (hcl 13 _ rfl (by kernel_rfl)), hB.trans (hb7.mono hB.size)⟩, fun j u _ _ h => TmR.mono (fun d2 h2 => h2.keep hb7) h⟩
        | 8, _, ho, hli, hd, hdl, hcl =>
          obtain rfl := Option.some.inj ho
          exact ⟨.inl rfl, f_move rfl rfl ⟨_, rfl, (hd 7 31 (by kernel_rfl) (by kernel_rfl)), stay 8 (by decide), fun _ _ _ _ h => h⟩⟩
        | 9, _, ho, hli, hd, hdl, hcl =>
          obtain rfl := Option.some.inj ho
          obtain ⟨d2, z2, x1, x2, h1, h2⟩ := (hd 8 23 (by kernel_rfl) (by kernel_rfl))
          exact ⟨.inl rfl, f_ext rfl h1 rfl ⟨_, rfl, ⟨d2, rfl, h2⟩, stay 9 (by decide), fun _ _ _ _ h => h⟩⟩
        | 10, _, ho, hli, hd, hdl, hcl =>
          obtain rfl := Option.some.inj ho
          obtain ⟨d2, z2, x1, x2, h1, h2⟩ := (hd 8 23 (by kernel_rfl) (by kernel_rfl))
          exact ⟨.inl rfl, f_ext rfl h1 rfl ⟨_, rfl, trivial, stay 10 (by decide), fun _ _ _ _ h => h⟩⟩
        | 11, _, ho, hli, hd, hdl, hcl =>
          obtain rfl := Option.some.inj ho
          obtain ⟨d2, z2, x1, x2, h1, h2⟩ := (hd 8 23 (by kernel_rfl) (by kernel_rfl))
          exact ⟨.inl rfl, f_ext rfl h1 rfl ⟨_, rfl, trivial, stay 11 (by decide), fun _ _ _ _ h => h⟩⟩
        | 12, _, ho, hli, hd, hdl, hcl =>
          obtain rfl := Option.some.inj ho
          obtain ⟨d2, z2, x1, x2, h1, h2⟩ := (hd 8 23 (by kernel_rfl) (by kernel_rfl))
          exact ⟨.inl rfl, f_ext rfl h1 rfl ⟨_, rfl, ⟨z2, rfl⟩, stay 12 (by decide), fun _ _ _ _ h => h⟩⟩
        | 13, _, ho, hli, hd, hdl, hcl =>
          obtain rfl := Option.some.inj ho
          obtain ⟨d2, h1, h2⟩ := (hd 9 32 (by kernel_rfl) (by kernel_rfl))
          have hB := pre hli
          refine ⟨.inl rfl, f_storeTree rfl ((hs 9 (notDst (by kernel_rfl))).trans rfl) h1 (HUB.out W hB) ⟨_, rfl, trivial, .inr ⟨by simp [updB], d2, HPUT.out W hB d2 h2⟩, fun j u _ _ h => ?_⟩⟩
          exact TmR.mono (fun d2 h2 => put5_doc (HUB.out W hB) rfl _ _ _ _ _ h2) h
        | k + 14, hi, _, _, _, _, _ => exact absurd hi (by omega)
      case tail =>
        intro vs w7 ls hls hJ hR
        obtain ⟨z2, r12⟩ := hR 12 (by decide)
        obtain ⟨d2, HIZ⟩ : ∃ d2, Hid (TmI w w2 d2 es2 ps2 w7) := by
          rcases hJ with ⟨h', _⟩ | ⟨_, d2, h'⟩
          · rw [hls 13 (by decide)] at h'; cases h'
          · exact ⟨d2, h'⟩
        clear hJ hR HUB L2 L5 HDL HPUT
        simp only [putL, put_lit, put_none, List.setIfInBounds_toArray, List.set_cons_succ, List.set_cons_zero, List.drop_succ_cons, List.drop_zero]
        rw [r12]
        clear r12
        go_wp2_with fail
        go_roundw
        case rel => exact ⟨j + 1, z2, d2, ps2, by omega, by go_num, rfl, by rw [← HES.out]; exact HIZ⟩
        case measure => simp [intOf]; omega
    · have hjl : j = is.length := by omega
      subst hjl
      rw [HIS.out.2.2, rmE_all HD.out.sorted] at HI
      have ub := HI.out.ub
      have rb := (HI.out.kept _ (lt_of_heap HB2.out.2) (by omega)).trans HB2.out.2
      have f0 : wr.cell? ⟨w.heap.size + 2, 0, none⟩ = some (.slice d'.k.ao (leftE p es).length d'.k.cap) := by rw [cell_of_blk ub]; rfl
      have f1 : wr.cell? ⟨w.heap.size + 2, 1, none⟩ = some (.slice d'.v.ao (leftE p es).length d'.v.cap) := by rw [cell_of_blk ub]; rfl
      have f2 : wr.cell? ⟨w.heap.size + 2, 2, none⟩ = some (.slice d'.l.ao (leftE p es).length d'.l.cap) := by rw [cell_of_blk ub]; rfl
      have f3 : wr.cell? ⟨w.heap.size + 2, 3, none⟩ = some (.slice d'.p.ao ps'.length d'.p.cap) := by rw [cell_of_blk ub]; rfl
      have f4 : wr.cell? ⟨w.heap.size + 2, 4, none⟩ = some (.slice d'.m.ao ps'.length d'.m.cap) := by rw [cell_of_blk ub]; rfl
      have k0 : wr.cell? ⟨w.heap.size + 1, 0, none⟩ = some (.slice none 0 0) := by rw [cell_of_blk rb]; rfl
      have k1 : wr.cell? ⟨w.heap.size + 1, 1, none⟩ = some (.slice none 0 0) := by rw [cell_of_blk rb]; rfl
      have k2 : wr.cell? ⟨w.heap.size + 1, 2, none⟩ = some (.slice none 0 0) := by rw [cell_of_blk rb]; rfl
      have k3 : wr.cell? ⟨w.heap.size + 1, 3, none⟩ = some (.slice none 0 0) := by rw [cell_of_blk rb]; rfl
      have k4 : wr.cell? ⟨w.heap.size + 1, 4, none⟩ = some (.slice none 0 0) := by rw [cell_of_blk rb]; rfl
      have g0 : wr.frozen? ⟨w.heap.size + 1, 0, none⟩ = false := frozen_of_blk rb
      have g1 : wr.frozen? ⟨w.heap.size + 1, 1, none⟩ = false := frozen_of_blk rb
      have g2 : wr.frozen? ⟨w.heap.size + 1, 2, none⟩ = false := frozen_of_blk rb
      have g3 : wr.frozen? ⟨w.heap.size + 1, 3, none⟩ = false := frozen_of_blk rb
      have g4 : wr.frozen? ⟨w.heap.size + 1, 4, none⟩ = false := frozen_of_blk rb
      obtain ⟨wz, HWZ⟩ : ∃ wz, Hid (wz = ((((wr.setCell ⟨w.heap.size + 1, 0, none⟩ (.slice d'.k.ao (leftE p es).length d'.k.cap)).setCell ⟨w.heap.size + 1, 1, none⟩ (.slice d'.v.ao (leftE p es).length d'.v.cap)).setCell ⟨w.heap.size + 1, 2, none⟩ (.slice d'.l.ao (leftE p es).length d'.l.cap)).setCell ⟨w.heap.size + 1, 3, none⟩ (.slice d'.p.ao ps'.length d'.p.cap)).setCell ⟨w.heap.size + 1, 4, none⟩ (.slice d'.m.ao ps'.length d'.m.cap)) := ⟨_, rfl⟩
      have hz : wz.heap[w.heap.size + 1]? = some (.cells #[.slice d'.k.ao (leftE p es).length d'.k.cap, .slice d'.v.ao (leftE p es).length d'.v.cap, .slice d'.l.ao (leftE p es).length d'.l.cap, .slice d'.p.ao ps'.length d'.p.cap, .slice d'.m.ao ps'.length d'.m.cap] 28) := by
        rw [HWZ.out]; exact put5_blk rb rfl _ _ _ _ _
      have y0 : wz.cell? ⟨w.heap.size + 1, 0, none⟩ = some (.slice d'.k.ao (leftE p es).length d'.k.cap) := by rw [cell_of_blk hz]; rfl
      have y1 : wz.cell? ⟨w.heap.size + 1, 1, none⟩ = some (.slice d'.v.ao (leftE p es).length d'.v.cap) := by rw [cell_of_blk hz]; rfl
      have y2 : wz.cell? ⟨w.heap.size + 1, 2, none⟩ = some (.slice d'.l.ao (leftE p es).length d'.l.cap) := by rw [cell_of_blk hz]; rfl
      have y3 : wz.cell? ⟨w.heap.size + 1, 3, none⟩ = some (.slice d'.p.ao ps'.length d'.p.cap) := by rw [cell_of_blk hz]; rfl
      have y4 : wz.cell? ⟨w.heap.size + 1, 4, none⟩ = some (.slice d'.m.ao ps'.length d'.m.cap) := by rw [cell_of_blk hz]; rfl
      have HFIN : Hid (DocAt wz d' (leftE p es) ps' ∧ Below w.heap.size w wz) := by
        rw [HWZ.out]
        refine ⟨put5_doc rb rfl _ _ _ _ _ HI.out.doc, ?_⟩
        exact ((((HI.out.base.setCell (p := ⟨w.heap.size + 1, 0, none⟩) (by show w.heap.size ≤ w.heap.size + 1; omega) _).setCell (p := ⟨w.heap.size + 1, 1, none⟩) (by show w.heap.size ≤ w.heap.size + 1; omega) _).setCell (p := ⟨w.heap.size + 1, 2, none⟩) (by show w.heap.size ≤ w.heap.size + 1; omega) _).setCell (p := ⟨w.heap.size + 1, 3, none⟩) (by show w.heap.size ≤ w.heap.size + 1; omega) _).setCell (p := ⟨w.heap.size + 1, 4, none⟩) (by show w.heap.size ≤ w.heap.size + 1; omega) _
      clear ub rb hz HI
      go_wp2_with fail
      rw [← HWZ.out]
      refine bodyPost_ret (v := .tuple #[.agg #[.slice d'.k.ao (leftE p es).length d'.k.cap, .slice d'.v.ao (leftE p es).length d'.v.cap, .slice d'.l.ao (leftE p es).length d'.l.cap, .slice d'.p.ao ps'.length d'.p.cap, .slice d'.m.ao ps'.length d'.m.cap], .int .i64 (is.length : Int), .int .i64 zz]) (by simp [results, Try.results14, go_sem, y0, y1, y2, y3, y4]) rfl ?_
      refine ⟨d', ps', zz, ?_, HFIN.out.1, HFIN.out.2⟩
      rw [HFL.out]; try rfl
end Go.Proofs.Ytnmndjplbcpglaa
