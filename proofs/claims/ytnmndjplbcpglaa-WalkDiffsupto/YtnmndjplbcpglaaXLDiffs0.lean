import Derived.Test.YtnmndjplbcpglaaXDiffM
import Derived.BigQuiet
import Derived.Test.YtnmndjplbcpglaaXTrimD
import Derived.Test.YtnmndjplbcpglaaRGet
import Derived.Test.YtnmndjplbcpglaaXGot
import Derived.Test.YtnmndjplbcpglaaXDiff
import Derived.Test.YtnmndjplbcpglaaXDiffD
import Derived.Test.YtnmndjplbcpglaaRgJ
import Derived.Test.YtnmndjplbcpglaaRgInv
/- Layer 4 (walk): the law's own sameChanges, of like lists. -/
namespace Go.Proofs.Ytnmndjplbcpglaa
open Go.RowKit Go.Shelf
set_option linter.unusedVariables false

/-- Changes as a slice, wherever they lie. -/
def CgAt (W : World) (ao : Option Addr) (l : List En) : Prop := ∀ i (h : i < l.length), ∃ b off, ao = some ⟨b, off, none⟩ ∧ W.cell? ⟨b, off + i * 2, none⟩ = some (.string l[i].1) ∧ W.cell? ⟨b, off + i * 2 + 1, none⟩ = some (.int .i64 l[i].2)
theorem CgAt.below {W W' : World} {ao : Option Addr} {l : List En} (h : CgAt W ao l) (hb : Below W.heap.size W W') : CgAt W' ao l := fun i hi => by
  obtain ⟨b, off, ha, c0, c1⟩ := h i hi
  exact ⟨b, off, ha, (hb.cell (World.block_lt_of_cell? W _ c0)).trans c0, (hb.cell (World.block_lt_of_cell? W _ c1)).trans c1⟩
theorem OwnG.changesC {e : TypeId} {W : World} {B : Nat} {v : Value} {l : List En} (h : OwnG cgCells e 2 W B v l) : ∃ ao cap, v = .slice ao l.length cap ∧ CgAt W ao l := by
  have hget : ∀ (l : List En) (i : Nat) (h : i < l.length), (l.flatMap cgCells)[i * 2]? = some (.string l[i].1) ∧ (l.flatMap cgCells)[i * 2 + 1]? = some (.int .i64 l[i].2) := fun l => by
    induction l with
    | nil => intro i h; simp at h
    | cons e l ih =>
      intro i h
      have hc : (e :: l).flatMap cgCells = .string e.1 :: .int .i64 e.2 :: l.flatMap cgCells := rfl
      rw [hc]
      cases i with
      | zero => exact ⟨rfl, rfl⟩
      | succ i =>
        have := ih i (by simpa using h)
        rw [show (i + 1) * 2 = i * 2 + 1 + 1 by omega]
        simpa using this
  rcases h.2 with ⟨rfl, h0⟩ | ⟨g, cap, cur, rfl, hb, hg, hnc, hcm, hcs, htake⟩
  · exact ⟨none, 0, by rw [h0], fun i hi => by omega⟩
  · refine ⟨_, cap, rfl, fun i hi => ⟨g, 0, rfl, ?_, ?_⟩⟩
    · have h1 := World.ownsRow.cellAt h (i * 2) (by omega)
      rw [(hget l i hi).1] at h1
      rw [Nat.zero_add]; exact h1
    · have h1 := World.ownsRow.cellAt h (i * 2 + 1) (by omega)
      rw [(hget l i hi).2] at h1
      rw [Nat.zero_add]; exact h1

set_option maxRecDepth 100000 in
set_option maxHeartbeats 4000000 in
theorem sameChanges_calls (ao bo : Option Addr) (ca cb : Nat) (l : List En) (w : World) (hA : CgAt w ao l) (hB : CgAt w bo l) (hl : l.length ≤ 4611686018427387904) :
    Calls Try.prog 16 #[.slice ao l.length ca, .slice bo l.length cb] w fun e w' => e = .returned (.bool true) ∧ Below w.heap.size w w' := by
  have HS : Hid (CgAt w ao l ∧ CgAt w bo l) := ⟨hA, hB⟩
  clear hA hB
  go_enter Try.func16, Try.ntmps16
  go_wp2_with fail
  go_loopw [13] (fun i wr => ∃ j : Nat, j ≤ l.length ∧ i = .int .i64 j ∧ Hid (Below w.heap.size w wr)) (fun i _ => l.length - (intOf i).toNat)
  case atStart => exact ⟨0, Nat.zero_le _, rfl, Below.refl _ _⟩
  case round =>
    obtain ⟨j, hj, rfl, HI⟩ := hrel
    by_cases hlt : j < l.length
    · obtain ⟨b1, o1, rfl, a0, a1⟩ := HS.out.1 j hlt
      obtain ⟨b2, o2, rfl, c0, c1⟩ := HS.out.2 j hlt
      replace a0 := (HI.out.cell (World.block_lt_of_cell? w _ a0)).trans a0
      replace a1 := (HI.out.cell (World.block_lt_of_cell? w _ a1)).trans a1
      replace c0 := (HI.out.cell (World.block_lt_of_cell? w _ c0)).trans c0
      replace c1 := (HI.out.cell (World.block_lt_of_cell? w _ c1)).trans c1
      obtain ⟨⟨k, v⟩, hkv⟩ : ∃ e, e = l[j] := ⟨_, rfl⟩
      rw [← hkv] at a0 a1 c0 c1
      clear hkv
      simp only at a0 a1 c0 c1
      have i1 : (0 : Int) ≤ (j : Int) ∧ (j : Int) < (l.length : Int) := by omega
      go_wp2_with fail
      go_quiet (fail)
      have HI6 : Hid (Below w.heap.size w (wr.drewN nq)) := below_drewN HI.out nq
      clear a0 a1 c0 c1 HI
      go_wp2_with fail
      go_roundw
      case rel => exact ⟨j + 1, by omega, by go_num, HI6⟩
      case measure => simp [intOf]; omega
    · have hjl : j = l.length := by omega
      subst hjl
      have HF : Hid (Below w.heap.size w wr) := HI.out
      clear HI HS
      go_wp2
      go_ret
      exact ⟨rfl, HF.out⟩
end Go.Proofs.Ytnmndjplbcpglaa

/- Layer 4 (walk): what stands within WalkDiffs. -/
namespace Go.Proofs.Ytnmndjplbcpglaa
open Go.RowKit Go.Shelf
set_option linter.unusedVariables false

theorem insW_calls (tb : Nat) (T : Tr) (ne : Int) (d : Nat) (es : List En) (w₀ w : World) (h : Held w₀ w tb T ne d es) (k : ByteArray) (v : Int) (hk : k.size ≤ 140737488351296) (hd : d + 1 ≤ 17592186044416) :
    Calls Try.prog 11 #[.pointer (some ⟨tb, 0, none⟩), .string k, .int .i64 v] w fun e w' => ∃ (tb' : Nat) (T' : Tr) (ne' : Int) (r1 : Value) (r2 : Bool), e = .returned (.tuple #[.pointer (some ⟨tb', 0, none⟩), r1, .bool r2]) ∧ Below w.heap.size w w' ∧ Held w₀ w' tb' T' ne' (d + 1) (insE es k v) := by
  obtain ⟨init, c, hA⟩ := along_split (k := k.data.toList) h.good.wf
  have hlen := hA.len h.good.dep
  have hlo := h.good.lo
  have hhi := h.good.hi
  have hv := h.has.val h.good.wf (root_pre h.good.root _) hA
  refine (insert_calls tb T ne k v w init c h.good.tree h.good.wf (root_pre h.good.root _) hk hA (by simp at hlen; omega) (by omega) (by omega)).mono ?_
  rintro e w' ⟨tb', T', va, vg, rfl, hb, hT, hI, -⟩
  exact ⟨tb', T', _, _, _, rfl, hb, h.insert hb hT hI hv⟩

/-- A tree of the program, with the document's beside it. -/
structure Tw where
  tb : Nat
  T : Tr
  ne : Int
  n : Nat
  es : List En
  d : Dv
  ps : List ByteArray
structure Tw.At (w W : World) (x : Tw) : Prop where
  held : Held w W x.tb x.T x.ne x.n x.es
  doc : DocAt W x.d x.es x.ps
def Tw.cs (x : Tw) : Array Value := x.d.cells x.es.length x.ps.length
theorem Tw.At.keep {w W W' : World} {x : Tw} (h : x.At w W) (hb : Below W.heap.size W W') : x.At w W' := ⟨h.held.keep hb, h.doc.keep hb⟩
theorem Tw.noPtr (x : Tw) : NoPtr x.cs := noPtr5 _ _ _ _ _ _ _ _ _ _ _ _ _ _ _
theorem Tw.At.len {w W : World} {x : Tw} (h : x.At w W) : x.es.length ≤ x.n := by have h1 := h.held.cnt; have h2 := h.held.good.hi; omega

structure LdI (w : World) (bm bk bn : Nat) (A C B : Tw) (W : World) : Prop where
  below : Below w.heap.size w W
  hA : A.At w W
  hC : C.At w W
  hB : B.At w W
  bA : W.heap[bm]? = some (.cells A.cs 28)
  bC : W.heap[bk]? = some (.cells C.cs 28)
  bB : W.heap[bn]? = some (.cells B.cs 28)
  ord : w.heap.size ≤ bn ∧ bm ≠ bn ∧ bk ≠ bn
theorem LdI.keep {w : World} {bm bk bn : Nat} {A C B : Tw} {W W' : World} (h : LdI w bm bk bn A C B W) (hb : Below W.heap.size W W') : LdI w bm bk bn A C B W' :=
  ⟨h.below.trans (hb.mono h.below.size), h.hA.keep hb, h.hC.keep hb, h.hB.keep hb, (hb.block _ (lt_of_heap h.bA)).trans h.bA, (hb.block _ (lt_of_heap h.bC)).trans h.bC, (hb.block _ (lt_of_heap h.bB)).trans h.bB, h.ord⟩
/-- The third is put anew into its box. -/
theorem LdI.put {w : World} {bm bk bn : Nat} {A C B B' : Tw} {W : World} (h : LdI w bm bk bn A C B W) (h' : B'.At w W) : LdI w bm bk bn A C B' (put5 W bn (.slice B'.d.k.ao B'.es.length B'.d.k.cap) (.slice B'.d.v.ao B'.es.length B'.d.v.cap) (.slice B'.d.l.ao B'.es.length B'.d.l.cap) (.slice B'.d.p.ao B'.ps.length B'.d.p.cap) (.slice B'.d.m.ao B'.ps.length B'.d.m.cap)) := by
  have hs : B.cs.size = 5 := rfl
  have one : ∀ {x : Tw}, x.At w W → x.At w (put5 W bn (.slice B'.d.k.ao B'.es.length B'.d.k.cap) (.slice B'.d.v.ao B'.es.length B'.d.v.cap) (.slice B'.d.l.ao B'.es.length B'.d.l.cap) (.slice B'.d.p.ao B'.ps.length B'.d.p.cap) (.slice B'.d.m.ao B'.ps.length B'.d.m.cap)) := fun hx => ⟨put5_held h.bB hs B.noPtr _ _ _ _ _ _ _ _ _ _ _ _ _ _ _ h.ord.1 hx.held, put5_doc h.bB hs _ _ _ _ _ hx.doc⟩
  exact ⟨(one h').held.good.below, one h.hA, one h.hC, one h', (put5_other h.bB hs _ _ _ _ _ h.ord.2.1).trans h.bA, (put5_other h.bB hs _ _ _ _ _ h.ord.2.2).trans h.bC, put5_blk h.bB hs _ _ _ _ _, h.ord⟩

/-- The entries behind the insertions. -/
def insAll (es : List En) (l : List En) : List En := l.foldl (fun acc e => insE acc e.1 e.2) es
theorem insAll_take (es l : List En) (j : Nat) (h : j < l.length) : insAll es (l.take (j + 1)) = insE (insAll es (l.take j)) l[j].1 l[j].2 := by
  rw [List.take_succ_eq_append_getElem h]; unfold insAll; rw [List.foldl_append]; rfl

/-- The slice that the law writes over, beside one that it does not. -/
structure DdI (w9 w10 w11 : World) (v : Value) (n : Nat) (W : World) : Prop where
  below : Below w9.heap.size w9 W
  keep : ∀ b, w10.heap.size ≤ b → b < w11.heap.size → W.heap[b]? = w11.heap[b]?
  own : ∃ xs, W.ownsRow w9.heap.size 50 2 v n xs
  far : ∀ g, v.ownBlock = some g → g < w10.heap.size ∨ w11.heap.size ≤ g
  size : w11.heap.size ≤ W.heap.size
theorem DdI.app {w9 w10 w11 : World} {v v' : Value} {n : Nat} {W w1 : World} {xs : List Value} (hw : w9.heap.size ≤ w11.heap.size) (h : DdI w9 w10 w11 v n W) (ho : w1.ownsRow w9.heap.size 50 2 v' (n + 1) xs) (hg : Grew W w1 v v') : DdI w9 w10 w11 v' (n + 1) w1 := by
  obtain ⟨ys, hy⟩ := h.own
  have hs := h.size
  refine ⟨h.below.trans (hg.toBelow h.below.size (fun k hk => (World.ownsRow.lt hy k hk).1)), fun b h1 h2 => (hg.grown.block b (by omega) (fun e => ?_)).trans (h.keep b h1 h2), ⟨xs, ho⟩, fun g hg' => ?_, Nat.le_trans hs hg.size⟩
  · rcases h.far b e.symm with h3 | h3 <;> omega
  · rcases hg.place g hg' with h3 | h3
    · exact h.far g h3
    · right; omega
/-- An element is written over. -/
theorem DdI.set {w9 w10 w11 : World} {g cap n : Nat} {W : World} {i : Nat} (x : Value) (h : DdI w9 w10 w11 (.slice (some ⟨g, 0, none⟩) n cap) n W) : DdI w9 w10 w11 (.slice (some ⟨g, 0, none⟩) n cap) n (W.setCell ⟨g, i, none⟩ x) := by
  obtain ⟨ys, hy⟩ := h.own
  have hgo : (Value.slice (some ⟨g, 0, none⟩) n cap).ownBlock = some g := rfl
  have hlt := World.ownsRow.lt hy g hgo
  refine ⟨h.below.setCell (p := ⟨g, i, none⟩) hlt.1 _, fun b h1 h2 => (heap_setCell_other _ _ _ _ (fun e => ?_)).trans (h.keep b h1 h2), ?_, h.far, by rw [size_setCell']; exact h.size⟩
  · have e' : b = g := e
    subst e'
    rcases h.far b hgo with h3 | h3 <;> omega
  · rcases hy.2 with ⟨h0, -⟩ | ⟨g', cap', cur, h0, hb, hgb, hnc, hcm, hcs, htk⟩
    · cases h0
    · simp only [Value.slice.injEq, Option.some.injEq, Addr.mk.injEq, and_true, true_and] at h0
      obtain ⟨rfl, rfl⟩ := h0
      have hb2 := setCell_blk (i := i) hgb x
      refine ⟨(cur.setIfInBounds i x).toList.take (n * 2), ?_, .inr ⟨g, cap, _, rfl, hb, hb2, hnc, hcm, by rw [Array.size_setIfInBounds]; exact hcs, rfl⟩⟩
      rw [List.length_take]
      simp only [Array.length_toList, Array.size_setIfInBounds, hcs]
      omega
theorem DdI.cell {w9 w10 w11 : World} {g cap n : Nat} {W : World} (h : DdI w9 w10 w11 (.slice (some ⟨g, 0, none⟩) n cap) n W) (i : Nat) (hi : i < n * 2) : (∃ x, W.cell? ⟨g, i, none⟩ = some x) ∧ W.frozen? ⟨g, i, none⟩ = false := by
  obtain ⟨ys, hy⟩ := h.own
  rcases hy.2 with ⟨h0, -⟩ | ⟨g', cap', cur, h0, hb, hgb, hnc, hcm, hcs, htk⟩
  · cases h0
  · simp only [Value.slice.injEq, Option.some.injEq, Addr.mk.injEq, and_true, true_and] at h0
    obtain ⟨rfl, rfl⟩ := h0
    refine ⟨⟨cur[i]'(by omega), ?_⟩, frozen_of_blk hgb⟩
    rw [cell_of_blk hgb]
    simp
end Go.Proofs.Ytnmndjplbcpglaa
