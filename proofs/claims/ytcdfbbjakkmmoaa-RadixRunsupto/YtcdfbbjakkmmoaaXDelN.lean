import Derived.Test.YtcdfbbjakkmmoaaXKidsM
import Derived.Test.YtcdfbbjakkmmoaaXInsD0
import Derived.Test.YtcdfbbjakkmmoaaRHasI
import Derived.Test.YtcdfbbjakkmmoaaRToward2
import Derived.Test.YtcdfbbjakkmmoaaXDelD
import Derived.Test.YtcdfbbjakkmmoaaRGet
import Derived.Test.YtcdfbbjakkmmoaaXBu3
/- What a node holds of the whole's entries. -/
namespace Go.Proofs.Ytcdfbbjakkmmoaa
open Go.RowKit
set_option linter.unusedVariables false

/-- Beneath its path the node holds just the entries. -/
def HasU (t : Tr) (es : List En) : Prop := ∀ k x, t.path <+: k → (Has t k x ↔ ∃ e ∈ es, kyl e = k ∧ x = .int .i64 e.2)
theorem HasU.root {T : Tr} {es : List En} (h : HasE T es) : HasU T es := fun k x _ => h k x
theorem HasU.kid {t c : Tr} {es : List En} (h : HasU t es) (hw : WF t) (hc : c ∈ t.ks) : HasU c es := fun k x hp => by
  have e1 := hw.ext' _ hc
  have hl := hp.length_le
  rw [path_length] at hl
  rw [← h k x (e1.1.trans hp)]
  constructor
  · exact fun hx => .kid hc hx
  · intro hx
    obtain ⟨d, hd, hx', hb⟩ := hx.down hw (by omega)
    have : d = c := hw.inj hd hc (by
      rw [hb]
      exact prefix_getD hp _ (by rw [path_length]; omega))
    subst this; exact hx'
theorem HasU.own {t : Tr} {es : List En} (h : HasU t es) (hw : WF t) (x : Value) : (∃ y, t.v = some y ∧ y.x = x) ↔ ∃ e ∈ es, e.1 = t.p ∧ x = .int .i64 e.2 := by
  have h1 := h t.path x (List.prefix_refl _)
  constructor
  · rintro ⟨y, hy, rfl⟩
    obtain ⟨e, he, g1, g2⟩ := h1.1 (.here hy)
    exact ⟨e, he, kyb_inj g1, g2⟩
  · rintro ⟨e, he, g1, g2⟩
    obtain ⟨y, hy, h3⟩ := (h1.2 ⟨e, he, by rw [kyl, g1]; rfl, g2⟩).own hw (by rw [path_length]; exact Nat.le_refl _)
    exact ⟨y, hy, h3⟩
theorem oldV_in {es : List En} (hs : SortedE es) {e : En} (he : e ∈ es) : oldV es e.1 = e.2 := by
  obtain ⟨i, hi, rfl⟩ := List.getElem_of_mem he
  have hk : es[i].1 ∈ keysOf es := List.mem_map_of_mem (List.getElem_mem hi)
  have hi' : i < (keysOf es).length := by rw [keysOf_len]; exact hi
  have hp : place (keysOf es) es[i].1 = i := by
    have := place_self hs.keys hi'
    simpa [keysOf] using this
  unfold oldV
  rw [if_pos hk, hp]
  simp [valsOf, hi]
theorem shown_val {t : Tr} {es : List En} (h : HasU t es) (hw : WF t) (hs : SortedE es) : held t.v = .int .i64 (oldV es t.p) ∧ t.v.isSome = decide (t.p ∈ keysOf es) := by
  cases hv : t.v with
  | some y =>
    obtain ⟨e, he, g1, g2⟩ := (h.own hw y.x).1 ⟨y, hv, rfl⟩
    have hk : t.p ∈ keysOf es := by rw [← g1]; exact List.mem_map_of_mem he
    refine ⟨?_, ?_⟩
    · show y.x = _
      rw [g2, ← g1, oldV_in hs he]
    · rw [decide_eq_true hk]; rfl
  | none =>
    have hk : t.p ∉ keysOf es := fun hk => by
      obtain ⟨e, he, g1⟩ := List.mem_map.1 hk
      obtain ⟨y, hy, -⟩ := (h.own hw (.int .i64 e.2)).2 ⟨e, he, g1, rfl⟩
      rw [hv] at hy; cases hy
    refine ⟨?_, ?_⟩
    · unfold oldV; rw [if_neg hk]; rfl
    · rw [decide_eq_false hk]; rfl
theorem kidPls_len (n : Nat) (ks : List Tr) (i m : Nat) : (kidPls n ks i m).length = m := by simp [kidPls]
theorem kidPls_at (n : Nat) (ks : List Tr) (i m j : Nat) (h : j < (kidPls n ks i m).length) : (kidPls n ks i m)[j] = kidPl n ks i j := by simp [kidPls]
end Go.Proofs.Ytcdfbbjakkmmoaa

/- The document's Delete of a key that is not there; Delete of whatever key, over a tree in canonical form. -/
namespace Go.Proofs.Ytcdfbbjakkmmoaa
open Go.RowKit
set_option linter.unusedVariables false

set_option maxRecDepth 100000 in
set_option maxHeartbeats 1600000 in
theorem deleteD_none (d : Dv) (es : List En) (ps : List ByteArray) (k : ByteArray) (next : Int) (w : World) (hd : DocAt w d es ps) (hk : k.size ≤ 140737488351296) (hl : es.length ≤ 5864062014640) (hin : k ∉ keysOf es) :
    Calls Try.prog 10 #[.agg (d.cells es.length ps.length), .string k, .int .i64 next] w fun e w' =>
      e = .returned (.tuple #[.agg (d.cells es.length ps.length), .int .i64 0, .bool false, .int .i64 next]) ∧ DocAt w' d es ps ∧ Below w.heap.size w w' := by
  obtain ⟨w1, HW1⟩ : ∃ w1, Hid (w1 = (w.alloc (.cells (d.cells es.length ps.length) 28)).alloc (.cells #[.slice none 0 0, .slice none 0 0, .slice none 0 0, .slice none 0 0, .slice none 0 0] 28)) := ⟨_, rfl⟩
  have hb1 : Below w.heap.size w w1 := by rw [HW1.out]; exact ((Below.refl _ w).alloc (Nat.le_refl _) _).alloc (by simp [World.size_alloc]) _
  have q0 : w1.heap[w.heap.size]? = some (.cells (d.cells es.length ps.length) 28) := by
    rw [HW1.out, Below.heap_alloc _ _ _ (by simp [World.size_alloc])]; exact heap_alloc_new _ _
  have q1 : w1.heap[w.heap.size + 1]? = some (.cells #[.slice none 0 0, .slice none 0 0, .slice none 0 0, .slice none 0 0, .slice none 0 0] 28) := by
    rw [HW1.out]
    have := heap_alloc_new (w.alloc (.cells (d.cells es.length ps.length) 28)) (.cells #[.slice none 0 0, .slice none 0 0, .slice none 0 0, .slice none 0 0, .slice none 0 0] 28)
    simpa only [World.size_alloc] using this
  have HF := find_calls d.k (keysOf es) k w1 (hd.k.below hb1) hd.kk hd.sorted.keys hd.ksz hk (by rw [keysOf_len]; omega)
  rw [keysOf_len] at HF
  obtain ⟨at_, hat⟩ : ∃ a, a = place (keysOf es) k := ⟨_, rfl⟩
  rw [← hat] at HF
  rw [decide_eq_false hin] at HF
  have k0 : w1.cell? ⟨w.heap.size, 0, none⟩ = some (.slice d.k.ao es.length d.k.cap) := by rw [cell_of_blk q0]; rfl
  have HQ : Hid (Below w.heap.size w w1 ∧ w1.heap[w.heap.size]? = some (.cells (d.cells es.length ps.length) 28) ∧ w1.heap[w.heap.size + 1]? = some (.cells #[.slice none 0 0, .slice none 0 0, .slice none 0 0, .slice none 0 0, .slice none 0 0] 28) ∧ DocAt w1 d es ps) := ⟨hb1, q0, q1, hd.keep hb1⟩
  have hnot : ∀ (x : Bool) (w : World), (Op.unary .not (.bool x)).run Try.prog w = .ok (.bool (!x)) w := fun _ _ => rfl
  clear hd hat hb1 q0 q1
  unfold Dv.cells
  unfold Dv.cells at HW1
  go_enter Try.func10, Try.ntmps10
  go_wp2_with fail
  rw [← HW1.out]
  clear HW1
  refine HF.mono ?_
  clear HF
  rintro e w2 ⟨rfl, nq, hw2⟩
  have hb2 : Below w1.heap.size w1 w2 := by rw [hw2]; exact drewN_below w1 nq
  have p0 : w2.heap[w.heap.size]? = some (.cells (d.cells es.length ps.length) 28) := (hb2.block _ (lt_of_heap HQ.out.2.1)).trans HQ.out.2.1
  have p1 : w2.heap[w.heap.size + 1]? = some (.cells #[.slice none 0 0, .slice none 0 0, .slice none 0 0, .slice none 0 0, .slice none 0 0] 28) := (hb2.block _ (lt_of_heap HQ.out.2.2.1)).trans HQ.out.2.2.1
  have HP : Hid (Below w.heap.size w w2 ∧ w2.heap[w.heap.size + 1]? = some (.cells #[.slice none 0 0, .slice none 0 0, .slice none 0 0, .slice none 0 0, .slice none 0 0] 28) ∧ DocAt w2 d es ps) := ⟨HQ.out.1.trans (hb2.mono HQ.out.1.size), p1, HQ.out.2.2.2.keep hb2⟩
  have m0 : w2.cell? ⟨w.heap.size, 0, none⟩ = some (.slice d.k.ao es.length d.k.cap) := by rw [cell_of_blk p0]; rfl
  have m1 : w2.cell? ⟨w.heap.size, 1, none⟩ = some (.slice d.v.ao es.length d.v.cap) := by rw [cell_of_blk p0]; rfl
  have m2 : w2.cell? ⟨w.heap.size, 2, none⟩ = some (.slice d.l.ao es.length d.l.cap) := by rw [cell_of_blk p0]; rfl
  have m3 : w2.cell? ⟨w.heap.size, 3, none⟩ = some (.slice d.p.ao ps.length d.p.cap) := by rw [cell_of_blk p0]; rfl
  have m4 : w2.cell? ⟨w.heap.size, 4, none⟩ = some (.slice d.m.ao ps.length d.m.cap) := by rw [cell_of_blk p0]; rfl
  have f0 : w2.cell? ⟨w.heap.size + 1, 0, none⟩ = some (.slice none 0 0) := by rw [cell_of_blk p1]; rfl
  have f1 : w2.cell? ⟨w.heap.size + 1, 1, none⟩ = some (.slice none 0 0) := by rw [cell_of_blk p1]; rfl
  have f2 : w2.cell? ⟨w.heap.size + 1, 2, none⟩ = some (.slice none 0 0) := by rw [cell_of_blk p1]; rfl
  have f3 : w2.cell? ⟨w.heap.size + 1, 3, none⟩ = some (.slice none 0 0) := by rw [cell_of_blk p1]; rfl
  have f4 : w2.cell? ⟨w.heap.size + 1, 4, none⟩ = some (.slice none 0 0) := by rw [cell_of_blk p1]; rfl
  have g0 : w2.frozen? ⟨w.heap.size + 1, 0, none⟩ = false := frozen_of_blk p1
  have g1 : w2.frozen? ⟨w.heap.size + 1, 1, none⟩ = false := frozen_of_blk p1
  have g2 : w2.frozen? ⟨w.heap.size + 1, 2, none⟩ = false := frozen_of_blk p1
  have g3 : w2.frozen? ⟨w.heap.size + 1, 3, none⟩ = false := frozen_of_blk p1
  have g4 : w2.frozen? ⟨w.heap.size + 1, 4, none⟩ = false := frozen_of_blk p1
  clear hw2 hb2 p0 p1 HQ k0
  obtain ⟨wz, HWZ⟩ : ∃ wz, Hid (wz = ((((w2.setCell ⟨w.heap.size + 1, 0, none⟩ (.slice d.k.ao es.length d.k.cap)).setCell ⟨w.heap.size + 1, 1, none⟩ (.slice d.v.ao es.length d.v.cap)).setCell ⟨w.heap.size + 1, 2, none⟩ (.slice d.l.ao es.length d.l.cap)).setCell ⟨w.heap.size + 1, 3, none⟩ (.slice d.p.ao ps.length d.p.cap)).setCell ⟨w.heap.size + 1, 4, none⟩ (.slice d.m.ao ps.length d.m.cap)) := ⟨_, rfl⟩
  have hz : wz.heap[w.heap.size + 1]? = some (.cells #[.slice d.k.ao es.length d.k.cap, .slice d.v.ao es.length d.v.cap, .slice d.l.ao es.length d.l.cap, .slice d.p.ao ps.length d.p.cap, .slice d.m.ao ps.length d.m.cap] 28) := by
    rw [HWZ.out]; exact put5_blk HP.out.2.1 rfl _ _ _ _ _
  have k0 : wz.cell? ⟨w.heap.size + 1, 0, none⟩ = some (.slice d.k.ao es.length d.k.cap) := by rw [cell_of_blk hz]; rfl
  have k1 : wz.cell? ⟨w.heap.size + 1, 1, none⟩ = some (.slice d.v.ao es.length d.v.cap) := by rw [cell_of_blk hz]; rfl
  have k2 : wz.cell? ⟨w.heap.size + 1, 2, none⟩ = some (.slice d.l.ao es.length d.l.cap) := by rw [cell_of_blk hz]; rfl
  have k3 : wz.cell? ⟨w.heap.size + 1, 3, none⟩ = some (.slice d.p.ao ps.length d.p.cap) := by rw [cell_of_blk hz]; rfl
  have k4 : wz.cell? ⟨w.heap.size + 1, 4, none⟩ = some (.slice d.m.ao ps.length d.m.cap) := by rw [cell_of_blk hz]; rfl
  have HFIN : Hid (DocAt wz d es ps ∧ Below w.heap.size w wz) := by
    rw [HWZ.out]
    exact ⟨put5_doc HP.out.2.1 rfl _ _ _ _ _ HP.out.2.2, put5_below HP.out.1 (by omega) _ _ _ _ _⟩
  clear hz HP
  go_wp2_with fail
  rw [← HWZ.out]
  refine bodyPost_ret (v := .tuple #[.agg #[.slice d.k.ao es.length d.k.cap, .slice d.v.ao es.length d.v.cap, .slice d.l.ao es.length d.l.cap, .slice d.p.ao ps.length d.p.cap, .slice d.m.ao ps.length d.m.cap], .int .i64 0, .bool false, .int .i64 next]) (by simp [results, Try.results10, go_sem, k0, k1, k2, k3, k4]) rfl ?_
  exact ⟨rfl, HFIN.out.1, HFIN.out.2⟩

/-- .. of whatever key. -/
theorem deleteM_calls (d : Dv) (es : List En) (k : ByteArray) (next : Int) (w : World) (hd : DocAt w d es (pathsOf es)) (hk : k.size ≤ 140737488351296) (hl : es.length ≤ 5864062014640) :
    Calls Try.prog 10 #[.agg (d.cells es.length (pathsOf es).length), .string k, .int .i64 next] w fun e w' =>
      ∃ (d' : Dv) (z : Int), e = .returned (.tuple #[.agg (d'.cells (delE es k).length (pathsOf (delE es k)).length), .int .i64 (oldV es k), .bool (decide (k ∈ keysOf es)), .int .i64 z]) ∧
        DocAt w' d' (delE es k) (pathsOf (delE es k)) ∧ Below w.heap.size w w' := by
  by_cases hin : k ∈ keysOf es
  · rw [decide_eq_true hin]
    exact deleteD_calls d es (pathsOf es) k next w hd hk hl hin
  · refine (deleteD_none d es (pathsOf es) k next w hd hk hl hin).mono ?_
    rintro e w' ⟨rfl, h1, h2⟩
    refine ⟨d, next, ?_, by rw [delE_none hd.sorted hin]; exact h1, h2⟩
    rw [delE_none hd.sorted hin, decide_eq_false hin]
    unfold oldV; rw [if_neg hin]

theorem delHC_calls (tb : Nat) (T : Tr) (ne : Int) (d : Nat) (es : List En) (w₀ w : World) (h : Held w₀ w tb T ne d es) (hC : Canon T) (k : ByteArray) (hk : k.size ≤ 140737488351296) (hd : d + 1 ≤ 17592186044416) :
    Calls Try.prog 9 #[.pointer (some ⟨tb, 0, none⟩), .string k] w fun e w' => ∃ (tb' : Nat) (T' : Tr) (ne' : Int), e = .returned (.tuple #[.pointer (some ⟨tb', 0, none⟩), .int .i64 (oldV es k), .bool (decide (k ∈ keysOf es))]) ∧ Below w.heap.size w w' ∧ Held w₀ w' tb' T' ne' d (delE es k) ∧ Canon T' ∧ ((k ∈ keysOf es ∧ DelR w.heap.size k T T') ∨ (k ∉ keysOf es ∧ tb' = tb ∧ T' = T)) := by
  obtain ⟨init, c, hA⟩ := along_split (k := k.data.toList) h.good.wf
  have hlen := hA.len h.good.dep
  have hlo := h.good.lo
  have hhi := h.good.hi
  have hv := h.has.val h.good.wf (root_pre h.good.root _) hA
  refine (delete_calls tb T ne k w init c h.good.tree h.good.wf (root_pre h.good.root _) hk hA (by simp at hlen; omega) (by omega) (by omega)).mono ?_
  rintro e w' ⟨hb, (⟨h1, rfl⟩ | ⟨x, tb', T', h1, rfl, ht, hi, -⟩)⟩
  · rw [h1] at hv
    have hno : k ∉ keysOf es := of_decide_eq_false hv.symm
    refine ⟨tb, T, ne, ?_, hb, by rw [delE_none h.sorted hno]; exact h.keep hb, hC, .inr ⟨hno, rfl, rfl⟩⟩
    rw [decide_eq_false hno]; unfold oldV; rw [if_neg hno]
  · rw [h1] at hv
    have hin : k ∈ keysOf es := of_decide_eq_true hv.symm
    obtain ⟨e, he, g1, g2⟩ := (h.has _ _).1 ((has_along hA rfl h.good.wf (root_pre h.good.root _) x.x).2 ⟨x, h1, rfl⟩)
    have hx : x.x = .int .i64 (oldV es k) := by
      rw [g2]
      have := oldV_in h.sorted he
      rw [show e.1 = k from ky_inj g1] at this
      rw [this]
    refine ⟨tb', T', _, ?_, hb, h.delete hb ht hi hin, hi.canon hC, .inl ⟨hin, hi⟩⟩
    rw [decide_eq_true hin, hx]
end Go.Proofs.Ytcdfbbjakkmmoaa
