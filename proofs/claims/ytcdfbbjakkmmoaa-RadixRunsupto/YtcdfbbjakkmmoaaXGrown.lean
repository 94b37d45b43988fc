/- Layer 3 (radix): Insert over a tree in canonical form; the law's grown. -/
import Derived.Test.YtcdfbbjakkmmoaaXDelN
import Derived.Test.YtcdfbbjakkmmoaaXBu3
namespace Go.Proofs.Ytcdfbbjakkmmoaa
open Go.RowKit
set_option linter.unusedVariables false

theorem insHC_calls (tb : Nat) (T : Tr) (ne : Int) (d : Nat) (es : List En) (w₀ w : World) (h : Held w₀ w tb T ne d es) (hC : Canon T) (k : ByteArray) (v : Int) (hk : k.size ≤ 140737488351296) (hd : d + 1 ≤ 17592186044416) :
    Calls Try.prog 23 #[.pointer (some ⟨tb, 0, none⟩), .string k, .int .i64 v] w fun e w' => ∃ (tb' : Nat) (T' : Tr) (ne' : Int), e = .returned (.tuple #[.pointer (some ⟨tb', 0, none⟩), .int .i64 (oldV es k), .bool (decide (k ∈ keysOf es))]) ∧ Below w.heap.size w w' ∧ Held w₀ w' tb' T' ne' (d + 1) (insE es k v) ∧ Canon T' ∧ ∃ va vg, InsR w.heap.size k ⟨va, .int .i64 v, vg⟩ T T' := by
  obtain ⟨init, c, hA⟩ := along_split (k := k.data.toList) h.good.wf
  have hlen := hA.len h.good.dep
  have hlo := h.good.lo
  have hhi := h.good.hi
  have hv := h.has.val h.good.wf (root_pre h.good.root _) hA
  refine (insert_calls tb T ne k v w init c h.good.tree h.good.wf (root_pre h.good.root _) hk hA (by simp at hlen; omega) (by omega) (by omega)).mono ?_
  rintro e w' ⟨tb', T', va, vg, rfl, hb, ht, hi, -, -, -⟩
  refine ⟨tb', T', _, ?_, hb, h.insert hb ht hi hv, (hi.canon h.good.wf hC).1, va, vg, hi⟩
  rw [hv]
  cases hx : valAt c k with
  | some x =>
    rw [hx] at hv
    obtain ⟨e, he, g1, g2⟩ := (h.has _ _).1 ((has_along hA rfl h.good.wf (root_pre h.good.root _) x.x).2 ⟨x, hx, rfl⟩)
    have hxx : held (some x) = .int .i64 (oldV es k) := by
      show x.x = _
      rw [g2]
      have := oldV_in h.sorted he
      rw [show e.1 = k from ky_inj g1] at this
      rw [this]
    rw [hxx]
  | none =>
    rw [hx] at hv
    have hno : k ∉ keysOf es := of_decide_eq_false hv.symm
    have h0 : oldV es k = 0 := by unfold oldV; rw [if_neg hno]
    rw [h0]; rfl

/-- The boxes of grown. -/
structure GrI (w : World) (d : Dv) (n q : Nat) (oc : Array Value) (W : World) : Prop where
  below : Below w.heap.size w W
  mb : W.heap[w.heap.size]? = some (.cells (d.cells n q) 28)
  ob : W.heap[w.heap.size + 1]? = some (.cells oc 43)
  rb : W.heap[w.heap.size + 2]? = some (.cells #[.slice none 0 0, .slice none 0 0, .slice none 0 0, .slice none 0 0, .slice none 0 0] 28)
theorem GrI.keep {w : World} {d : Dv} {n q : Nat} {oc : Array Value} {W W' : World} (h : GrI w d n q oc W) (hb : Below W.heap.size W W') : GrI w d n q oc W' :=
  ⟨h.below.trans (hb.mono h.below.size), (hb.block _ (lt_of_heap h.mb)).trans h.mb, (hb.block _ (lt_of_heap h.ob)).trans h.ob, (hb.block _ (lt_of_heap h.rb)).trans h.rb⟩
theorem grI_start (w : World) (d : Dv) (n q : Nat) (oc : Array Value) : GrI w d n q oc (((w.alloc (.cells (d.cells n q) 28)).alloc (.cells oc 43)).alloc (.cells #[.slice none 0 0, .slice none 0 0, .slice none 0 0, .slice none 0 0, .slice none 0 0] 28)) := by
  have s1 : (w.alloc (.cells (d.cells n q) 28)).heap.size = w.heap.size + 1 := by simp [World.size_alloc]
  have s2 : ((w.alloc (.cells (d.cells n q) 28)).alloc (.cells oc 43)).heap.size = w.heap.size + 2 := by simp [World.size_alloc]
  refine ⟨(((Below.refl _ w).alloc (Nat.le_refl _) _).alloc (by omega) _).alloc (by omega) _, ?_, ?_, ?_⟩
  · rw [Below.heap_alloc _ _ _ (by omega), Below.heap_alloc _ _ _ (by omega)]; exact heap_alloc_new _ _
  · rw [Below.heap_alloc _ _ _ (by omega)]; exact new_at s1 _
  · exact new_at s2 _

/-- What a step gives. -/
structure GrP (w₀ w' : World) (tb' : Nat) (T' : Tr) (ne' : Int) (n' : Nat) (es' : List En) (d' : Dv) : Prop where
  held : Held w₀ w' tb' T' ne' n' es'
  canon : Canon T'
  doc : DocAt w' d' es' (pathsOf es')
theorem GrP.keep {w₀ W W' : World} {tb' : Nat} {T' : Tr} {ne' : Int} {n' : Nat} {es' : List En} {d' : Dv} (h : GrP w₀ W tb' T' ne' n' es' d') (hb : Below W.heap.size W W') : GrP w₀ W' tb' T' ne' n' es' d' := ⟨h.held.keep hb, h.canon, h.doc.keep hb⟩
def GrPost (w₀ w : World) (n' : Nat) (es' : List En) (R : Tr → Nat → Prop) (e : Ending) (w' : World) : Prop :=
  ∃ (tb' : Nat) (T' : Tr) (ne' : Int) (d' : Dv) (z : Int), e = .returned (.tuple #[.pointer (some ⟨tb', 0, none⟩), .agg (d'.cells es'.length (pathsOf es').length), .int .i64 z, .bool true]) ∧ Below w.heap.size w w' ∧ GrP w₀ w' tb' T' ne' n' es' d' ∧ R T' tb'


set_option maxRecDepth 100000 in
set_option maxHeartbeats 4000000 in
theorem grownI_calls (tb : Nat) (T : Tr) (ne : Int) (n : Nat) (es : List En) (d : Dv) (w₀ w : World) (h : GrP w₀ w tb T ne n es d) (kd on : Int) (hkd : kd = 0) (k : ByteArray) (v : Int) (next : Int) (hk : k.size ≤ 140737488351296) (hn : n + 1 ≤ 5864062014640) (hle : es.length ≤ n) (hge : w₀.heap.size ≤ w.heap.size) :
    Calls Try.prog 15 #[.pointer (some ⟨tb, 0, none⟩), .agg (d.cells es.length (pathsOf es).length), .agg #[.int .i64 kd, .int .i64 on, .string k, .int .i64 v], .int .i64 next] w (GrPost w₀ w (n + 1) (insE es k v) fun T' tb' => ∃ N va vg, w.heap.size ≤ N ∧ InsR N k ⟨va, .int .i64 v, vg⟩ T T') := by
  have HG1 := grI_start w d es.length (pathsOf es).length #[.int .i64 kd, .int .i64 on, .string k, .int .i64 v]
  obtain ⟨w1, HW1⟩ : ∃ w1, Hid (w1 = ((w.alloc (.cells (d.cells es.length (pathsOf es).length) 28)).alloc (.cells #[.int .i64 kd, .int .i64 on, .string k, .int .i64 v] 43)).alloc (.cells #[.slice none 0 0, .slice none 0 0, .slice none 0 0, .slice none 0 0, .slice none 0 0] 28)) := ⟨_, rfl⟩
  rw [← HW1.out] at HG1
  have HI1 : Hid (GrI w d es.length (pathsOf es).length #[.int .i64 kd, .int .i64 on, .string k, .int .i64 v] w1) := HG1
  have HP1 : Hid (GrP w₀ w1 tb T ne n es d) := h.keep (HG1.below.mono (Nat.le_refl _))
  have HMK : Hid (∀ W, GrI w d es.length (pathsOf es).length #[.int .i64 kd, .int .i64 on, .string k, .int .i64 v] W → W.cell? ⟨w.heap.size, 0, none⟩ = some (.slice d.k.ao es.length d.k.cap) ∧ W.cell? ⟨w.heap.size, 1, none⟩ = some (.slice d.v.ao es.length d.v.cap) ∧ W.cell? ⟨w.heap.size, 2, none⟩ = some (.slice d.l.ao es.length d.l.cap) ∧ W.cell? ⟨w.heap.size, 3, none⟩ = some (.slice d.p.ao (pathsOf es).length d.p.cap) ∧ W.cell? ⟨w.heap.size, 4, none⟩ = some (.slice d.m.ao (pathsOf es).length d.m.cap) ∧ W.cell? ⟨w.heap.size + 1, 0, none⟩ = some (.int .i64 kd) ∧ W.cell? ⟨w.heap.size + 1, 2, none⟩ = some (.string k) ∧ W.cell? ⟨w.heap.size + 1, 3, none⟩ = some (.int .i64 v)) := fun W g => by
    refine ⟨by rw [cell_of_blk g.mb]; rfl, by rw [cell_of_blk g.mb]; rfl, by rw [cell_of_blk g.mb]; rfl, by rw [cell_of_blk g.mb]; rfl, by rw [cell_of_blk g.mb]; rfl, by rw [cell_of_blk g.ob]; rfl, by rw [cell_of_blk g.ob]; rfl, by rw [cell_of_blk g.ob]; rfl⟩
  have hnot : ∀ (x : Bool) (w : World), (Op.unary .not (.bool x)).run Try.prog w = .ok (.bool (!x)) w := fun _ _ => rfl
  have HC := insHC_calls tb T ne n es w₀ w1 HP1.out.held HP1.out.canon k v hk (by omega)
  obtain ⟨es2, hes2⟩ : ∃ e, e = insE es k v := ⟨_, rfl⟩
  rw [← hes2] at HC ⊢
  obtain ⟨bk, hbk⟩ : ∃ b, b = decide (k ∈ keysOf es) := ⟨_, rfl⟩
  obtain ⟨ov, hov⟩ : ∃ o, o = oldV es k := ⟨_, rfl⟩
  rw [← hbk, ← hov] at HC
  have HR : Hid (∀ W, DocAt W d es (pathsOf es) → Calls Try.prog 26 #[.agg (d.cells es.length (pathsOf es).length), .string k, .int .i64 v, .int .i64 next] W fun e w' =>
      ∃ (d' : Dv) (z : Int), e = .returned (.tuple #[.agg (d'.cells es2.length (pathsOf es2).length), .int .i64 ov, .bool bk, .int .i64 z]) ∧ DocAt w' d' es2 (pathsOf es2) ∧ Below W.heap.size W w') := fun W hW => by
    have := insertD_calls d es (pathsOf es) k v next W hW hk (by omega)
    rw [← hbk, ← hov, ← hes2] at this
    exact this
  obtain ⟨q1, hq1⟩ : ∃ q, q = (pathsOf es).length := ⟨_, rfl⟩
  rw [← hq1] at HMK HI1 HW1 HR ⊢
  have HES : Hid (bk = decide (k ∈ keysOf es) ∧ es2 = insE es k v) := ⟨hbk, hes2⟩
  have HGE : Hid (w₀.heap.size ≤ w.heap.size) := hge
  clear h HG1 hbk hov hes2 hq1 hk hge
  unfold Dv.cells at HW1
  unfold Dv.cells
  have hkd0 : (kd == 0) = true := by rw [hkd]; rfl
  clear hkd
  go_enter Try.func15, Try.ntmps15
  go_wp2_with fail
  rw [← HW1.out]
  clear HW1
  obtain ⟨k0, k1, k2, k3, k4, k5, k6, k7⟩ := HMK.out w1 HI1.out
  go_wp2_with fail
  refine HC.mono ?_
  clear HC
  rintro e w2 ⟨tb2, T2, ne2, rfl, hb2, hH2, hC2, hR2⟩
  have HI2 : Hid (GrI w d es.length q1 #[.int .i64 kd, .int .i64 on, .string k, .int .i64 v] w2) := HI1.out.keep hb2
  have HH2 : Hid (Held w₀ w2 tb2 T2 ne2 (n + 1) es2 ∧ Canon T2) := ⟨hH2, hC2⟩
  have HREL : Hid (∃ N va vg, w.heap.size ≤ N ∧ InsR N k ⟨va, .int .i64 v, vg⟩ T T2) := by
    obtain ⟨va, vg, hi⟩ := hR2
    exact ⟨w1.heap.size, va, vg, HI1.out.below.size, hi⟩
  have HD2 : Hid (DocAt w2 d es (pathsOf es)) := HP1.out.doc.keep hb2
  clear hb2 hH2 hC2 hR2 k0 k1 k2 k3 k4 k5 k6 k7 HI1 HP1
  obtain ⟨k0, k1, k2, k3, k4, k5, k6, k7⟩ := HMK.out w2 HI2.out
  have HR2 := HR.out w2 HD2.out
  unfold Dv.cells at HR2
  go_wp2_with fail
  refine HR2.mono ?_
  clear HR2
  rintro e w3 ⟨d2, z, rfl, hd3, hb3⟩
  have HI3 : Hid (GrI w d es.length q1 #[.int .i64 kd, .int .i64 on, .string k, .int .i64 v] w3) := HI2.out.keep hb3
  have HH3 : Hid (GrP w₀ w3 tb2 T2 ne2 (n + 1) es2 d2) := ⟨HH2.out.1.keep hb3, HH2.out.2, hd3⟩
  clear hd3 hb3 HI2 HH2 HD2 HR k0 k1 k2 k3 k4 k5 k6 k7
  obtain ⟨q2, hq2⟩ : ∃ q, q = (pathsOf es2).length := ⟨_, rfl⟩
  rw [← hq2]
  have HQ2 : Hid (q2 = (pathsOf es2).length) := hq2
  clear hq2
  obtain ⟨w4, HW4⟩ : ∃ w4, Hid (w4 = w3.alloc (.cells #[.slice d2.k.ao es2.length d2.k.cap, .slice d2.v.ao es2.length d2.v.cap, .slice d2.l.ao es2.length d2.l.cap, .slice d2.p.ao q2 d2.p.cap, .slice d2.m.ao q2 d2.m.cap] 28)) := ⟨_, rfl⟩
  have b4 : Below w3.heap.size w3 w4 := by rw [HW4.out]; exact (Below.refl _ _).alloc (Nat.le_refl _) _
  have HI4 : Hid (GrI w d es.length q1 #[.int .i64 kd, .int .i64 on, .string k, .int .i64 v] w4) := HI3.out.keep b4
  have HH4 : Hid (GrP w₀ w4 tb2 T2 ne2 (n + 1) es2 d2) := HH3.out.keep b4
  have n4 : w4.heap[w3.heap.size]? = some (.cells #[.slice d2.k.ao es2.length d2.k.cap, .slice d2.v.ao es2.length d2.v.cap, .slice d2.l.ao es2.length d2.l.cap, .slice d2.p.ao q2 d2.p.cap, .slice d2.m.ao q2 d2.m.cap] 28) := by rw [HW4.out]; exact heap_alloc_new _ _
  have hz3 := HI3.out.below.size
  have hl3 := lt_of_heap HI3.out.rb
  have r4 := HI4.out.rb
  clear b4 HI3 HH3
  obtain ⟨mb, hmb⟩ : ∃ mb, mb = w3.heap.size := ⟨_, rfl⟩
  rw [← hmb] at n4 hz3 hl3
  have m0 : w4.cell? ⟨mb, 0, none⟩ = some (.slice d2.k.ao es2.length d2.k.cap) := by rw [cell_of_blk n4]; rfl
  have m1 : w4.cell? ⟨mb, 1, none⟩ = some (.slice d2.v.ao es2.length d2.v.cap) := by rw [cell_of_blk n4]; rfl
  have m2 : w4.cell? ⟨mb, 2, none⟩ = some (.slice d2.l.ao es2.length d2.l.cap) := by rw [cell_of_blk n4]; rfl
  have m3 : w4.cell? ⟨mb, 3, none⟩ = some (.slice d2.p.ao q2 d2.p.cap) := by rw [cell_of_blk n4]; rfl
  have m4 : w4.cell? ⟨mb, 4, none⟩ = some (.slice d2.m.ao q2 d2.m.cap) := by rw [cell_of_blk n4]; rfl
  have f0 : w4.cell? ⟨w.heap.size + 2, 0, none⟩ = some (.slice none 0 0) := by rw [cell_of_blk r4]; rfl
  have f1 : w4.cell? ⟨w.heap.size + 2, 1, none⟩ = some (.slice none 0 0) := by rw [cell_of_blk r4]; rfl
  have f2 : w4.cell? ⟨w.heap.size + 2, 2, none⟩ = some (.slice none 0 0) := by rw [cell_of_blk r4]; rfl
  have f3 : w4.cell? ⟨w.heap.size + 2, 3, none⟩ = some (.slice none 0 0) := by rw [cell_of_blk r4]; rfl
  have f4 : w4.cell? ⟨w.heap.size + 2, 4, none⟩ = some (.slice none 0 0) := by rw [cell_of_blk r4]; rfl
  have g0 : w4.frozen? ⟨w.heap.size + 2, 0, none⟩ = false := frozen_of_blk r4
  have g1 : w4.frozen? ⟨w.heap.size + 2, 1, none⟩ = false := frozen_of_blk r4
  have g2 : w4.frozen? ⟨w.heap.size + 2, 2, none⟩ = false := frozen_of_blk r4
  have g3 : w4.frozen? ⟨w.heap.size + 2, 3, none⟩ = false := frozen_of_blk r4
  have g4 : w4.frozen? ⟨w.heap.size + 2, 4, none⟩ = false := frozen_of_blk r4
  have hne : w.heap.size + 2 ≠ mb := by omega
  obtain ⟨wz, HWZ⟩ : ∃ wz, Hid (wz = (((((w4.setCell ⟨w.heap.size + 2, 0, none⟩ (.slice d2.k.ao es2.length d2.k.cap)).setCell ⟨w.heap.size + 2, 1, none⟩ (.slice d2.v.ao es2.length d2.v.cap)).setCell ⟨w.heap.size + 2, 2, none⟩ (.slice d2.l.ao es2.length d2.l.cap)).setCell ⟨w.heap.size + 2, 3, none⟩ (.slice d2.p.ao q2 d2.p.cap)).setCell ⟨w.heap.size + 2, 4, none⟩ (.slice d2.m.ao q2 d2.m.cap)).drew) := ⟨_, rfl⟩
  have hz : wz.heap[w.heap.size + 2]? = some (.cells #[.slice d2.k.ao es2.length d2.k.cap, .slice d2.v.ao es2.length d2.v.cap, .slice d2.l.ao es2.length d2.l.cap, .slice d2.p.ao q2 d2.p.cap, .slice d2.m.ao q2 d2.m.cap] 28) := by
    rw [HWZ.out]; exact put5_blk r4 rfl _ _ _ _ _
  have t0 : wz.cell? ⟨w.heap.size + 2, 0, none⟩ = some (.slice d2.k.ao es2.length d2.k.cap) := by rw [cell_of_blk hz]; rfl
  have t1 : wz.cell? ⟨w.heap.size + 2, 1, none⟩ = some (.slice d2.v.ao es2.length d2.v.cap) := by rw [cell_of_blk hz]; rfl
  have t2 : wz.cell? ⟨w.heap.size + 2, 2, none⟩ = some (.slice d2.l.ao es2.length d2.l.cap) := by rw [cell_of_blk hz]; rfl
  have t3 : wz.cell? ⟨w.heap.size + 2, 3, none⟩ = some (.slice d2.p.ao q2 d2.p.cap) := by rw [cell_of_blk hz]; rfl
  have t4 : wz.cell? ⟨w.heap.size + 2, 4, none⟩ = some (.slice d2.m.ao q2 d2.m.cap) := by rw [cell_of_blk hz]; rfl
  have HFIN : Hid (∀ hge : w₀.heap.size ≤ w.heap.size, GrP w₀ wz tb2 T2 ne2 (n + 1) es2 d2 ∧ Below w.heap.size w wz) := fun hge => by
    have hdr : ∀ X : World, Below X.heap.size X X.drew := fun X => ⟨rfl, rfl, rfl, Nat.le_refl _, fun _ _ => rfl⟩
    have hb := put5_below HI4.out.below (show w.heap.size ≤ w.heap.size + 2 by omega) (.slice d2.k.ao es2.length d2.k.cap) (.slice d2.v.ao es2.length d2.v.cap) (.slice d2.l.ao es2.length d2.l.cap) (.slice d2.p.ao q2 d2.p.cap) (.slice d2.m.ao q2 d2.m.cap)
    rw [HWZ.out]
    refine ⟨⟨(put5_held r4 rfl (noPtr5 _ _ _ _ _ _ _ _ _ _ _ _ _ _ _) _ _ _ _ _ _ _ _ _ _ _ _ _ _ _ (by omega) HH4.out.held).keep (hdr _), HH4.out.canon, (put5_doc r4 rfl _ _ _ _ _ HH4.out.doc).keep (hdr _)⟩, hb.trans ((hdr _).mono hb.size)⟩
  clear hz HI4 HH4 r4 n4
  go_wp2_with fail
  rw [← HW4.out, ← hmb]
  clear HW4 hmb
  go_wp2_with fail
  go_region
  all_goals (
    rw [← HWZ.out]
    go_wp2_with fail
    refine bodyPost_ret (v := .tuple #[.pointer (some ⟨tb2, 0, none⟩), .agg #[.slice d2.k.ao es2.length d2.k.cap, .slice d2.v.ao es2.length d2.v.cap, .slice d2.l.ao es2.length d2.l.cap, .slice d2.p.ao q2 d2.p.cap, .slice d2.m.ao q2 d2.m.cap], .int .i64 z, .bool true]) (by simp [results, Try.results15, go_sem, t0, t1, t2, t3, t4]) rfl ?_
    refine ⟨tb2, T2, ne2, d2, z, ?_, (HFIN.out HGE.out).2, (HFIN.out HGE.out).1, ?_⟩
    · rw [← HQ2.out]; rfl
    · exact HREL.out)

set_option maxRecDepth 100000 in
set_option maxHeartbeats 4000000 in
theorem grownD_calls (tb : Nat) (T : Tr) (ne : Int) (n : Nat) (es : List En) (d : Dv) (w₀ w : World) (h : GrP w₀ w tb T ne n es d) (kd on : Int) (hkd : kd ≠ 0) (k : ByteArray) (v : Int) (next : Int) (hk : k.size ≤ 140737488351296) (hn : n + 1 ≤ 5864062014640) (hle : es.length ≤ n) (hge : w₀.heap.size ≤ w.heap.size) :
    Calls Try.prog 15 #[.pointer (some ⟨tb, 0, none⟩), .agg (d.cells es.length (pathsOf es).length), .agg #[.int .i64 kd, .int .i64 on, .string k, .int .i64 v], .int .i64 next] w (GrPost w₀ w n (delE es k) fun T' tb' => (k ∈ keysOf es ∧ ∃ N, w.heap.size ≤ N ∧ DelR N k T T') ∨ (k ∉ keysOf es ∧ tb' = tb ∧ T' = T)) := by
  have HG1 := grI_start w d es.length (pathsOf es).length #[.int .i64 kd, .int .i64 on, .string k, .int .i64 v]
  obtain ⟨w1, HW1⟩ : ∃ w1, Hid (w1 = ((w.alloc (.cells (d.cells es.length (pathsOf es).length) 28)).alloc (.cells #[.int .i64 kd, .int .i64 on, .string k, .int .i64 v] 43)).alloc (.cells #[.slice none 0 0, .slice none 0 0, .slice none 0 0, .slice none 0 0, .slice none 0 0] 28)) := ⟨_, rfl⟩
  rw [← HW1.out] at HG1
  have HI1 : Hid (GrI w d es.length (pathsOf es).length #[.int .i64 kd, .int .i64 on, .string k, .int .i64 v] w1) := HG1
  have HP1 : Hid (GrP w₀ w1 tb T ne n es d) := h.keep (HG1.below.mono (Nat.le_refl _))
  have HMK : Hid (∀ W, GrI w d es.length (pathsOf es).length #[.int .i64 kd, .int .i64 on, .string k, .int .i64 v] W → W.cell? ⟨w.heap.size, 0, none⟩ = some (.slice d.k.ao es.length d.k.cap) ∧ W.cell? ⟨w.heap.size, 1, none⟩ = some (.slice d.v.ao es.length d.v.cap) ∧ W.cell? ⟨w.heap.size, 2, none⟩ = some (.slice d.l.ao es.length d.l.cap) ∧ W.cell? ⟨w.heap.size, 3, none⟩ = some (.slice d.p.ao (pathsOf es).length d.p.cap) ∧ W.cell? ⟨w.heap.size, 4, none⟩ = some (.slice d.m.ao (pathsOf es).length d.m.cap) ∧ W.cell? ⟨w.heap.size + 1, 0, none⟩ = some (.int .i64 kd) ∧ W.cell? ⟨w.heap.size + 1, 2, none⟩ = some (.string k) ∧ W.cell? ⟨w.heap.size + 1, 3, none⟩ = some (.int .i64 v)) := fun W g => by
    refine ⟨by rw [cell_of_blk g.mb]; rfl, by rw [cell_of_blk g.mb]; rfl, by rw [cell_of_blk g.mb]; rfl, by rw [cell_of_blk g.mb]; rfl, by rw [cell_of_blk g.mb]; rfl, by rw [cell_of_blk g.ob]; rfl, by rw [cell_of_blk g.ob]; rfl, by rw [cell_of_blk g.ob]; rfl⟩
  have hnot : ∀ (x : Bool) (w : World), (Op.unary .not (.bool x)).run Try.prog w = .ok (.bool (!x)) w := fun _ _ => rfl
  have HC := delHC_calls tb T ne n es w₀ w1 HP1.out.held HP1.out.canon k hk (by omega)
  obtain ⟨es2, hes2⟩ : ∃ e, e = delE es k := ⟨_, rfl⟩
  rw [← hes2] at HC ⊢
  obtain ⟨bk, hbk⟩ : ∃ b, b = decide (k ∈ keysOf es) := ⟨_, rfl⟩
  obtain ⟨ov, hov⟩ : ∃ o, o = oldV es k := ⟨_, rfl⟩
  rw [← hbk, ← hov] at HC
  have HR : Hid (∀ W, DocAt W d es (pathsOf es) → Calls Try.prog 10 #[.agg (d.cells es.length (pathsOf es).length), .string k, .int .i64 next] W fun e w' =>
      ∃ (d' : Dv) (z : Int), e = .returned (.tuple #[.agg (d'.cells es2.length (pathsOf es2).length), .int .i64 ov, .bool bk, .int .i64 z]) ∧ DocAt w' d' es2 (pathsOf es2) ∧ Below W.heap.size W w') := fun W hW => by
    have := deleteM_calls d es k next W hW hk (by omega)
    rw [← hbk, ← hov, ← hes2] at this
    exact this
  obtain ⟨q1, hq1⟩ : ∃ q, q = (pathsOf es).length := ⟨_, rfl⟩
  rw [← hq1] at HMK HI1 HW1 HR ⊢
  have HES : Hid (bk = decide (k ∈ keysOf es) ∧ es2 = delE es k) := ⟨hbk, hes2⟩
  have HGE : Hid (w₀.heap.size ≤ w.heap.size) := hge
  clear h HG1 hbk hov hes2 hq1 hk hge
  unfold Dv.cells at HW1
  unfold Dv.cells
  have hkd0 : (kd == 0) = false := by rw [beq_eq_false_iff_ne]; exact hkd
  clear hkd
  go_enter Try.func15, Try.ntmps15
  go_wp2_with fail
  rw [← HW1.out]
  clear HW1
  obtain ⟨k0, k1, k2, k3, k4, k5, k6, k7⟩ := HMK.out w1 HI1.out
  go_wp2_with fail
  refine HC.mono ?_
  clear HC
  rintro e w2 ⟨tb2, T2, ne2, rfl, hb2, hH2, hC2, hR2⟩
  have HI2 : Hid (GrI w d es.length q1 #[.int .i64 kd, .int .i64 on, .string k, .int .i64 v] w2) := HI1.out.keep hb2
  have HH2 : Hid (Held w₀ w2 tb2 T2 ne2 n es2 ∧ Canon T2) := ⟨hH2, hC2⟩
  have HREL : Hid ((k ∈ keysOf es ∧ ∃ N, w.heap.size ≤ N ∧ DelR N k T T2) ∨ (k ∉ keysOf es ∧ tb2 = tb ∧ T2 = T)) := hR2.imp (fun ⟨g1, g2⟩ => ⟨g1, w1.heap.size, HI1.out.below.size, g2⟩) id
  have HD2 : Hid (DocAt w2 d es (pathsOf es)) := HP1.out.doc.keep hb2
  clear hb2 hH2 hC2 hR2 k0 k1 k2 k3 k4 k5 k6 k7 HI1 HP1
  obtain ⟨k0, k1, k2, k3, k4, k5, k6, k7⟩ := HMK.out w2 HI2.out
  have HR2 := HR.out w2 HD2.out
  unfold Dv.cells at HR2
  go_wp2_with fail
  refine HR2.mono ?_
  clear HR2
  rintro e w3 ⟨d2, z, rfl, hd3, hb3⟩
  have HI3 : Hid (GrI w d es.length q1 #[.int .i64 kd, .int .i64 on, .string k, .int .i64 v] w3) := HI2.out.keep hb3
  have HH3 : Hid (GrP w₀ w3 tb2 T2 ne2 n es2 d2) := ⟨HH2.out.1.keep hb3, HH2.out.2, hd3⟩
  clear hd3 hb3 HI2 HH2 HD2 HR k0 k1 k2 k3 k4 k5 k6 k7
  obtain ⟨q2, hq2⟩ : ∃ q, q = (pathsOf es2).length := ⟨_, rfl⟩
  rw [← hq2]
  have HQ2 : Hid (q2 = (pathsOf es2).length) := hq2
  clear hq2
  obtain ⟨w4, HW4⟩ : ∃ w4, Hid (w4 = w3.alloc (.cells #[.slice d2.k.ao es2.length d2.k.cap, .slice d2.v.ao es2.length d2.v.cap, .slice d2.l.ao es2.length d2.l.cap, .slice d2.p.ao q2 d2.p.cap, .slice d2.m.ao q2 d2.m.cap] 28)) := ⟨_, rfl⟩
  have b4 : Below w3.heap.size w3 w4 := by rw [HW4.out]; exact (Below.refl _ _).alloc (Nat.le_refl _) _
  have HI4 : Hid (GrI w d es.length q1 #[.int .i64 kd, .int .i64 on, .string k, .int .i64 v] w4) := HI3.out.keep b4
  have HH4 : Hid (GrP w₀ w4 tb2 T2 ne2 n es2 d2) := HH3.out.keep b4
  have n4 : w4.heap[w3.heap.size]? = some (.cells #[.slice d2.k.ao es2.length d2.k.cap, .slice d2.v.ao es2.length d2.v.cap, .slice d2.l.ao es2.length d2.l.cap, .slice d2.p.ao q2 d2.p.cap, .slice d2.m.ao q2 d2.m.cap] 28) := by rw [HW4.out]; exact heap_alloc_new _ _
  have hz3 := HI3.out.below.size
  have hl3 := lt_of_heap HI3.out.rb
  have r4 := HI4.out.rb
  clear b4 HI3 HH3
  obtain ⟨mb, hmb⟩ : ∃ mb, mb = w3.heap.size := ⟨_, rfl⟩
  rw [← hmb] at n4 hz3 hl3
  have m0 : w4.cell? ⟨mb, 0, none⟩ = some (.slice d2.k.ao es2.length d2.k.cap) := by rw [cell_of_blk n4]; rfl
  have m1 : w4.cell? ⟨mb, 1, none⟩ = some (.slice d2.v.ao es2.length d2.v.cap) := by rw [cell_of_blk n4]; rfl
  have m2 : w4.cell? ⟨mb, 2, none⟩ = some (.slice d2.l.ao es2.length d2.l.cap) := by rw [cell_of_blk n4]; rfl
  have m3 : w4.cell? ⟨mb, 3, none⟩ = some (.slice d2.p.ao q2 d2.p.cap) := by rw [cell_of_blk n4]; rfl
  have m4 : w4.cell? ⟨mb, 4, none⟩ = some (.slice d2.m.ao q2 d2.m.cap) := by rw [cell_of_blk n4]; rfl
  have f0 : w4.cell? ⟨w.heap.size + 2, 0, none⟩ = some (.slice none 0 0) := by rw [cell_of_blk r4]; rfl
  have f1 : w4.cell? ⟨w.heap.size + 2, 1, none⟩ = some (.slice none 0 0) := by rw [cell_of_blk r4]; rfl
  have f2 : w4.cell? ⟨w.heap.size + 2, 2, none⟩ = some (.slice none 0 0) := by rw [cell_of_blk r4]; rfl
  have f3 : w4.cell? ⟨w.heap.size + 2, 3, none⟩ = some (.slice none 0 0) := by rw [cell_of_blk r4]; rfl
  have f4 : w4.cell? ⟨w.heap.size + 2, 4, none⟩ = some (.slice none 0 0) := by rw [cell_of_blk r4]; rfl
  have g0 : w4.frozen? ⟨w.heap.size + 2, 0, none⟩ = false := frozen_of_blk r4
  have g1 : w4.frozen? ⟨w.heap.size + 2, 1, none⟩ = false := frozen_of_blk r4
  have g2 : w4.frozen? ⟨w.heap.size + 2, 2, none⟩ = false := frozen_of_blk r4
  have g3 : w4.frozen? ⟨w.heap.size + 2, 3, none⟩ = false := frozen_of_blk r4
  have g4 : w4.frozen? ⟨w.heap.size + 2, 4, none⟩ = false := frozen_of_blk r4
  have hne : w.heap.size + 2 ≠ mb := by omega
  obtain ⟨wz, HWZ⟩ : ∃ wz, Hid (wz = (((((w4.setCell ⟨w.heap.size + 2, 0, none⟩ (.slice d2.k.ao es2.length d2.k.cap)).setCell ⟨w.heap.size + 2, 1, none⟩ (.slice d2.v.ao es2.length d2.v.cap)).setCell ⟨w.heap.size + 2, 2, none⟩ (.slice d2.l.ao es2.length d2.l.cap)).setCell ⟨w.heap.size + 2, 3, none⟩ (.slice d2.p.ao q2 d2.p.cap)).setCell ⟨w.heap.size + 2, 4, none⟩ (.slice d2.m.ao q2 d2.m.cap)).drew) := ⟨_, rfl⟩
  have hz : wz.heap[w.heap.size + 2]? = some (.cells #[.slice d2.k.ao es2.length d2.k.cap, .slice d2.v.ao es2.length d2.v.cap, .slice d2.l.ao es2.length d2.l.cap, .slice d2.p.ao q2 d2.p.cap, .slice d2.m.ao q2 d2.m.cap] 28) := by
    rw [HWZ.out]; exact put5_blk r4 rfl _ _ _ _ _
  have t0 : wz.cell? ⟨w.heap.size + 2, 0, none⟩ = some (.slice d2.k.ao es2.length d2.k.cap) := by rw [cell_of_blk hz]; rfl
  have t1 : wz.cell? ⟨w.heap.size + 2, 1, none⟩ = some (.slice d2.v.ao es2.length d2.v.cap) := by rw [cell_of_blk hz]; rfl
  have t2 : wz.cell? ⟨w.heap.size + 2, 2, none⟩ = some (.slice d2.l.ao es2.length d2.l.cap) := by rw [cell_of_blk hz]; rfl
  have t3 : wz.cell? ⟨w.heap.size + 2, 3, none⟩ = some (.slice d2.p.ao q2 d2.p.cap) := by rw [cell_of_blk hz]; rfl
  have t4 : wz.cell? ⟨w.heap.size + 2, 4, none⟩ = some (.slice d2.m.ao q2 d2.m.cap) := by rw [cell_of_blk hz]; rfl
  have HFIN : Hid (∀ hge : w₀.heap.size ≤ w.heap.size, GrP w₀ wz tb2 T2 ne2 n es2 d2 ∧ Below w.heap.size w wz) := fun hge => by
    have hdr : ∀ X : World, Below X.heap.size X X.drew := fun X => ⟨rfl, rfl, rfl, Nat.le_refl _, fun _ _ => rfl⟩
    have hb := put5_below HI4.out.below (show w.heap.size ≤ w.heap.size + 2 by omega) (.slice d2.k.ao es2.length d2.k.cap) (.slice d2.v.ao es2.length d2.v.cap) (.slice d2.l.ao es2.length d2.l.cap) (.slice d2.p.ao q2 d2.p.cap) (.slice d2.m.ao q2 d2.m.cap)
    rw [HWZ.out]
    refine ⟨⟨(put5_held r4 rfl (noPtr5 _ _ _ _ _ _ _ _ _ _ _ _ _ _ _) _ _ _ _ _ _ _ _ _ _ _ _ _ _ _ (by omega) HH4.out.held).keep (hdr _), HH4.out.canon, (put5_doc r4 rfl _ _ _ _ _ HH4.out.doc).keep (hdr _)⟩, hb.trans ((hdr _).mono hb.size)⟩
  clear hz HI4 HH4 r4 n4
  go_wp2_with fail
  rw [← HW4.out, ← hmb]
  clear HW4 hmb
  go_wp2_with fail
  go_region
  all_goals (
    rw [← HWZ.out]
    go_wp2_with fail
    refine bodyPost_ret (v := .tuple #[.pointer (some ⟨tb2, 0, none⟩), .agg #[.slice d2.k.ao es2.length d2.k.cap, .slice d2.v.ao es2.length d2.v.cap, .slice d2.l.ao es2.length d2.l.cap, .slice d2.p.ao q2 d2.p.cap, .slice d2.m.ao q2 d2.m.cap], .int .i64 z, .bool true]) (by simp [results, Try.results15, go_sem, t0, t1, t2, t3, t4]) rfl ?_
    refine ⟨tb2, T2, ne2, d2, z, ?_, (HFIN.out HGE.out).2, (HFIN.out HGE.out).1, ?_⟩
    · rw [← HQ2.out]; rfl
    · exact HREL.out)

end Go.Proofs.Ytcdfbbjakkmmoaa
