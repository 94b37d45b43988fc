import Derived.Test.YtjgnmofgjnlncaaXHeldI
import Derived.Test.YtjgnmofgjnlncaaXTrimM
import Derived.Test.YtjgnmofgjnlncaaXHeld
import Derived.Test.YtjgnmofgjnlncaaRReach
import Derived.Test.YtjgnmofgjnlncaaXRg
/- Layer 4 (walk): Trim. -/
namespace Go.Proofs.Ytjgnmofgjnlncaa
open Go.RowKit Go.Shelf
set_option linter.unusedVariables false
attribute [local go_sem] Oper.semAt_some

theorem undH {w W : World} {tb : Nat} {T : Tr} {ne : Int} {d : Nat} {es : List En} (h : Held w W tb T ne d es) (p : ByteArray) : und (d + 1) T p = es.filter (beg p) := by
  unfold und
  rw [fil_root h.good.root, h.ents, List.filter_filter]
  congr 1
  funext e
  by_cases hb : beg p e = true
  · have : ¬ Lt (kyl e) (kyb p) := pre_not_lt (List.isPrefixOf_iff_prefix.1 hb)
    simp [hb, notLt, this]
  · rw [Bool.eq_false_iff.2 hb]; rfl

structure TrI (w : World) (tb d : Nat) (es : List En) (ks : List ByteArray) (n : Nat) (W : World) : Prop where
  below : Below w.heap.size w W
  cnt : W.heap[w.heap.size + 1]? = some (.cells #[.int .i64 (n : Int)] 3)
  u : ∃ tb' T' ne', W.heap[w.heap.size]? = some (.cells #[.pointer (some ⟨tb', 0, none⟩)] 24) ∧ Held w W tb' T' ne' d (rmE es ks) ∧ (ks = [] → tb' = tb)
theorem TrI.ownFrom {w : World} {tb d : Nat} {es : List En} {α : Type} {f : List α → List ByteArray} {q : List α → Nat} {B : Nat} (hB : w.heap.size ≤ B) : OwnFrom B (fun (l : List α) W => TrI w tb d es (f l) (q l) W) := fun l X C row h hg hr => by
  obtain ⟨tb', T', ne', u1, u2, u3⟩ := h.u
  have hr' : ∀ r, row = some r → ∃ o : Obj, X.heap[r]? = some o ∧ o.isCells = false := fun r e => (hr r e).2
  exact ⟨h.below.grown hg h.below.size (fun r e => by have := (hr r e).1; omega), heap_kept h.cnt hg hr', tb', T', ne', heap_kept u1 hg hr', u2.grown hg (fun r e => ⟨by have := (hr r e).1; omega, (hr r e).2⟩), u3⟩

set_option maxRecDepth 100000 in
set_option maxHeartbeats 8000000 in
theorem trim_calls (tb : Nat) (T : Tr) (ne : Int) (d : Nat) (es : List En) (w₀ w : World) (h : Held w₀ w tb T ne d es) (p : ByteArray) (hp : p.size ≤ 140737488351296) (hd : d + 1 ≤ 17592186044416) (hN : es.length ≤ 5864062014640) :
    Calls Try.prog 12 #[.pointer (some ⟨tb, 0, none⟩), .string p] w fun e w' => ∃ (tb' : Nat) (T' : Tr) (ne' : Int), e = .returned (.tuple #[.pointer (some ⟨tb', 0, none⟩), .int .i64 ((es.filter (beg p)).length : Int)]) ∧ Below w.heap.size w w' ∧ Held w w' tb' T' ne' d (leftE p es) ∧ (es.filter (beg p) = [] → tb' = tb) := by
  obtain ⟨w1, HW1⟩ : ∃ w1, Hid (w1 = (w.alloc (.cells #[.pointer (some ⟨tb, 0, none⟩)] 24)).alloc (.cells #[.int .i64 0] 3)) := ⟨_, rfl⟩
  have s0 : (w.alloc (.cells #[.pointer (some ⟨tb, 0, none⟩)] 24)).heap.size = w.heap.size + 1 := by simp [World.size_alloc]
  have hb1 : Below w.heap.size w w1 := by rw [HW1.out]; exact ((Below.refl _ _).alloc (Nat.le_refl _) _).alloc (by omega) _
  have hs1 : w1.heap.size = w.heap.size + 2 := by rw [HW1.out]; simp [World.size_alloc]
  have q0 : w1.heap[w.heap.size]? = some (.cells #[.pointer (some ⟨tb, 0, none⟩)] 24) := by rw [HW1.out, Below.heap_alloc _ _ _ (by omega)]; exact heap_alloc_new _ _
  have q1 : w1.heap[w.heap.size + 1]? = some (.cells #[.int .i64 0] 3) := by rw [HW1.out]; exact new_at s0 _
  have hHw : Held w w tb T ne d es := h.rebase (Below.refl _ _)
  have HQ : Hid (Below w.heap.size w w1 ∧ w1.heap[w.heap.size]? = some (.cells #[.pointer (some ⟨tb, 0, none⟩)] 24) ∧ w1.heap[w.heap.size + 1]? = some (.cells #[.int .i64 0] 3)) := ⟨hb1, q0, q1⟩
  have HF := under_calls (some ⟨tb, 0, none⟩) p w1
  have hund := undH hHw p
  have hfl : (fil (d + 1) T p).length ≤ es.length := by rw [fil_root hHw.good.root, hHw.ents]; exact List.length_filter_le _ _
  have HH : Hid (Held w w tb T ne d es) := hHw
  clear h hb1 q0 q1 hHw
  refine (callsIn_wide (n := 8)).1 ?_
  refine callsIn_of_wp_marks Try.func12 rfl trivial ?_ rfl
  refine wpIn_wide.2 ?_
  simp only [Try.ntmps12, List.size_toArray, List.length_cons, List.length_nil, Nat.reduceAdd, Nat.reduceSub, Array.replicate_succ, Array.replicate_zero, List.push_toArray, List.append_toArray, List.nil_append, List.cons_append]
  go_wp2_with fail
  rw [← HW1.out]
  clear HW1 s0
  refine HF.mono ?_
  clear HF
  rintro e w2 ⟨rfl, hw2⟩
  obtain ⟨hb2, hs2, d1, d2⟩ := box_blocks hw2
  have hb02 : Below w.heap.size w w2 := HQ.out.1.trans (hb2.mono HQ.out.1.size)
  have c0 : w2.heap[w.heap.size]? = some (.cells #[.pointer (some ⟨tb, 0, none⟩)] 24) := (hb2.block _ (by omega)).trans HQ.out.2.1
  have c1 : w2.heap[w.heap.size + 1]? = some (.cells #[.int .i64 0] 3) := (hb2.block _ (by omega)).trans HQ.out.2.2
  rw [hs1] at d1 d2 hs2 ⊢
  have hI2 : TrI w tb d es [] 0 w2 := ⟨hb02, c1, tb, T, ne, c0, HH.out.keep hb02, fun _ => rfl⟩
  clear hw2 hb2 c0 c1 HQ
  go_wp2_with fail
  refine (wpIn_wide (n := 8)).1 ?_
  refine range_law (n := 8) (by omega) (gf := 53) (lb := #[.pointer (some ⟨w.heap.size + 2, 0, none⟩), .pointer (some ⟨w.heap.size + 2 + 1, 0, none⟩)]) rfl (enters_of Try.func53 (by kernel_rfl) rfl)
    (under_seq w tb T ne d HH.out.tin p (Nat.le_trans hp (by decide)) (fun b => b = w.heap.size) (w.heap.size + 2) (w.heap.size + 2 + 1) w2 hb02 (fun b h => by omega) d1 d2 (fun h => by omega)) (fun h1 h2 => h1.trans h2) (kp_put hb02.size) (Below.refl _ _) (fun _ => rfl)
    (fun pre W => TrI w tb d es (pre.map (·.1.1)) pre.length W)
    (fun _ _ _ => False) ?hI (fun _ _ _ _ _ h _ _ => h) ?h0 ?a1 ?assign ?body ?done ?stop
  case assign =>
    intro l' m x W' K hK
    dsimp only [encE]
    gi_wp2
    exact hK
  case hI => exact TrI.ownFrom (by omega)
  case h0 => exact hI2
  case body =>
    rintro l' m pre x W' hsz' hI' hlen
    have hxk : x.1.1.size ≤ 140737488351296 := fil_size HH.out.good.tree.tat x.1 (List.mem_filter.1 x.2).1
    obtain ⟨tu, Tu, nu, u1, u2, -⟩ := hI'.u
    have cu : W'.cell? ⟨w.heap.size, 0, none⟩ = some (.pointer (some ⟨tu, 0, none⟩)) := by rw [cell_of_blk u1]; rfl
    have HC := delH_calls tu Tu nu d _ w W' u2 x.1.1 hxk hd
    have HU : Hid (W'.heap[w.heap.size]? = some (.cells #[.pointer (some ⟨tu, 0, none⟩)] 24) ∧ (∃ cs, W'.heap[tu]? = some (.cells cs 73)) ∧ TrI w tb d es (pre.map (·.1.1)) pre.length W') := ⟨u1, ⟨_, u2.good.tree.blk⟩, hI'⟩
    clear hI' u1 u2
    gi_wp2_with fail
    refine ⟨trivial, (fun h => by cases h), ?_⟩
    refine (CallsIn.inRound l' (callsIn_wide.2 HC)).mono ?_
    clear HC
    rintro e w8 ⟨t1, T1, n1, r1, r2, rfl, hb8, hh8⟩
    have b8 := (hb8.block _ (lt_of_heap HU.out.1)).trans HU.out.1
    obtain ⟨tcs, ht⟩ := HU.out.2.1
    have t8 := (hb8.block _ (lt_of_heap ht)).trans ht
    have k8 := (hb8.block _ (lt_of_heap HU.out.2.2.cnt)).trans HU.out.2.2.cnt
    have hh9 := hh8.put (Nat.le_refl _) b8 t8 (.pointer (some ⟨t1, 0, none⟩))
    have k9 : (w8.setCell ⟨w.heap.size, 0, none⟩ (.pointer (some ⟨t1, 0, none⟩))).heap[w.heap.size + 1]? = some (.cells #[.int .i64 (pre.length : Int)] 3) := by
      rw [heap_setCell_other _ _ _ _ (by show w.heap.size + 1 ≠ w.heap.size; omega)]; exact k8
    have hh10 : Held w ((w8.setCell ⟨w.heap.size, 0, none⟩ (.pointer (some ⟨t1, 0, none⟩))).setCell ⟨w.heap.size + 1, 0, none⟩ (.int .i64 ((pre.length : Int) + 1))) t1 T1 n1 d _ :=
      hh9.off (fun b => b = w.heap.size + 1) (hh9.good.below.setCell (p := ⟨w.heap.size + 1, 0, none⟩) (by show w.heap.size ≤ w.heap.size + 1; omega) _) (fun b _ hne => heap_setCell_other _ _ _ _ (fun e => hne e)) (fun b e => by subst e; exact ⟨_, _, k9, fun x hx p => by simp at hx; rw [hx]; simp, by decide, by decide, by decide, by decide⟩)
    have b10 : ((w8.setCell ⟨w.heap.size, 0, none⟩ (.pointer (some ⟨t1, 0, none⟩))).setCell ⟨w.heap.size + 1, 0, none⟩ (.int .i64 ((pre.length : Int) + 1))).heap[w.heap.size]? = some (.cells #[.pointer (some ⟨t1, 0, none⟩)] 24) := by
      rw [heap_setCell_other _ _ _ _ (by show w.heap.size ≠ w.heap.size + 1; omega), setCell_blk b8]; rfl
    have k10 : ((w8.setCell ⟨w.heap.size, 0, none⟩ (.pointer (some ⟨t1, 0, none⟩))).setCell ⟨w.heap.size + 1, 0, none⟩ (.int .i64 ((pre.length : Int) + 1))).heap[w.heap.size + 1]? = some (.cells #[.int .i64 (((pre ++ [x]).length : Nat) : Int)] 3) := by
      rw [setCell_blk k9]; simp
    have hfin : TrI w tb d es ((pre ++ [x]).map (·.1.1)) (pre ++ [x]).length _ := ⟨hh10.good.below, k10, t1, T1, n1, b10, by rw [List.map_append]; show Held w _ t1 T1 n1 d (rmE es (pre.map (·.1.1) ++ [x.1.1])); rw [rmE_snoc]; exact hh10, fun e => by simp at e⟩
    have cu8 : w8.cell? ⟨w.heap.size, 0, none⟩ = some (.pointer (some ⟨tu, 0, none⟩)) := by rw [cell_of_blk b8]; rfl
    have zu8 : w8.frozen? ⟨w.heap.size, 0, none⟩ = false := frozen_of_blk b8
    have ck8 : w8.cell? ⟨w.heap.size + 1, 0, none⟩ = some (.int .i64 (pre.length : Int)) := by rw [cell_of_blk k8]; rfl
    have zk8 : w8.frozen? ⟨w.heap.size + 1, 0, none⟩ = false := frozen_of_blk k8
    have ofB : ∀ {A B : World} (q : Nat), Below A.heap.size A B → KeepsFrom q A B := fun q hb => ⟨hb.size, fun k o _ hk _ => (hb.block _ (lt_of_heap hk)).trans hk⟩
    have HF : Hid (_ ∧ _ ∧ _) := ⟨((ofB w2.heap.size hb8).trans ((KeepsOthers.setCell _ ⟨w.heap.size, 0, none⟩ (.pointer (some ⟨t1, 0, none⟩))).from _)).trans ((KeepsOthers.setCell _ ⟨w.heap.size + 1, 0, none⟩ (.int .i64 ((pre.length : Int) + 1))).from _),
      ((Kp.ofBelow hb8 HU.out.2.2.below.size).trans (kp_box (n₀ := w.heap.size) (X := fun b => b = w.heap.size) (b := w.heap.size) (i := 0) (Nat.le_refl _) rfl (.pointer (some ⟨t1, 0, none⟩)))).trans (kp_store (n₀ := w.heap.size) (i := 0) (Nat.le_succ _) k9 (by unfold KTy; decide) (.int .i64 ((pre.length : Int) + 1))), hfin⟩
    clear hb8 hh8 b8 ht t8 k8 hh9 k9 hh10 b10 k10 hfin HU cu
    gi_wp2_with fail
    exact ⟨HF.out.1, HF.out.2.1, HF.out.2.2⟩
  case done =>
    rintro D xs W' hD hS hI' hK
    have hS' : xs.map (·.1) = es.filter (beg p) := hS.trans hund
    obtain ⟨t1, T1, n1, u1, u2, u3⟩ := hI'.u
    have hks : xs.map (·.1.1) = (es.filter (beg p)).map (·.1) := by rw [← hS', List.map_map]; rfl
    rw [hks, rmE_all HH.out.sorted] at u2
    have hxl : xs.length = (es.filter (beg p)).length := by rw [← hS']; simp
    have cu : W'.cell? ⟨w.heap.size, 0, none⟩ = some (.pointer (some ⟨t1, 0, none⟩)) := by rw [cell_of_blk u1]; rfl
    have ck : W'.cell? ⟨w.heap.size + 1, 0, none⟩ = some (.int .i64 ((es.filter (beg p)).length : Int)) := by rw [cell_of_blk hI'.cnt, hxl]; rfl
    have HZ : Hid (W'.heap[D]? = some (.deferred (some [])) ∧ Below w.heap.size w W' ∧ Held w W' t1 T1 n1 d (leftE p es) ∧ (es.filter (beg p) = [] → t1 = tb)) := ⟨hK, hI'.below, u2, fun e => u3 (by rw [hks, e]; rfl)⟩
    clear hK hI' u1 u2 u3 hS hS' hks hxl
    go_wp2_with fail
    go_quiet (fail)
    go_wp2_with fail
    refine ⟨by simp, .inl ⟨_, _, rfl, run_takeDeferred (w := W'.drewN nq) HZ.out.1, ?_⟩⟩
    have hdr : Below w.heap.size w ((W'.drewN nq).putObj D (.deferred none)) := (below_drewN HZ.out.2.1 nq).grown (grownBy_putObj' _ _ _) (below_drewN HZ.out.2.1 nq).size (fun k e => by cases e; have := hb02.size; omega)
    refine ⟨.tuple #[.pointer (some ⟨t1, 0, none⟩), .int .i64 ((es.filter (beg p)).length : Int)], by simp [results, Try.results12, go_sem], t1, T1, n1, rfl, hdr, ?_, HZ.out.2.2.2⟩
    refine ((HZ.out.2.2.1.keep (drewN_below W' nq)).grown (grownBy_putObj' (W'.drewN nq) D (.deferred none)) (fun r e => ?_))
    cases e
    exact ⟨by have := hb02.size; omega, _, HZ.out.1, rfl⟩
  case stop =>
    rintro D c xs W' _ _ h _
    exact h.elim
end Go.Proofs.Ytjgnmofgjnlncaa

/- Layer 3 (radix): Fresh of a tree and itself: nothing is new. -/
namespace Go.Proofs.Ytjgnmofgjnlncaa
open Go.RowKit
set_option linter.unusedVariables false
variable {R : Nat → Prop}

theorem nodeInfo : ∃ i, Try.prog.info? 105 = some i := by
  have h : (Try.prog.info? 105).isSome = true := by kernel_rfl
  exact Option.isSome_iff_exists.1 h
theorem eqlNode_same (w : World) (a : Addr) : (binOp .eql 64 (.pointer (some a)) (.pointer (some a))).run Try.prog w = .ok (.bool true) w := by
  obtain ⟨i, hi⟩ := nodeInfo
  exact run_eql_ptr_same w a Try.underlying64 hi

set_option maxRecDepth 100000 in
theorem fresh_self (t : Tr) (w : World) (h : TAt R w t) (hw : WF t) (hks : t.p.size ≤ 140737488351296) :
    Calls Try.prog 34 #[.pointer (some ⟨t.a, 0, none⟩), .pointer (some ⟨t.a, 0, none⟩)] w fun e w' => e = .returned (.int .i64 0) ∧ Below w.heap.size w w' := by
  obtain ⟨ao, cap, c0, -, -, -, -, -, -⟩ := h.cells
  have HR := reach_calls t t.p w [] t (Along.stop (nx_end hw (by rw [← path_length]; exact Nat.le_refl _))) h hw (List.prefix_refl _) hks
  clear h
  go_enter Try.func34, Try.ntmps34
  go_wp2_with fail
  refine HR.mono ?_
  rintro e w2 ⟨rfl, hb2⟩
  have hq := eqlNode_same w2 ⟨t.a, 0, none⟩
  go_wp2
  go_ret
  exact ⟨rfl, hb2⟩

section
variable {o : Oper} {a : Act} {W : World} {K : Act → World → Prop} {Q : Exit → Act → World → Prop}
theorem f_nil {x : Operand} {p : Addr} (ho : o.op = .nilCheck x) (hx : a.eval x = .pointer (some p)) (h : K (a.put o.dst (.pointer (some p))) W) : o.wp Try.prog a W K Q :=
  wp_valF (v := .pointer (some p)) (by unfold execOp; simp only [ho, hx]; simp [go_sem]) h
theorem f_fldRoot {x : Operand} {g : Nat} (ho : o.op = .fieldAddr 73 x 0) (hx : a.eval x = .pointer (some ⟨g, 0, none⟩)) (h : K (a.put o.dst (.pointer (some ⟨g, 0, none⟩))) W) : o.wp Try.prog a W K Q :=
  wp_valF (v := .pointer (some ⟨g, 0, none⟩)) (by unfold execOp; simp only [ho, hx]; go_simp) h
theorem f_loadPN {x : Operand} {p k : Nat} {s : Option Addr} (ho : o.op = .load 64 x) (hx : a.eval x = .pointer (some ⟨p, k, none⟩)) (hc : W.cell? ⟨p, k, none⟩ = some (.pointer s)) (h : K (a.put o.dst (.pointer s)) W) : o.wp Try.prog a W K Q :=
  wp_valF (v := .pointer s) (by unfold execOp; simp only [ho, hx]; simp [hc, go_sem]) h
end

set_option maxRecDepth 100000 in
set_option maxHeartbeats 2000000 in
theorem freshT_self (tb : Nat) (t : Tr) (n : Int) (w : World) (h : TreeAt w tb t n) (hw : WF t) (hks : t.p.size ≤ 140737488351296) :
    Calls Try.prog 15 #[.pointer (some ⟨tb, 0, none⟩), .pointer (some ⟨tb, 0, none⟩)] w fun e w' => e = .returned (.int .i64 0) ∧ Below w.heap.size w w' := by
  have HC : Hid (∀ W, Below w.heap.size w W → W.cell? ⟨tb, 0, none⟩ = some (.pointer (some ⟨t.a, 0, none⟩))) := fun W hb => by rw [cell_of_blk (h.keep hb).blk]; rfl
  have HF : Hid (∀ W, Below w.heap.size w W → Calls Try.prog 34 #[.pointer (some ⟨t.a, 0, none⟩), .pointer (some ⟨t.a, 0, none⟩)] W fun e w' => e = .returned (.int .i64 0) ∧ Below W.heap.size W w') := fun W hb => fresh_self t W (h.keep hb).tat hw hks
  clear h hw hks
  go_enter Try.func15, Try.ntmps15
  go_wp2_with fail
  refine wp_region_inv 9 (fun i v W => if i = 8 then v = .int .i64 0 else if i = 3 ∨ i = 7 then v = .pointer (some ⟨t.a, 0, none⟩) else v = .pointer (some ⟨tb, 0, none⟩)) (by kernel_rfl) (by kernel_rfl) (by kernel_rfl) [some 5, some 6, some 7, some 8, some 9, some 10, some 11, some 12, some 13] (by kernel_rfl) ?mono ?hop ?tail
  case mono => exact fun i v W W' h _ => h
  case hop =>
    intro i o hi ho a W hB hs hd
    match i, hi, ho, hd with
    | 0, _, ho, hd =>
      obtain rfl := Option.some.inj ho
      exact f_move rfl ((hs 1 (by kernel_rfl)).trans rfl) ⟨_, rfl, rfl, Below.refl _ _⟩
    | 1, _, ho, hd =>
      obtain rfl := Option.some.inj ho
      exact f_nil rfl (hd 0 5 (by kernel_rfl) (by kernel_rfl)) ⟨_, rfl, rfl, Below.refl _ _⟩
    | 2, _, ho, hd =>
      obtain rfl := Option.some.inj ho
      exact f_fldRoot rfl (hd 1 6 (by kernel_rfl) (by kernel_rfl)) ⟨_, rfl, rfl, Below.refl _ _⟩
    | 3, _, ho, hd =>
      obtain rfl := Option.some.inj ho
      exact f_loadPN rfl (hd 2 7 (by kernel_rfl) (by kernel_rfl)) (HC.out W hB) ⟨_, rfl, rfl, Below.refl _ _⟩
    | 4, _, ho, hd =>
      obtain rfl := Option.some.inj ho
      exact f_move rfl ((hs 0 (by kernel_rfl)).trans rfl) ⟨_, rfl, rfl, Below.refl _ _⟩
    | 5, _, ho, hd =>
      obtain rfl := Option.some.inj ho
      exact f_nil rfl (hd 4 9 (by kernel_rfl) (by kernel_rfl)) ⟨_, rfl, rfl, Below.refl _ _⟩
    | 6, _, ho, hd =>
      obtain rfl := Option.some.inj ho
      exact f_fldRoot rfl (hd 5 10 (by kernel_rfl) (by kernel_rfl)) ⟨_, rfl, rfl, Below.refl _ _⟩
    | 7, _, ho, hd =>
      obtain rfl := Option.some.inj ho
      exact f_loadPN rfl (hd 6 11 (by kernel_rfl) (by kernel_rfl)) (HC.out W hB) ⟨_, rfl, rfl, Below.refl _ _⟩
    | 8, _, ho, hd =>
      obtain rfl := Option.some.inj ho
      refine wp_callF (f := 34) (vals := #[.pointer (some ⟨t.a, 0, none⟩), .pointer (some ⟨t.a, 0, none⟩)]) rfl (map2 (hd 3 8 (by kernel_rfl) (by kernel_rfl)) (hd 7 12 (by kernel_rfl) (by kernel_rfl))) (by go_simp) ?_
      refine (HF.out W hB).mono ?_
      rintro e w9 ⟨rfl, hb9⟩
      exact ⟨_, rfl, _, rfl, rfl, hb9⟩
    | k + 9, hi, _, _ => exact absurd hi (by omega)
  case tail =>
    intro vs W hB hR
    have r8 : vs 8 = .int .i64 0 := hR 8 (by decide)
    clear hR
    simp only [putL, put_lit, List.setIfInBounds_toArray, List.set_cons_succ, List.set_cons_zero, List.drop_succ_cons, List.drop_zero]
    rw [r8]
    go_wp2
    go_ret
    exact ⟨rfl, hB⟩
end Go.Proofs.Ytjgnmofgjnlncaa
