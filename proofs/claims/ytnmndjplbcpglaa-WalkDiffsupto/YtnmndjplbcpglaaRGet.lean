import Derived.Test.YtnmndjplbcpglaaXHeldI
import Derived.Test.YtnmndjplbcpglaaXTrimM
import Derived.Test.YtnmndjplbcpglaaXFrom
import Derived.Test.YtnmndjplbcpglaaXCount
import Derived.Test.YtnmndjplbcpglaaXWith
import Derived.Test.YtnmndjplbcpglaaRTree
import Derived.Test.YtnmndjplbcpglaaRHas0
import Derived.Test.YtnmndjplbcpglaaRClone
/- Layer 4 (walk): Trim. -/
namespace Go.Proofs.Ytnmndjplbcpglaa
open Go.RowKit Go.Shelf
set_option linter.unusedVariables false
attribute [local go_sem] Oper.semAt_some

theorem undH {w W : World} {tb : Nat} {T : Tr} {ne : Int} {d : Nat} {es : List En} (h : Held w W tb T ne d es) (p : ByteArray) : und (d + 1) T p = es.filter (beg p) := by
  unfold und
  rw [fil_root h.good.root, h.ents, List.filter_filter]
  congr 1
  funext e
  by_cases hb : beg p e = true
  · have : ¬ Lt (kyl e) (kyb p) := pre_not_lt (List.isPrefixOf_iff_prefix.1 hb)
    simp [hb, notLt, this]
  · rw [Bool.eq_false_iff.2 hb]; rfl

structure TrI (w : World) (tb d : Nat) (es : List En) (ks : List ByteArray) (n : Nat) (W : World) : Prop where
  below : Below w.heap.size w W
  cnt : W.heap[w.heap.size + 1]? = some (.cells #[.int .i64 (n : Int)] 3)
  u : ∃ tb' T' ne', W.heap[w.heap.size]? = some (.cells #[.pointer (some ⟨tb', 0, none⟩)] 24) ∧ Held w W tb' T' ne' d (rmE es ks) ∧ (ks = [] → tb' = tb)
theorem TrI.ownFrom {w : World} {tb d : Nat} {es : List En} {α : Type} {f : List α → List ByteArray} {q : List α → Nat} {B : Nat} (hB : w.heap.size ≤ B) : OwnM B (fun (l : List α) W => TrI w tb d es (f l) (q l) W) := fun l X C row h hg hr => by
  obtain ⟨tb', T', ne', u1, u2, u3⟩ := h.u
  have hr' : ∀ r, row = some r → ∃ o : Obj, X.heap[r]? = some o ∧ isMark o = true := fun r e => (hr r e).2
  exact ⟨h.below.grown hg h.below.size (fun r e => by have := (hr r e).1; omega), heap_kept h.cnt hg hr', tb', T', ne', heap_kept u1 hg hr', u2.grown hg (fun r e => ⟨by have := (hr r e).1; omega, (hr r e).2⟩), u3⟩

set_option maxRecDepth 100000 in
set_option maxHeartbeats 8000000 in
theorem trim_calls (tb : Nat) (T : Tr) (ne : Int) (d : Nat) (es : List En) (w₀ w : World) (h : Held w₀ w tb T ne d es) (p : ByteArray) (hp : p.size ≤ 140737488351296) (hd : d + 1 ≤ 17592186044416) (hN : es.length ≤ 5864062014640) :
    Calls Try.prog 13 #[.pointer (some ⟨tb, 0, none⟩), .string p] w fun e w' => ∃ (tb' : Nat) (T' : Tr) (ne' : Int), e = .returned (.tuple #[.pointer (some ⟨tb', 0, none⟩), .int .i64 ((es.filter (beg p)).length : Int)]) ∧ Below w.heap.size w w' ∧ Held w w' tb' T' ne' d (leftE p es) ∧ (es.filter (beg p) = [] → tb' = tb) := by
  obtain ⟨w1, HW1⟩ : ∃ w1, Hid (w1 = (w.alloc (.cells #[.pointer (some ⟨tb, 0, none⟩)] 24)).alloc (.cells #[.int .i64 0] 3)) := ⟨_, rfl⟩
  have s0 : (w.alloc (.cells #[.pointer (some ⟨tb, 0, none⟩)] 24)).heap.size = w.heap.size + 1 := by simp [World.size_alloc]
  have hb1 : Below w.heap.size w w1 := by rw [HW1.out]; exact ((Below.refl _ _).alloc (Nat.le_refl _) _).alloc (by omega) _
  have hs1 : w1.heap.size = w.heap.size + 2 := by rw [HW1.out]; simp [World.size_alloc]
  have q0 : w1.heap[w.heap.size]? = some (.cells #[.pointer (some ⟨tb, 0, none⟩)] 24) := by rw [HW1.out, Below.heap_alloc _ _ _ (by omega)]; exact heap_alloc_new _ _
  have q1 : w1.heap[w.heap.size + 1]? = some (.cells #[.int .i64 0] 3) := by rw [HW1.out]; exact new_at s0 _
  have hHw : Held w w tb T ne d es := h.rebase (Below.refl _ _)
  have HQ : Hid (Below w.heap.size w w1 ∧ w1.heap[w.heap.size]? = some (.cells #[.pointer (some ⟨tb, 0, none⟩)] 24) ∧ w1.heap[w.heap.size + 1]? = some (.cells #[.int .i64 0] 3)) := ⟨hb1, q0, q1⟩
  have HF := under_calls (some ⟨tb, 0, none⟩) p w1
  have hund := undH hHw p
  have hfl : (fil (d + 1) T p).length ≤ es.length := by rw [fil_root hHw.good.root, hHw.ents]; exact List.length_filter_le _ _
  have HH : Hid (Held w w tb T ne d es) := hHw
  clear h hb1 q0 q1 hHw
  refine (callsIn_wide (n := 8)).1 ?_
  refine callsIn_of_wp_marks Try.func13 rfl trivial ?_ rfl
  refine wpIn_wide.2 ?_
  simp only [Try.ntmps13, List.size_toArray, List.length_cons, List.length_nil, Nat.reduceAdd, Nat.reduceSub, Array.replicate_succ, Array.replicate_zero, List.push_toArray, List.append_toArray, List.nil_append, List.cons_append]
  go_wp2_with fail
  rw [← HW1.out]
  clear HW1 s0
  refine HF.mono ?_
  clear HF
  rintro e w2 ⟨rfl, hw2⟩
  obtain ⟨hb2, hs2, d1, d2⟩ := box_blocks hw2
  have hb02 : Below w.heap.size w w2 := HQ.out.1.trans (hb2.mono HQ.out.1.size)
  have c0 : w2.heap[w.heap.size]? = some (.cells #[.pointer (some ⟨tb, 0, none⟩)] 24) := (hb2.block _ (by omega)).trans HQ.out.2.1
  have c1 : w2.heap[w.heap.size + 1]? = some (.cells #[.int .i64 0] 3) := (hb2.block _ (by omega)).trans HQ.out.2.2
  rw [hs1] at d1 d2 hs2 ⊢
  have hI2 : TrI w tb d es [] 0 w2 := ⟨hb02, c1, tb, T, ne, c0, HH.out.keep hb02, fun _ => rfl⟩
  clear hw2 hb2 c0 c1 HQ
  go_wp2_with fail
  refine (wpIn_wide (n := 8)).1 ?_
  refine range_law (n := 8) (by omega) (gf := 59) (lb := #[.pointer (some ⟨w.heap.size + 2, 0, none⟩), .pointer (some ⟨w.heap.size + 2 + 1, 0, none⟩)]) rfl (enters_of Try.func59 (by kernel_rfl) rfl)
    (under_seq w tb T ne d HH.out.tin p (Nat.le_trans hp (by decide)) (fun b => b = w.heap.size) (w.heap.size + 2) (w.heap.size + 2 + 1) w2 hb02 (fun b h => by omega) d1 d2 (fun h => by omega)) (fun h1 h2 => h1.trans h2) (kp_put hb02.size) (Below.refl _ _) (fun _ => rfl)
    (fun pre W => TrI w tb d es (pre.map (·.1.1)) pre.length W)
    (fun _ _ _ => False) ?hI (fun _ _ _ _ _ h _ _ => h) ?h0 ?a1 ?assign ?body ?done ?stop
  case assign =>
    intro l' m x W' K hK
    dsimp only [encE]
    gi_wp2
    exact hK
  case hI => exact TrI.ownFrom (by omega)
  case h0 => exact hI2
  case body =>
    rintro l' m pre x W' hsz' hI' hlen
    have hxk : x.1.1.size ≤ 140737488351296 := fil_size HH.out.good.tree.tat x.1 (List.mem_filter.1 x.2).1
    obtain ⟨tu, Tu, nu, u1, u2, -⟩ := hI'.u
    have cu : W'.cell? ⟨w.heap.size, 0, none⟩ = some (.pointer (some ⟨tu, 0, none⟩)) := by rw [cell_of_blk u1]; rfl
    have HC := delH_calls tu Tu nu d _ w W' u2 x.1.1 hxk hd
    have HU : Hid (W'.heap[w.heap.size]? = some (.cells #[.pointer (some ⟨tu, 0, none⟩)] 24) ∧ (∃ cs, W'.heap[tu]? = some (.cells cs 69)) ∧ TrI w tb d es (pre.map (·.1.1)) pre.length W') := ⟨u1, ⟨_, u2.good.tree.blk⟩, hI'⟩
    clear hI' u1 u2
    gi_wp2_with fail
    refine ⟨trivial, (fun h => by cases h), ?_⟩
    refine (CallsIn.inRound l' (callsIn_wide.2 HC)).mono ?_
    clear HC
    rintro e w8 ⟨t1, T1, n1, r1, r2, rfl, hb8, hh8⟩
    have b8 := (hb8.block _ (lt_of_heap HU.out.1)).trans HU.out.1
    obtain ⟨tcs, ht⟩ := HU.out.2.1
    have t8 := (hb8.block _ (lt_of_heap ht)).trans ht
    have k8 := (hb8.block _ (lt_of_heap HU.out.2.2.cnt)).trans HU.out.2.2.cnt
    have hh9 := hh8.put (Nat.le_refl _) b8 t8 (.pointer (some ⟨t1, 0, none⟩))
    have k9 : (w8.setCell ⟨w.heap.size, 0, none⟩ (.pointer (some ⟨t1, 0, none⟩))).heap[w.heap.size + 1]? = some (.cells #[.int .i64 (pre.length : Int)] 3) := by
      rw [heap_setCell_other _ _ _ _ (by show w.heap.size + 1 ≠ w.heap.size; omega)]; exact k8
    have hh10 : Held w ((w8.setCell ⟨w.heap.size, 0, none⟩ (.pointer (some ⟨t1, 0, none⟩))).setCell ⟨w.heap.size + 1, 0, none⟩ (.int .i64 ((pre.length : Int) + 1))) t1 T1 n1 d _ :=
      hh9.off (fun b => b = w.heap.size + 1) (hh9.good.below.setCell (p := ⟨w.heap.size + 1, 0, none⟩) (by show w.heap.size ≤ w.heap.size + 1; omega) _) (fun b _ hne => heap_setCell_other _ _ _ _ (fun e => hne e)) (fun b e => by subst e; exact ⟨_, _, k9, fun x hx p => by simp at hx; rw [hx]; simp, by decide, by decide, by decide, by decide⟩)
    have b10 : ((w8.setCell ⟨w.heap.size, 0, none⟩ (.pointer (some ⟨t1, 0, none⟩))).setCell ⟨w.heap.size + 1, 0, none⟩ (.int .i64 ((pre.length : Int) + 1))).heap[w.heap.size]? = some (.cells #[.pointer (some ⟨t1, 0, none⟩)] 24) := by
      rw [heap_setCell_other _ _ _ _ (by show w.heap.size ≠ w.heap.size + 1; omega), setCell_blk b8]; rfl
    have k10 : ((w8.setCell ⟨w.heap.size, 0, none⟩ (.pointer (some ⟨t1, 0, none⟩))).setCell ⟨w.heap.size + 1, 0, none⟩ (.int .i64 ((pre.length : Int) + 1))).heap[w.heap.size + 1]? = some (.cells #[.int .i64 (((pre ++ [x]).length : Nat) : Int)] 3) := by
      rw [setCell_blk k9]; simp
    have hfin : TrI w tb d es ((pre ++ [x]).map (·.1.1)) (pre ++ [x]).length _ := ⟨hh10.good.below, k10, t1, T1, n1, b10, by rw [List.map_append]; show Held w _ t1 T1 n1 d (rmE es (pre.map (·.1.1) ++ [x.1.1])); rw [rmE_snoc]; exact hh10, fun e => by simp at e⟩
    have cu8 : w8.cell? ⟨w.heap.size, 0, none⟩ = some (.pointer (some ⟨tu, 0, none⟩)) := by rw [cell_of_blk b8]; rfl
    have zu8 : w8.frozen? ⟨w.heap.size, 0, none⟩ = false := frozen_of_blk b8
    have ck8 : w8.cell? ⟨w.heap.size + 1, 0, none⟩ = some (.int .i64 (pre.length : Int)) := by rw [cell_of_blk k8]; rfl
    have zk8 : w8.frozen? ⟨w.heap.size + 1, 0, none⟩ = false := frozen_of_blk k8
    have ofB : ∀ {A B : World} (q : Nat), Below A.heap.size A B → KeepsFrom q A B := fun q hb => ⟨hb.size, fun k o _ hk _ => (hb.block _ (lt_of_heap hk)).trans hk⟩
    have HF : Hid (_ ∧ _ ∧ _) := ⟨((ofB w2.heap.size hb8).trans ((KeepsOthers.setCell _ ⟨w.heap.size, 0, none⟩ (.pointer (some ⟨t1, 0, none⟩))).from _)).trans ((KeepsOthers.setCell _ ⟨w.heap.size + 1, 0, none⟩ (.int .i64 ((pre.length : Int) + 1))).from _),
      ((Kp.ofBelow hb8 HU.out.2.2.below.size).trans (kp_box (n₀ := w.heap.size) (X := fun b => b = w.heap.size) (b := w.heap.size) (i := 0) (Nat.le_refl _) rfl (.pointer (some ⟨t1, 0, none⟩)))).trans (kp_store (n₀ := w.heap.size) (i := 0) (Nat.le_succ _) k9 (by unfold KTy; decide) (.int .i64 ((pre.length : Int) + 1))), hfin⟩
    clear hb8 hh8 b8 ht t8 k8 hh9 k9 hh10 b10 k10 hfin HU cu
    gi_wp2_with fail
    exact ⟨HF.out.1, HF.out.2.1, HF.out.2.2⟩
  case done =>
    rintro D xs W' hD hS hI' hK
    have hS' : xs.map (·.1) = es.filter (beg p) := hS.trans hund
    obtain ⟨t1, T1, n1, u1, u2, u3⟩ := hI'.u
    have hks : xs.map (·.1.1) = (es.filter (beg p)).map (·.1) := by rw [← hS', List.map_map]; rfl
    rw [hks, rmE_all HH.out.sorted] at u2
    have hxl : xs.length = (es.filter (beg p)).length := by rw [← hS']; simp
    have cu : W'.cell? ⟨w.heap.size, 0, none⟩ = some (.pointer (some ⟨t1, 0, none⟩)) := by rw [cell_of_blk u1]; rfl
    have ck : W'.cell? ⟨w.heap.size + 1, 0, none⟩ = some (.int .i64 ((es.filter (beg p)).length : Int)) := by rw [cell_of_blk hI'.cnt, hxl]; rfl
    have HZ : Hid (W'.heap[D]? = some (.deferred (some [])) ∧ Below w.heap.size w W' ∧ Held w W' t1 T1 n1 d (leftE p es) ∧ (es.filter (beg p) = [] → t1 = tb)) := ⟨hK, hI'.below, u2, fun e => u3 (by rw [hks, e]; rfl)⟩
    clear hK hI' u1 u2 u3 hS hS' hks hxl
    go_wp2_with fail
    go_quiet (fail)
    go_wp2_with fail
    refine ⟨by simp, .inl ⟨_, _, rfl, run_takeDeferred (w := W'.drewN nq) HZ.out.1, ?_⟩⟩
    have hdr : Below w.heap.size w ((W'.drewN nq).putObj D (.deferred none)) := (below_drewN HZ.out.2.1 nq).grown (grownBy_putObj' _ _ _) (below_drewN HZ.out.2.1 nq).size (fun k e => by cases e; have := hb02.size; omega)
    refine ⟨.tuple #[.pointer (some ⟨t1, 0, none⟩), .int .i64 ((es.filter (beg p)).length : Int)], by simp [results, Try.results13, go_sem], t1, T1, n1, rfl, hdr, ?_, HZ.out.2.2.2⟩
    refine ((HZ.out.2.2.1.keep (drewN_below W' nq)).grown (grownBy_putObj' (W'.drewN nq) D (.deferred none)) (fun r e => ?_))
    cases e
    exact ⟨by have := hb02.size; omega, _, HZ.out.1, rfl⟩
  case stop =>
    rintro D c xs W' _ _ h _
    exact h.elim
end Go.Proofs.Ytnmndjplbcpglaa

/- A slice of whatever elements that a loop over an iterator gathers in its box. -/
namespace Go.Proofs.Ytnmndjplbcpglaa
open Go.RowKit Go.Shelf
set_option linter.unusedVariables false

/-- The slice, made since B, holds the elements l, each of which is sz cells. -/
def OwnG {α : Type} (f : α → List Value) (e : TypeId) (sz : Nat) (W : World) (B : Nat) (v : Value) (l : List α) : Prop := W.ownsRow B e sz v l.length (l.flatMap f)
/-- The slice lies in its box. -/
structure GaI {α : Type} (f : α → List Value) (e t : TypeId) (sz : Nat) (w₀ : World) (bg : Nat) (l : List α) (W : World) : Prop where
  below : Below w₀.heap.size w₀ W
  got : ∃ ao n cap, W.heap[bg]? = some (.cells #[.slice ao n cap] t) ∧ OwnG f e sz W w₀.heap.size (.slice ao n cap) l
theorem GaI.ownFrom {α : Type} {f : α → List Value} {e t : TypeId} {sz : Nat} {w₀ : World} {bg B : Nat} (hB : w₀.heap.size ≤ B) : OwnM B (fun (l : List α) W => GaI f e t sz w₀ bg l W) := fun l A C row hs hg hr => by
  obtain ⟨ao, n, cap, h1, h2⟩ := hs.got
  refine ⟨hs.below.grown hg hs.below.size (fun r e => by have := (hr r e).1; omega), ao, n, cap, heap_kept h1 hg (fun r e => (hr r e).2), World.ownsRow.kept h2 hg ?_⟩
  rcases h2.2 with ⟨h3, _⟩ | ⟨g, cap', cur, h3, _, hgb, _⟩
  · exact .inl (by rw [h3]; rfl)
  · refine .inr fun e' => ?_
    rw [h3] at e'
    obtain ⟨-, o, ho, hc⟩ := hr g (by simpa [Value.ownBlock] using e'.symm)
    rw [hgb] at ho; cases ho; cases hc
/-- What an append and the store back leave. -/
theorem GaI.appended {α : Type} {f : α → List Value} {e t : TypeId} {sz : Nat} (het : e ≠ t) (hk : ∀ ty, KTy ty → ty ≠ e ∧ ty ≠ t) {w₀ W w1 : World} {bg : Nat} {l : List α} {ao : Option Addr} {n cap : Nat} {ao' : Option Addr} {n' cap' : Nat} {x : α} {tmp : Obj} {m : Nat} (hm : m = l.length + 1) (hbg : w₀.heap.size ≤ bg) (hb : Below w₀.heap.size w₀ W) (hbox : W.heap[bg]? = some (.cells #[.slice ao n cap] t)) (hown : OwnG f e sz W w₀.heap.size (.slice ao n cap) l)
    (ho : w1.ownsRow w₀.heap.size e sz (.slice ao' n' cap') m (l.flatMap f ++ f x)) (hg : (W.alloc tmp).grownBy w1 (Value.slice ao n cap).ownBlock) :
    w1.heap[bg]? = some (.cells #[.slice ao n cap] t) ∧ KeepsOthers W (w1.setCell ⟨bg, 0, none⟩ (.slice ao' n' cap')) ∧ Kp w₀.heap.size (fun _ => False) W (w1.setCell ⟨bg, 0, none⟩ (.slice ao' n' cap')) ∧ GaI f e t sz w₀ bg (l ++ [x]) (w1.setCell ⟨bg, 0, none⟩ (.slice ao' n' cap')) := by
  subst hm
  have typed : ∀ r, (Value.slice ao n cap).ownBlock = some r → w₀.heap.size ≤ r ∧ ∃ cs, W.heap[r]? = some (.cells cs e) := fun r hr => ⟨(World.ownsRow.lt hown r hr).1, ownsRow_typed hown r hr⟩
  have kept : ∀ b, b < W.heap.size → some b ≠ (Value.slice ao n cap).ownBlock → w1.heap[b]? = W.heap[b]? := fun b hlt hne => (hg.block b (by simp; omega) hne).trans (Below.heap_alloc _ _ _ hlt)
  have keptT : ∀ (b : Nat) (cs : Array Value) (ty : TypeId), W.heap[b]? = some (.cells cs ty) → ty ≠ e → w1.heap[b]? = some (.cells cs ty) := fun b cs ty hbk hty => (kept b (lt_of_heap hbk) (fun e => by
    obtain ⟨ds, hd⟩ := (typed b e.symm).2
    rw [hbk] at hd
    simp at hd
    exact hty hd.2)).trans hbk
  have box1 := keptT bg _ _ hbox (Ne.symm het)
  have hsz : W.heap.size ≤ w1.heap.size := by have := hg.size; simp at this; omega
  have below1 : Below w₀.heap.size W w1 := ((Below.refl _ W).alloc hb.size tmp).grown hg (by have := hb.size; simp; omega) (fun r e => (typed r e).1)
  refine ⟨box1, ⟨by rw [size_setCell']; exact hsz, fun b o ho' hc => ?_⟩, ⟨below1.setCell (p := ⟨bg, 0, none⟩) hbg _, fun b cs ty hbk hty _ => ?_⟩, (hb.trans below1).setCell (p := ⟨bg, 0, none⟩) hbg _, ao', n', cap', ?_, ?_⟩
  · rw [heap_setCell_other _ _ _ _ (fun e => by
      have e' : b = bg := e
      subst e'
      rw [hbox] at ho'; cases ho'; cases hc)]
    exact (kept b (lt_of_heap ho') (fun e => by
      obtain ⟨ds, hd⟩ := (typed b e.symm).2
      rw [ho'] at hd; cases hd; cases hc)).trans ho'
  · have hne := hk ty hty
    rw [heap_setCell_other _ _ _ _ (fun e => by
      have e' : b = bg := e
      subst e'
      rw [hbox] at hbk
      simp at hbk
      exact hne.2 hbk.2.symm), keptT b cs ty hbk hne.1, hbk]
  · rw [setCell_blk box1]; rfl
  · unfold OwnG
    rw [List.flatMap_append, List.flatMap_singleton, List.length_append]
    refine ownsRow_setCell_other ho (fun e => ?_) _
    exact own_ne (ownsRow_typed ho _ e) box1 het rfl
theorem filAll' {w W : World} {tb : Nat} {T : Tr} {ne : Int} {d : Nat} {es : List En} (h : Held w W tb T ne d es) : fil (d + 1) T ⟨#[]⟩ = es := by
  rw [fil_root h.good.root, h.ents]
  refine filter_all fun e _ => ?_
  unfold notLt
  simp only [Bool.not_eq_true', decide_eq_false_iff_not]
  exact not_lt_nil _
end Go.Proofs.Ytnmndjplbcpglaa

/- Layer 3 (radix): Len, Get. -/
namespace Go.Proofs.Ytnmndjplbcpglaa
open Go.RowKit
set_option linter.unusedVariables false

theorem len_calls (tb : Nat) (t : Tr) (n : Int) (w : World) (h : TreeAt w tb t n) : Calls Try.prog 62 #[.pointer (some ⟨tb, 0, none⟩)] w fun e w' => e = .returned (.int .i64 n) ∧ w' = w := by
  have c1 : w.cell? ⟨tb, 1, none⟩ = some (.int .i64 n) := by rw [cell_of_blk h.blk]; rfl
  clear h
  go_enter Try.func62, Try.ntmps62
  go_wp2
  go_ret
  exact ⟨rfl, rfl⟩

end Go.Proofs.Ytnmndjplbcpglaa
