/- Layer 4 (walk): the walk of WalkLeft. -/
import Derived.Test.YteelgkmkeaiojaaXGot
import Derived.Test.YteelgkmkeaiojaaXLawN
import Derived.Deep.RegionHeld3
namespace Go.Proofs.Yteelgkmkeaiojaa
open Go.RowKit Go.Shelf
set_option linter.unusedVariables false
attribute [local go_sem] Oper.semAt_some

theorem run_store_fn {P : Program} {w : World} (a : Addr) (m : Mode) (f : Fn) (x y : Array Value) : (store a (.func f x y) m).run P w = stored P w a (.func f x y) m := run_store P w a _ m rfl
attribute [local go_sem] run_store_fn

theorem kp_grown {n₀ : Nat} {X : Nat → Prop} {A B : World} {row : Option Nat} (hg : A.grownBy B row) (hr : ∀ r, row = some r → n₀ ≤ r ∧ ∃ o : Obj, A.heap[r]? = some o ∧ o.isCells = false) (hn : n₀ ≤ A.heap.size) : Kp n₀ X A B :=
  ⟨(Below.refl _ A).grown hg hn (fun k e => (hr k e).1), fun b cs ty hbb _ _ => hg.block b (lt_of_heap hbb) (fun e => by
    obtain ⟨-, o, ho, hc⟩ := hr b e.symm
    rw [hbb] at ho; cases ho; cases hc)⟩

theorem TAt.apart {R : Nat → Prop} {w : World} {t : Tr} {nb : Nat} {n : Int} {ty : TypeId} (h : TAt R w t) (hb : w.heap[nb]? = some (.cells #[.int .i64 n] ty)) : TAt (fun b => b = nb) w t := by
  induction h with
  | mk blk kids val wat sub room nil psz ih =>
    refine .mk blk (fun j hj => ?_) val wat ih room nil psz
    obtain ⟨b, off, ha, h0, -⟩ := kids j hj
    refine ⟨b, off, ha, h0, fun e => ?_⟩
    have e' : b = nb := e
    subst e'
    rw [cell_of_blk hb] at h0
    match h1 : off + j with
    | 0 => rw [h1] at h0; cases h0
    | k + 1 => rw [h1] at h0; simp at h0
theorem Tin.poke {w : World} {tb : Nat} {T : Tr} {ne : Int} {d nb : Nat} {n : Int} (h : Tin w tb T ne d) (hb : w.heap[nb]? = some (.cells #[.int .i64 n] 3)) (u : Value) : Tin (w.setCell ⟨nb, 0, none⟩ u) tb T ne d := by
  refine ⟨⟨(heap_setCell_other _ _ _ _ (fun e => ?_)).trans h.tree.blk, ((h.tree.tat.apart hb).poke rfl hb (by decide) (by decide) (by decide) u).less (fun b hb => hb.elim)⟩, h.wf, h.dep, h.root⟩
  have e' : tb = nb := e
  subst e'
  have := hb.symm.trans h.tree.blk
  simp at this

/-- What the law's own boxes hold, with k entries seen. -/
structure LfI (w₀ : World) (tb k : Nat) (W : World) : Prop where
  below : Below w₀.heap.size w₀ W
  t : W.heap[w₀.heap.size]? = some (.cells #[.pointer (some ⟨tb, 0, none⟩)] 24)
  lo : W.heap[w₀.heap.size + 1]? = some (.cells #[.string ⟨#[]⟩] 9)
  all : W.heap[w₀.heap.size + 2]? = some (.cells #[.func (.func 35) #[] #[.pointer (some ⟨w₀.heap.size, 0, none⟩), .pointer (some ⟨w₀.heap.size + 1, 0, none⟩)]] 32)
  seen : W.heap[w₀.heap.size + 3]? = some (.cells #[.int .i64 (k : Int)] 3)
theorem LfI.own {w₀ : World} {tb k B : Nat} (hB : w₀.heap.size ≤ B) {A C : World} {row : Option Nat} (hs : LfI w₀ tb k A) (hg : A.grownBy C row) (hr : ∀ r, row = some r → B ≤ r ∧ ∃ o : Obj, A.heap[r]? = some o ∧ o.isCells = false) : LfI w₀ tb k C :=
  ⟨hs.below.grown hg hs.below.size (fun r e => by have := (hr r e).1; omega), heap_kept hs.t hg (fun r e => (hr r e).2), heap_kept hs.lo hg (fun r e => (hr r e).2), heap_kept hs.all hg (fun r e => (hr r e).2), heap_kept hs.seen hg (fun r e => (hr r e).2)⟩
theorem LfI.more {w₀ : World} {tb k : Nat} {A C : World} (hs : LfI w₀ tb k A) (hb : Below A.heap.size A C) : LfI w₀ tb k C :=
  ⟨hs.below.trans (hb.mono hs.below.size), (hb.block _ (lt_of_heap hs.t)).trans hs.t, (hb.block _ (lt_of_heap hs.lo)).trans hs.lo, (hb.block _ (lt_of_heap hs.all)).trans hs.all, (hb.block _ (lt_of_heap hs.seen)).trans hs.seen⟩
theorem LfI.count {w₀ : World} {tb k j : Nat} {A : World} (hs : LfI w₀ tb k A) : LfI w₀ tb j (A.setCell ⟨w₀.heap.size + 3, 0, none⟩ (.int .i64 (j : Int))) :=
  ⟨hs.below.setCell (p := ⟨w₀.heap.size + 3, 0, none⟩) (by show w₀.heap.size ≤ w₀.heap.size + 3; omega) _, by rw [heap_setCell_other _ _ _ _ (by show w₀.heap.size ≠ w₀.heap.size + 3; omega)]; exact hs.t, by rw [heap_setCell_other _ _ _ _ (by show w₀.heap.size + 1 ≠ w₀.heap.size + 3; omega)]; exact hs.lo, by rw [heap_setCell_other _ _ _ _ (by show w₀.heap.size + 2 ≠ w₀.heap.size + 3; omega)]; exact hs.all, by rw [setCell_blk hs.seen]; rfl⟩
theorem LfI.other {w₀ : World} {tb k b : Nat} {A : World} {u : Value} (hs : LfI w₀ tb k A) (hb : w₀.heap.size + 3 < b) : LfI w₀ tb k (A.setCell ⟨b, 0, none⟩ u) :=
  ⟨hs.below.setCell (p := ⟨b, 0, none⟩) (by show w₀.heap.size ≤ b; omega) _, by rw [heap_setCell_other _ _ _ _ (by show w₀.heap.size ≠ b; omega)]; exact hs.t, by rw [heap_setCell_other _ _ _ _ (by show w₀.heap.size + 1 ≠ b; omega)]; exact hs.lo, by rw [heap_setCell_other _ _ _ _ (by show w₀.heap.size + 2 ≠ b; omega)]; exact hs.all, by rw [heap_setCell_other _ _ _ _ (by show w₀.heap.size + 3 ≠ b; omega)]; exact hs.seen⟩

theorem pre_last {es : List En} {xs : List (El es)} {x : El es} (h : (xs ++ [x]).map (·.1) <+: es) (hl : xs.length < es.length) : x.1.1 = es[xs.length].1 := by
  obtain ⟨r, hr⟩ := h
  have e : ((xs ++ [x]).map (·.1) ++ r)[xs.length]? = some x.1 := by simp
  rw [hr, List.getElem?_eq_getElem hl] at e
  injection e with e
  rw [e]
theorem bytes_inj {a b : ByteArray} (h : a.toList = b.toList) : a = b := by
  rw [ByteArray.toList_eq, ByteArray.toList_eq] at h
  cases a; cases b
  simpa using Array.toList_inj.1 h
theorem results_box {fn : Func} {t : Tmp} {ty : TypeId} {ad : Addr} {v : Value} {tmps : Array Value} {P : Program} {w : World} (h : fn.results = #[.cell t ty]) (ht : tmps.getD t undef = .pointer (some ad)) (hl : (loadVar ty ad).run P w = .ok v w) :
    (results fn tmps).run P w = .ok v w := by
  have ht' : tmps[t]?.getD undef = .pointer (some ad) := by simpa using ht
  simp [results, h, ht', hl, asAddr]

theorem load_bool {w : World} {b : Nat} {v : Value} (h : w.heap[b]? = some (.cells #[v] 4)) : (loadVar 4 ⟨b, 0, none⟩).run Try.prog w = .ok v w := by
  have hc : w.cell? ⟨b, 0, none⟩ = some v := by rw [cell_of_blk h]; rfl
  simp [loadVar, Sem.run_bind, Result.andThen, hc, go_sem]

/-- What stands ahead of the loops. -/
structure LfP (w w₀ : World) (mb tb : Nat) (T : Tr) (ne : Int) (dd : Nat) (es : List En) (d : Dv) (ps : List ByteArray) (nn : Int) : Prop where
  one : 1 ≤ nn
  below : Below w.heap.size w w₀
  tin : Tin w₀ tb T ne dd
  ents : ents (dd + 1) T = es
  m : w₀.heap[mb]? = some (.cells (d.cells es.length ps.length) 28)
  n : w₀.heap[w.heap.size]? = some (.cells #[.int .i64 nn] 3)
  r : w₀.heap[w.heap.size + 1]? = some (.cells #[.bool false] 4)
  key : ∀ i (h : i < es.length), ∃ kb koff, d.k.ao = some ⟨kb, koff, none⟩ ∧ w₀.cell? ⟨kb, koff + i, none⟩ = some (.string es[i].1)

/-! both cases -/
set_option maxRecDepth 100000 in
set_option maxHeartbeats 4000000 in
theorem walkLeft_ge (ao : Option Addr) (cap : Nat) (l : List En) (n : Int) (w : World) (hl : EntsAt w ao l) (hn : l.length ≤ 5864062014634) (hn1 : ¬ n < 1) :
    Calls Try.prog 8 #[.slice ao l.length cap, .int .i64 n] w fun e w' => e = .returned (.bool true) ∧ Below w.heap.size w w' := by
  have hnot : ∀ (x : Bool) (w : World), (Op.unary .not (.bool x)).run Try.prog w = .ok (.bool (!x)) w := fun _ _ => rfl
  have hdl := docOf_len l
  obtain ⟨wa, HWA⟩ : ∃ wa, Hid (wa = (w.alloc (.cells #[.int .i64 n] 3)).alloc (.cells #[.bool false] 4)) := ⟨_, rfl⟩
  have hba : Below w.heap.size w wa := by rw [HWA.out]; exact ((Below.refl _ _).alloc (Nat.le_refl _) _).alloc (by simp [World.size_alloc]) _
  have s0 : (w.alloc (.cells #[.int .i64 n] 3)).heap.size = w.heap.size + 1 := by simp [World.size_alloc]
  have n0 : wa.heap[w.heap.size]? = some (.cells #[.int .i64 n] 3) := by rw [HWA.out, Below.heap_alloc _ _ _ (by omega)]; exact heap_alloc_new _ _
  have r0 : wa.heap[w.heap.size + 1]? = some (.cells #[.bool false] 4) := by rw [HWA.out]; exact new_at s0 _
  have HL : Hid (EntsAt wa ao l) := hl.below hba
  have HBA : Hid (Below w.heap.size w wa ∧ wa.heap[w.heap.size]? = some (.cells #[.int .i64 n] 3) ∧ wa.heap[w.heap.size + 1]? = some (.cells #[.bool false] 4)) := ⟨hba, n0, r0⟩
  clear hl hba n0 r0 s0
  refine (callsIn_wide (n := 8)).1 ?_
  refine callsIn_of_wp_marks Try.func8 rfl trivial ?_ rfl
  refine wpIn_wide.2 ?_
  simp only [Try.ntmps8, List.size_toArray, List.length_cons, List.length_nil, Nat.reduceAdd, Nat.reduceSub, Array.replicate_succ, Array.replicate_zero, List.push_toArray, List.append_toArray, List.nil_append, List.cons_append]
  go_wp2_with fail
  rw [← HWA.out]
  clear HWA
  refine (walkAlive_calls wa).mono ?_
  rintro e w1 ⟨rfl, hb1⟩
  have HB1 : Hid (Below w.heap.size w w1 ∧ w1.heap[w.heap.size]? = some (.cells #[.int .i64 n] 3) ∧ w1.heap[w.heap.size + 1]? = some (.cells #[.bool false] 4)) := ⟨HBA.out.1.trans (hb1.mono HBA.out.1.size), (hb1.block _ (lt_of_heap HBA.out.2.1)).trans HBA.out.2.1, (hb1.block _ (lt_of_heap HBA.out.2.2)).trans HBA.out.2.2⟩
  have HBU := built4_calls ao cap l w1 (HL.out.below hb1) hn
  clear hb1
  go_wp2_with fail
  refine HBU.mono ?_
  clear HBU
  rintro e w2 ⟨tb, T, ne, d, ps, rfl, hH, hD⟩
  have hbw2 : Below w1.heap.size w1 w2 := hH.good.below
  have HB2 : Hid (Below w.heap.size w w2) := HB1.out.1.trans (hbw2.mono HB1.out.1.size)
  have n2 : w2.heap[w.heap.size]? = some (.cells #[.int .i64 n] 3) := (hbw2.block _ (lt_of_heap HB1.out.2.1)).trans HB1.out.2.1
  have r2 : w2.heap[w.heap.size + 1]? = some (.cells #[.bool false] 4) := (hbw2.block _ (lt_of_heap HB1.out.2.2)).trans HB1.out.2.2
  have HH2 : Hid (Held w1 w2 tb T ne l.length (docOf l)) := hH
  have HD2 : Hid (DocAt w2 d (docOf l) ps) := hD
  clear hH hD HB1 hbw2 HBA HL
  obtain ⟨es, hes⟩ : ∃ es, es = docOf l := ⟨_, rfl⟩
  rw [← hes] at HH2 HD2 hdl ⊢
  clear hes
  obtain ⟨w3, HW3⟩ : ∃ w3, Hid (w3 = w2.alloc (.cells (d.cells es.length ps.length) 28)) := ⟨_, rfl⟩
  have hb3 : Below w2.heap.size w2 w3 := by rw [HW3.out]; exact (Below.refl _ _).alloc (Nat.le_refl _) _
  have hs3 : w3.heap.size = w2.heap.size + 1 := by rw [HW3.out]; simp [World.size_alloc]
  have q3 : w3.heap[w2.heap.size]? = some (.cells (d.cells es.length ps.length) 28) := by rw [HW3.out]; exact heap_alloc_new _ _
  have c3 : w3.cell? ⟨w.heap.size, 0, none⟩ = some (.int .i64 n) := by rw [cell_of_blk ((hb3.block _ (lt_of_heap n2)).trans n2)]; rfl
  have z3 : w3.frozen? ⟨w.heap.size, 0, none⟩ = false := frozen_of_blk ((hb3.block _ (lt_of_heap n2)).trans n2)
  have HQ3 : Hid (Below w2.heap.size w2 w3 ∧ w3.heap[w2.heap.size]? = some (.cells (d.cells es.length ps.length) 28) ∧ w2.heap[w.heap.size]? = some (.cells #[.int .i64 n] 3) ∧ w2.heap[w.heap.size + 1]? = some (.cells #[.bool false] 4)) := ⟨hb3, q3, n2, r2⟩
  have hk3 : ∀ i (h : i < es.length), ∃ kb koff, d.k.ao = some ⟨kb, koff, none⟩ ∧ w3.cell? ⟨kb, koff + i, none⟩ = some (.string es[i].1) := fun i hi => by
    obtain ⟨kb, koff, c1, c2⟩ := HD2.out.k.str HD2.out.kk i (by rw [keysOf_len]; exact hi)
    refine ⟨kb, koff, c1, ?_⟩
    rw [hb3.cell (World.block_lt_of_cell? w2 _ c2), c2]; simp [keysOf]
  have hm3 : w2.heap.size ≠ w.heap.size := by have := lt_of_heap n2; omega
  have HP3 : Hid (∀ nn, 1 ≤ nn → n = nn → LfP w w3 w2.heap.size tb T ne l.length es d ps nn) := fun nn h1 e => ⟨h1, HB2.out.trans (hb3.mono HB2.out.size), ⟨HH2.out.tin.tree.keep hb3, HH2.out.tin.wf, HH2.out.tin.dep, HH2.out.tin.root⟩, HH2.out.ents, q3, by rw [← e]; exact (hb3.block _ (lt_of_heap n2)).trans n2, (hb3.block _ (lt_of_heap r2)).trans r2, hk3⟩
  have HP4 : Hid (∀ nn, nn = 1 → LfP w (w3.setCell ⟨w.heap.size, 0, none⟩ (.int .i64 1)) w2.heap.size tb T ne l.length es d ps nn) := fun nn e => by
    have n3 := (hb3.block _ (lt_of_heap n2)).trans n2
    have t3 : Tin w3 tb T ne l.length := ⟨HH2.out.tin.tree.keep hb3, HH2.out.tin.wf, HH2.out.tin.dep, HH2.out.tin.root⟩
    refine ⟨by omega, (HB2.out.trans (hb3.mono HB2.out.size)).setCell (p := ⟨w.heap.size, 0, none⟩) (Nat.le_refl _) _, t3.poke n3 _, HH2.out.ents, by rw [heap_setCell_other _ _ _ _ hm3]; exact q3, by rw [setCell_blk n3, e]; rfl, by rw [heap_setCell_other _ _ _ _ (by show w.heap.size + 1 ≠ w.heap.size; omega)]; exact (hb3.block _ (lt_of_heap r2)).trans r2, fun i hi => ?_⟩
    obtain ⟨kb, koff, c1, c2⟩ := hk3 i hi
    refine ⟨kb, koff, c1, ?_⟩
    rw [World.cell?_setCell_other _ _ _ _ (fun e => ?_)]; exact c2
    have e' : kb = w.heap.size := by simpa using (congrArg Addr.block e).symm
    have e2 : koff + i = 0 := by simpa using (congrArg Addr.off e).symm
    subst e'
    rw [e2, cell_of_blk n3] at c2
    cases c2
  clear hb3 q3 n2 r2 hk3 HD2 HH2 HB2 hm3
  unfold Dv.cells
  unfold Dv.cells at HW3
  go_upto_region 6 with fail
  rw [← HW3.out]
  clear HW3
  go_upto_region 8 with fail
  obtain ⟨nn, hnn⟩ : ∃ nn : Int, n = nn := ⟨_, rfl⟩
  obtain ⟨w4, HW4⟩ : ∃ w4, Hid (w4 = w3) := ⟨_, rfl⟩
  have HP : Hid (LfP w w4 w2.heap.size tb T ne l.length es d ps nn) := by rw [HW4.out]; exact HP3.out nn (by omega) hnn
  rw [← HW4.out]
  clear HW4 HP3 HP4 HQ3 c3 z3 hs3 hnn hn1
  have HA := all_calls (some ⟨tb, 0, none⟩) w4
  have hef := eql_seq
  go_wp2_with fail
  refine HA.mono ?_
  clear HA
  rintro e w5 ⟨rfl, hw5⟩
  obtain ⟨hb5, hs5, d1, d2⟩ := from_boxes hw5
  have t5 : w5.heap[w4.heap.size]? = some (.cells #[.pointer (some ⟨tb, 0, none⟩)] 24) := by rw [hw5, Below.heap_alloc _ _ _ (by simp [World.size_alloc])]; exact heap_alloc_new _ _
  have l5 : w5.heap[w4.heap.size + 1]? = some (.cells #[.string ⟨#[]⟩] 9) := by rw [hw5]; exact new_at (by simp [World.size_alloc]) _
  obtain ⟨w6, HW6⟩ : ∃ w6, Hid (w6 = (w5.alloc (.cells #[.func (.func 35) #[] #[.pointer (some ⟨w4.heap.size, 0, none⟩), .pointer (some ⟨w4.heap.size + 1, 0, none⟩)]] 32)).alloc (.cells #[.int .i64 0] 3)) := ⟨_, rfl⟩
  have hb6 : Below w5.heap.size w5 w6 := by rw [HW6.out]; exact ((Below.refl _ _).alloc (Nat.le_refl _) _).alloc (by simp [World.size_alloc]) _
  have HI6 : Hid (LfI w4 tb 0 w6) := ⟨hb5.trans (hb6.mono hb5.size), (hb6.block _ (lt_of_heap t5)).trans t5, (hb6.block _ (lt_of_heap l5)).trans l5, by rw [HW6.out, Below.heap_alloc _ _ _ (by simp [World.size_alloc]; omega)]; exact new_at hs5 _, by rw [HW6.out]; exact new_at (by simp [World.size_alloc]; omega) _⟩
  have hs6 : w6.heap.size = w4.heap.size + 4 := by rw [HW6.out]; simp [World.size_alloc]; omega
  have HS : Hid (w5.heap.size = w4.heap.size + 2 ∧ w6.heap.size = w4.heap.size + 4) := ⟨hs5, hs6⟩
  clear hw5 hb5 d1 d2 t5 l5 hb6 hs5 hs6
  go_wp2_with fail
  rw [← HW6.out]
  clear HW6
  rw [HS.out.1]
  have hF : fil (l.length + 1) T ⟨#[]⟩ = es := (fil_all HP.out.tin.root).trans HP.out.ents
  have HSEQ : Hid (∀ (k : Nat) (W : World), LfI w4 tb k W → SeqY (Kp w4.heap.size (fun _ => False)) 35 #[.pointer (some ⟨w4.heap.size, 0, none⟩), .pointer (some ⟨w4.heap.size + 1, 0, none⟩)] (encE es) (fun ys => ys.map (·.1) = es) (fun ys => ys.map (·.1) <+: es) es.length W) := fun k W h => by
    have := from_seq w4 tb T ne l.length HP.out.tin ⟨#[]⟩ (by decide) (fun _ => False) w4.heap.size (w4.heap.size + 1) W h.below (fun b h => h.elim) (by rw [cell_of_blk h.t]; rfl) (by rw [cell_of_blk h.lo]; rfl)
    rw [hF] at this
    exact this
  clear hF
  refine (wpIn_wide (n := 8)).1 ?_
  refine range_lawH (n := 8) (by omega) (gf := 35) (lb := #[.pointer (some ⟨w4.heap.size, 0, none⟩), .pointer (some ⟨w4.heap.size + 1, 0, none⟩)]) rfl (enters_of Try.func35 (by kernel_rfl) rfl)
    (HSEQ.out 0 w6 HI6.out) (fun h1 h2 => h1.trans h2) (kp_put HI6.out.below.size) (Below.refl _ _) (fun _ => rfl)
    (fun pre W => LfI w4 tb pre.length W ∧ (pre.length : Int) < nn)
    (fun c xs W => ¬ (xs.map (·.1) <+: es) ∨ (c = .exit 0 ∧ LfI w4 tb xs.length W ∧ (xs.length : Int) = nn)) ?hI ?hIx ?h0 ?a1 ?assign ?body ?done ?stop
  case assign =>
    intro l' m x W' K hK
    dsimp only [encE]
    gi_wp2
    exact hK
  case hI =>
    intro pre A C row hs hg hr
    exact ⟨hs.1.own HI6.out.below.size hg hr, hs.2⟩
  case hIx =>
    intro c xs A C row hs hg hr
    exact hs.imp id fun h => ⟨h.1, h.2.1.own HI6.out.below.size hg hr, h.2.2⟩
  case h0 => exact ⟨HI6.out, by have := HP.out.one; simp; omega⟩
  case body =>
    rintro l' m pre x W' hsz' hl' ⟨r0, hr0⟩ ⟨hI', hnn⟩ hlen
    have cs : W'.cell? ⟨w4.heap.size + 2 + 1, 0, none⟩ = some (.int .i64 (pre.length : Int)) := by rw [cell_of_blk hI'.seen]; rfl
    have cz : W'.frozen? ⟨w4.heap.size + 2 + 1, 0, none⟩ = false := frozen_of_blk hI'.seen
    have cm : W'.cell? ⟨w2.heap.size, 0, none⟩ = some (.slice d.k.ao es.length d.k.cap) := by rw [cell_of_blk ((hI'.below.block _ (lt_of_heap HP.out.m)).trans HP.out.m)]; rfl
    have hrb := (hI'.below.block _ (lt_of_heap HP.out.r)).trans HP.out.r
    have cr : W'.cell? ⟨w.heap.size + 1, 0, none⟩ = some (.bool false) := by rw [cell_of_blk hrb]; rfl
    have zr : W'.frozen? ⟨w.heap.size + 1, 0, none⟩ = false := frozen_of_blk hrb
    obtain ⟨kb, koff, k1, k2⟩ := HP.out.key pre.length hlen
    have ck : W'.cell? ⟨kb, koff + pre.length, none⟩ = some (.string es[pre.length].1) := by rw [hI'.below.cell (World.block_lt_of_cell? w4 _ k2)]; exact k2
    rw [k1] at cm
    have i1 : (0 : Int) ≤ (pre.length : Int) ∧ (pre.length : Int) < (es.length : Int) := by omega
    obtain ⟨key, hkey⟩ : ∃ key, key = es[pre.length].1 := ⟨_, rfl⟩
    rw [← hkey] at ck
    have HKEY : Hid (key = es[pre.length].1) := hkey
    clear hkey
    have hsz6 := HS.out.2
    by_cases hk : x.1.1 = key
    · obtain ⟨w7, HW7⟩ : ∃ w7, Hid (w7 = (W'.setCell ⟨w4.heap.size + 2 + 1, 0, none⟩ (.int .i64 ((pre.length : Int) + 1))).alloc (.cells #[.int .i64 0] 3)) := ⟨_, rfl⟩
      have hW7 := HW7.out
      have I1 : LfI w4 tb (pre.length + 1) (W'.setCell ⟨w4.heap.size + 2 + 1, 0, none⟩ (.int .i64 ((pre.length : Int) + 1))) := by
        have := hI'.count (j := pre.length + 1)
        rw [show ((pre.length + 1 : Nat) : Int) = (pre.length : Int) + 1 by omega] at this
        exact this
      have b1 : Below (W'.setCell ⟨w4.heap.size + 2 + 1, 0, none⟩ (.int .i64 ((pre.length : Int) + 1))).heap.size (W'.setCell ⟨w4.heap.size + 2 + 1, 0, none⟩ (.int .i64 ((pre.length : Int) + 1))) w7 := by rw [hW7]; exact (Below.refl _ _).alloc (Nat.le_refl _) _
      have I7 : LfI w4 tb (pre.length + 1) w7 := I1.more b1
      have s1 : (W'.setCell ⟨w4.heap.size + 2 + 1, 0, none⟩ (.int .i64 ((pre.length : Int) + 1))).heap.size = W'.heap.size := by simp
      have s7 : w7.heap.size = W'.heap.size + 1 := by rw [hW7]; simp [World.size_alloc]
      have q7 : w7.heap[W'.heap.size]? = some (.cells #[.int .i64 0] 3) := by rw [hW7]; exact new_at s1 _
      have kf7 : KeepsFrom w6.heap.size W' w7 := ((KeepsOthers.setCell _ _ _).from _).trans ⟨by rw [hW7]; simp [World.size_alloc], fun k o _ ho _ => (b1.block k (lt_of_heap ho)).trans ho⟩
      have kp7 : Kp w4.heap.size (fun _ => False) W' w7 := (kp_store (by omega) hI'.seen (by unfold KTy; decide) _).trans (Kp.ofBelow b1 (by rw [s1]; omega))
      have r7 : w7.heap[l']? = some (.loop r0) := kf7.same l' _ hl' hr0 rfl
      have ca : ((W'.setCell ⟨w4.heap.size + 2 + 1, 0, none⟩ (.int .i64 ((pre.length : Int) + 1))).alloc (.cells #[.int .i64 0] 3)).cell? ⟨w4.heap.size + 2, 0, none⟩ = some (.func (.func 35) #[] #[.pointer (some ⟨w4.heap.size, 0, none⟩), .pointer (some ⟨w4.heap.size + 1, 0, none⟩)]) := by rw [← hW7, cell_of_blk I7.all]; rfl
      have HI7 : Hid (LfI w4 tb (pre.length + 1) w7 ∧ w7.heap.size = W'.heap.size + 1 ∧ w7.heap[W'.heap.size]? = some (.cells #[.int .i64 0] 3) ∧ KeepsFrom w6.heap.size W' w7 ∧ Kp w4.heap.size (fun _ => False) W' w7 ∧ w7.heap[l']? = some (.loop r0)) := ⟨I7, s7, q7, kf7, kp7, r7⟩
      clear hI' I1 b1 I7 s1 s7 q7 kf7 kp7 r7 hW7 hrb k1 k2 hsz6
      rw [hk]
      gi_wp2
      rw [← HW7.out]
      clear HW7 ca cs cz cm cr zr ck
      refine range_lawN HI7.out.2.2.2.2.2 (gf := 35) (lb := #[.pointer (some ⟨w4.heap.size, 0, none⟩), .pointer (some ⟨w4.heap.size + 1, 0, none⟩)]) rfl (enters_of Try.func35 (by kernel_rfl) rfl)
        (HSEQ.out _ w7 HI7.out.1) (fun h1 h2 => h1.trans h2) (kp_put HI7.out.1.below.size) (Below.refl _ _) (fun _ => rfl)
        (fun ys W => LfI w4 tb (pre.length + 1) W ∧ W.heap[W'.heap.size]? = some (.cells #[.int .i64 (ys.length : Int)] 3) ∧ Kp w4.heap.size (fun _ => False) W' W ∧ KeepsFrom w6.heap.size W' W ∧ ys.length < 3)
        (fun c ys W => ¬ (ys.map (·.1) <+: es) ∨ (c = .exit 2 ∧ LfI w4 tb (pre.length + 1) W ∧ W.heap[W'.heap.size]? = some (.cells #[.int .i64 (ys.length : Int)] 3) ∧ Kp w4.heap.size (fun _ => False) W' W ∧ KeepsFrom w6.heap.size W' W ∧ ys.length = 3)) ?hI2 ?hIx2 ?h02 ?a12 ?assign2 ?body2 ?done2 ?stop2
      case assign2 =>
        intro l2 m2 y W2 K hK
        dsimp only [encE]
        gi_wp2
        exact hK
      case hI2 =>
        intro ys A C row hs hg hr
        have hz := HI7.out.2.1
        exact ⟨hs.1.own HI7.out.1.below.size hg hr, heap_kept hs.2.1 hg (fun r e => (hr r e).2), hs.2.2.1.trans (kp_grown hg (fun r e => ⟨by have := (hr r e).1; have := HI7.out.1.below.size; omega, (hr r e).2⟩) hs.1.below.size), ownFrom_keepsFrom (β := Unit) (B' := w7.heap.size) (by omega) () A C row hs.2.2.2.1 hg hr, hs.2.2.2.2⟩
      case hIx2 =>
        intro c ys A C row hs hg hr
        have hz := HI7.out.2.1
        exact hs.imp id fun hs => ⟨hs.1, hs.2.1.own HI7.out.1.below.size hg hr, heap_kept hs.2.2.1 hg (fun r e => (hr r e).2), hs.2.2.2.1.trans (kp_grown hg (fun r e => ⟨by have := (hr r e).1; have := HI7.out.1.below.size; omega, (hr r e).2⟩) hs.2.1.below.size), ownFrom_keepsFrom (β := Unit) (B' := w7.heap.size) (by omega) () A C row hs.2.2.2.2.1 hg hr, hs.2.2.2.2.2⟩
      case h02 => exact ⟨HI7.out.1, HI7.out.2.2.1, HI7.out.2.2.2.2.1, HI7.out.2.2.2.1, by simp⟩
      case body2 =>
        rintro l2 m2 ys y W2 hsz2 ⟨j1, j2, j3, j4, j5⟩ hlen2
        have hz7 := HI7.out.2.1
        have hsz6 := HS.out.2
        have cs2 : W2.cell? ⟨W'.heap.size, 0, none⟩ = some (.int .i64 (ys.length : Int)) := by rw [cell_of_blk j2]; rfl
        have cz2 : W2.frozen? ⟨W'.heap.size, 0, none⟩ = false := frozen_of_blk j2
        have cm2 : W2.cell? ⟨w2.heap.size, 0, none⟩ = some (.slice d.k.ao es.length d.k.cap) := by rw [cell_of_blk ((j1.below.block _ (lt_of_heap HP.out.m)).trans HP.out.m)]; rfl
        have hrb2 := (j1.below.block _ (lt_of_heap HP.out.r)).trans HP.out.r
        have cr2 : W2.cell? ⟨w.heap.size + 1, 0, none⟩ = some (.bool false) := by rw [cell_of_blk hrb2]; rfl
        have zr2 : W2.frozen? ⟨w.heap.size + 1, 0, none⟩ = false := frozen_of_blk hrb2
        obtain ⟨kb2, koff2, k3, k4⟩ := HP.out.key ys.length hlen2
        have ck2 : W2.cell? ⟨kb2, koff2 + ys.length, none⟩ = some (.string es[ys.length].1) := by rw [j1.below.cell (World.block_lt_of_cell? w4 _ k4)]; exact k4
        rw [k3] at cm2
        have i2 : (0 : Int) ≤ (ys.length : Int) ∧ (ys.length : Int) < (es.length : Int) := by omega
        obtain ⟨key2, hkey2⟩ : ∃ key, key = es[ys.length].1 := ⟨_, rfl⟩
        rw [← hkey2] at ck2
        have HKEY2 : Hid (key2 = es[ys.length].1) := hkey2
        clear hkey2
        have hyl : (ys ++ [y]).length = ys.length + 1 := by simp
        have B3 : (W2.setCell ⟨W'.heap.size, 0, none⟩ (.int .i64 ((ys.length : Int) + 1))).heap[W'.heap.size]? = some (.cells #[.int .i64 ((ys ++ [y]).length : Int)] 3) := by rw [setCell_blk j2]; simp
        have HB3 : Hid (_ ∧ _ ∧ _ ∧ _ ∧ _ ∧ _) := ⟨(KeepsOthers.setCell W2 ⟨W'.heap.size, 0, none⟩ (.int .i64 ((ys.length : Int) + 1))).from w7.heap.size, kp_store (n₀ := w4.heap.size) (X := fun _ => False) (i := 0) (by omega) j2 (by unfold KTy; decide) (.int .i64 ((ys.length : Int) + 1)), j1.other (b := W'.heap.size) (u := .int .i64 ((ys.length : Int) + 1)) (by omega), B3, j3.trans (kp_store (i := 0) (by omega) j2 (by unfold KTy; decide) (.int .i64 ((ys.length : Int) + 1))), j4.trans ((KeepsOthers.setCell W2 ⟨W'.heap.size, 0, none⟩ (.int .i64 ((ys.length : Int) + 1))).from _)⟩
        clear j1 j2 j3 j4 k3 k4 hrb2 B3 hz7 hsz6
        by_cases hk2 : y.1.1 = key2
        · rw [hk2]
          by_cases h3 : (3 : Int) ≤ (ys.length : Int) + 1
          · gi_wp2
            exact ⟨HB3.out.1, .inr ⟨rfl, HB3.out.2.2.1, HB3.out.2.2.2.1, HB3.out.2.2.2.2.1, HB3.out.2.2.2.2.2, by rw [hyl]; omega⟩⟩
          · gi_wp2
            exact ⟨HB3.out.1, HB3.out.2.1, HB3.out.2.2.1, HB3.out.2.2.2.1, HB3.out.2.2.2.2.1, HB3.out.2.2.2.2.2, by rw [hyl]; omega⟩
        · have hkl2 : (y.1.1.toList == key2.toList) = false := by
            rw [beq_eq_false_iff_ne]
            intro e
            exact hk2 (bytes_inj e)
          gi_wp2
          refine ⟨(KeepsOthers.setCell _ _ _).from _, .inl fun h => hk2 ?_⟩
          rw [HKEY2.out]
          exact pre_last h hlen2
      case done2 =>
        rintro ys W2 hS ⟨j1, j2, j3, j4, j5⟩
        have hy : ys.length ≠ 0 := by have := congrArg List.length hS; simp at this; omega
        have cs2 : W2.cell? ⟨W'.heap.size, 0, none⟩ = some (.int .i64 (ys.length : Int)) := by rw [cell_of_blk j2]; rfl
        have hy' : ((ys.length : Int) == 0) = false := by rw [beq_eq_false_iff_ne]; omega
        have ce2 : W2.cell? ⟨w4.heap.size + 2 + 1, 0, none⟩ = some (.int .i64 ((pre.length : Int) + 1)) := by rw [cell_of_blk j1.seen]; simp
        have cn2 : W2.cell? ⟨w.heap.size, 0, none⟩ = some (.int .i64 nn) := by rw [cell_of_blk ((j1.below.block _ (lt_of_heap HP.out.n)).trans HP.out.n)]; rfl
        have HB : Hid (LfI w4 tb (pre ++ [x]).length W2 ∧ Kp w4.heap.size (fun _ => False) W' W2 ∧ KeepsFrom w6.heap.size W' W2) := ⟨by simpa using j1, j3, j4⟩
        have hpx : (pre ++ [x]).length = pre.length + 1 := by simp
        clear j1 j2 j3 j4
        by_cases hge : nn ≤ (pre.length : Int) + 1
        · gi_wp2
          exact ⟨HB.out.2.2, .inr ⟨rfl, HB.out.1, by rw [hpx]; omega⟩⟩
        · gi_wp2
          exact ⟨HB.out.2.2, HB.out.2.1, HB.out.1, by rw [hpx]; omega⟩
      case stop2 =>
        rintro c ys W2 hSp (h | ⟨rfl, j1, j2, j3, j4, j5⟩)
        · exact absurd hSp h
        have hy : ys.length ≠ 0 := by omega
        have cs2 : W2.cell? ⟨W'.heap.size, 0, none⟩ = some (.int .i64 (ys.length : Int)) := by rw [cell_of_blk j2]; rfl
        have hy' : ((ys.length : Int) == 0) = false := by rw [beq_eq_false_iff_ne]; omega
        have ce2 : W2.cell? ⟨w4.heap.size + 2 + 1, 0, none⟩ = some (.int .i64 ((pre.length : Int) + 1)) := by rw [cell_of_blk j1.seen]; simp
        have cn2 : W2.cell? ⟨w.heap.size, 0, none⟩ = some (.int .i64 nn) := by rw [cell_of_blk ((j1.below.block _ (lt_of_heap HP.out.n)).trans HP.out.n)]; rfl
        have HB : Hid (LfI w4 tb (pre ++ [x]).length W2 ∧ Kp w4.heap.size (fun _ => False) W' W2 ∧ KeepsFrom w6.heap.size W' W2) := ⟨by simpa using j1, j3, j4⟩
        have hpx : (pre ++ [x]).length = pre.length + 1 := by simp
        clear j1 j2 j3 j4
        by_cases hge : nn ≤ (pre.length : Int) + 1
        · gi_wp2
          exact ⟨HB.out.2.2, .inr ⟨rfl, HB.out.1, by rw [hpx]; omega⟩⟩
        · gi_wp2
          exact ⟨HB.out.2.2, HB.out.2.1, HB.out.1, by rw [hpx]; omega⟩
    · clear hsz6
      have hkl : (x.1.1.toList == key.toList) = false := by
        rw [beq_eq_false_iff_ne]
        intro e
        exact hk (bytes_inj e)
      gi_wp2
      refine ⟨(KeepsOthers.setCell _ _ _).from _, .inl fun h => hk ?_⟩
      rw [HKEY.out]
      exact pre_last h hlen
  case done =>
    rintro D xs W3 hD hS ⟨j1, hlt⟩ hK
    have hx : xs.length = es.length := by have := congrArg List.length hS; simpa using this
    have ce3 : W3.cell? ⟨w4.heap.size + 2 + 1, 0, none⟩ = some (.int .i64 (xs.length : Int)) := by rw [cell_of_blk j1.seen]; rfl
    have cn3 : W3.cell? ⟨w.heap.size, 0, none⟩ = some (.int .i64 nn) := by rw [cell_of_blk ((j1.below.block _ (lt_of_heap HP.out.n)).trans HP.out.n)]; rfl
    have cm3 : W3.cell? ⟨w2.heap.size, 0, none⟩ = some (.slice d.k.ao es.length d.k.cap) := by rw [cell_of_blk ((j1.below.block _ (lt_of_heap HP.out.m)).trans HP.out.m)]; rfl
    have hrb3 := (j1.below.block _ (lt_of_heap HP.out.r)).trans HP.out.r
    have cr3 : W3.cell? ⟨w.heap.size + 1, 0, none⟩ = some (.bool false) := by rw [cell_of_blk hrb3]; rfl
    have zr3 : W3.frozen? ⟨w.heap.size + 1, 0, none⟩ = false := frozen_of_blk hrb3
    have hK3 : (W3.setCell ⟨w.heap.size + 1, 0, none⟩ (.bool true)).heap[D]? = some (.deferred (some [])) := by
      rw [heap_setCell_other _ _ _ _ (by show D ≠ w.heap.size + 1; have := lt_of_heap HP.out.r; have := HI6.out.below.size; omega)]; exact hK
    have hv3 : ((W3.setCell ⟨w.heap.size + 1, 0, none⟩ (.bool true)).putObj D (.deferred none)).heap[w.heap.size + 1]? = some (.cells #[.bool true] 4) := by
      rw [World.putObj_heap_other (by have := lt_of_heap HP.out.r; have := HI6.out.below.size; omega), setCell_blk hrb3]; rfl
    have hbz : Below w.heap.size w (W3.setCell ⟨w.heap.size + 1, 0, none⟩ (.bool true)) := (HP.out.below.trans (j1.below.mono HP.out.below.size)).setCell (p := ⟨w.heap.size + 1, 0, none⟩) (by show w.heap.size ≤ w.heap.size + 1; omega) _
    have HZ : Hid (_ ∧ _ ∧ _) := ⟨hK3, hv3, hbz.grown (grownBy_putObj' _ D (.deferred none)) hbz.size (fun k e => by cases e; have := HP.out.below.size; have := HI6.out.below.size; omega)⟩
    clear hrb3 hK3 hv3 hbz hK hD
    clear j1 hS
    have q1 : ¬ (nn < (es.length : Int)) := by omega
    rw [hx] at ce3
    go_wp2_with fail
    all_goals (
      refine ⟨by simp, .inl ⟨_, _, rfl, run_takeDeferred HZ.out.1, ?_⟩⟩
      refine ⟨_, results_box rfl rfl (load_bool HZ.out.2.1), rfl, HZ.out.2.2⟩)
  case stop =>
    rintro D c xs W3 hD hSp (h | ⟨rfl, j1, hlt⟩) hK
    · exact absurd hSp h
    have hx : xs.length ≤ es.length := by have := hSp.length_le; simpa using this
    have ce3 : W3.cell? ⟨w4.heap.size + 2 + 1, 0, none⟩ = some (.int .i64 (xs.length : Int)) := by rw [cell_of_blk j1.seen]; rfl
    have cn3 : W3.cell? ⟨w.heap.size, 0, none⟩ = some (.int .i64 nn) := by rw [cell_of_blk ((j1.below.block _ (lt_of_heap HP.out.n)).trans HP.out.n)]; rfl
    have cm3 : W3.cell? ⟨w2.heap.size, 0, none⟩ = some (.slice d.k.ao es.length d.k.cap) := by rw [cell_of_blk ((j1.below.block _ (lt_of_heap HP.out.m)).trans HP.out.m)]; rfl
    have hrb3 := (j1.below.block _ (lt_of_heap HP.out.r)).trans HP.out.r
    have cr3 : W3.cell? ⟨w.heap.size + 1, 0, none⟩ = some (.bool false) := by rw [cell_of_blk hrb3]; rfl
    have zr3 : W3.frozen? ⟨w.heap.size + 1, 0, none⟩ = false := frozen_of_blk hrb3
    have hK3 : (W3.setCell ⟨w.heap.size + 1, 0, none⟩ (.bool true)).heap[D]? = some (.deferred (some [])) := by
      rw [heap_setCell_other _ _ _ _ (by show D ≠ w.heap.size + 1; have := lt_of_heap HP.out.r; have := HI6.out.below.size; omega)]; exact hK
    have hv3 : ((W3.setCell ⟨w.heap.size + 1, 0, none⟩ (.bool true)).putObj D (.deferred none)).heap[w.heap.size + 1]? = some (.cells #[.bool true] 4) := by
      rw [World.putObj_heap_other (by have := lt_of_heap HP.out.r; have := HI6.out.below.size; omega), setCell_blk hrb3]; rfl
    have hbz : Below w.heap.size w (W3.setCell ⟨w.heap.size + 1, 0, none⟩ (.bool true)) := (HP.out.below.trans (j1.below.mono HP.out.below.size)).setCell (p := ⟨w.heap.size + 1, 0, none⟩) (by show w.heap.size ≤ w.heap.size + 1; omega) _
    have HZ : Hid (_ ∧ _ ∧ _) := ⟨hK3, hv3, hbz.grown (grownBy_putObj' _ D (.deferred none)) hbz.size (fun k e => by cases e; have := HP.out.below.size; have := HI6.out.below.size; omega)⟩
    clear hrb3 hK3 hv3 hbz hK hD
    clear j1 hSp
    refine wpIn_wide.2 ?_
    rw [hlt] at ce3
    by_cases q1 : nn < (es.length : Int)
    · go_wp2_with fail
      all_goals (
        refine ⟨by simp, .inl ⟨_, _, rfl, run_takeDeferred HZ.out.1, ?_⟩⟩
        refine ⟨_, results_box rfl rfl (load_bool HZ.out.2.1), rfl, HZ.out.2.2⟩)
    · have q2 : nn = (es.length : Int) := by omega
      rw [q2] at ce3
      go_wp2_with fail
      all_goals (
        refine ⟨by simp, .inl ⟨_, _, rfl, run_takeDeferred HZ.out.1, ?_⟩⟩
        refine ⟨_, results_box rfl rfl (load_bool HZ.out.2.1), rfl, HZ.out.2.2⟩)
set_option maxRecDepth 100000 in
set_option maxHeartbeats 4000000 in
theorem walkLeft_lt (ao : Option Addr) (cap : Nat) (l : List En) (n : Int) (w : World) (hl : EntsAt w ao l) (hn : l.length ≤ 5864062014634) (hn1 : n < 1) :
    Calls Try.prog 8 #[.slice ao l.length cap, .int .i64 n] w fun e w' => e = .returned (.bool true) ∧ Below w.heap.size w w' := by
  have hnot : ∀ (x : Bool) (w : World), (Op.unary .not (.bool x)).run Try.prog w = .ok (.bool (!x)) w := fun _ _ => rfl
  have hdl := docOf_len l
  obtain ⟨wa, HWA⟩ : ∃ wa, Hid (wa = (w.alloc (.cells #[.int .i64 n] 3)).alloc (.cells #[.bool false] 4)) := ⟨_, rfl⟩
  have hba : Below w.heap.size w wa := by rw [HWA.out]; exact ((Below.refl _ _).alloc (Nat.le_refl _) _).alloc (by simp [World.size_alloc]) _
  have s0 : (w.alloc (.cells #[.int .i64 n] 3)).heap.size = w.heap.size + 1 := by simp [World.size_alloc]
  have n0 : wa.heap[w.heap.size]? = some (.cells #[.int .i64 n] 3) := by rw [HWA.out, Below.heap_alloc _ _ _ (by omega)]; exact heap_alloc_new _ _
  have r0 : wa.heap[w.heap.size + 1]? = some (.cells #[.bool false] 4) := by rw [HWA.out]; exact new_at s0 _
  have HL : Hid (EntsAt wa ao l) := hl.below hba
  have HBA : Hid (Below w.heap.size w wa ∧ wa.heap[w.heap.size]? = some (.cells #[.int .i64 n] 3) ∧ wa.heap[w.heap.size + 1]? = some (.cells #[.bool false] 4)) := ⟨hba, n0, r0⟩
  clear hl hba n0 r0 s0
  refine (callsIn_wide (n := 8)).1 ?_
  refine callsIn_of_wp_marks Try.func8 rfl trivial ?_ rfl
  refine wpIn_wide.2 ?_
  simp only [Try.ntmps8, List.size_toArray, List.length_cons, List.length_nil, Nat.reduceAdd, Nat.reduceSub, Array.replicate_succ, Array.replicate_zero, List.push_toArray, List.append_toArray, List.nil_append, List.cons_append]
  go_wp2_with fail
  rw [← HWA.out]
  clear HWA
  refine (walkAlive_calls wa).mono ?_
  rintro e w1 ⟨rfl, hb1⟩
  have HB1 : Hid (Below w.heap.size w w1 ∧ w1.heap[w.heap.size]? = some (.cells #[.int .i64 n] 3) ∧ w1.heap[w.heap.size + 1]? = some (.cells #[.bool false] 4)) := ⟨HBA.out.1.trans (hb1.mono HBA.out.1.size), (hb1.block _ (lt_of_heap HBA.out.2.1)).trans HBA.out.2.1, (hb1.block _ (lt_of_heap HBA.out.2.2)).trans HBA.out.2.2⟩
  have HBU := built4_calls ao cap l w1 (HL.out.below hb1) hn
  clear hb1
  go_wp2_with fail
  refine HBU.mono ?_
  clear HBU
  rintro e w2 ⟨tb, T, ne, d, ps, rfl, hH, hD⟩
  have hbw2 : Below w1.heap.size w1 w2 := hH.good.below
  have HB2 : Hid (Below w.heap.size w w2) := HB1.out.1.trans (hbw2.mono HB1.out.1.size)
  have n2 : w2.heap[w.heap.size]? = some (.cells #[.int .i64 n] 3) := (hbw2.block _ (lt_of_heap HB1.out.2.1)).trans HB1.out.2.1
  have r2 : w2.heap[w.heap.size + 1]? = some (.cells #[.bool false] 4) := (hbw2.block _ (lt_of_heap HB1.out.2.2)).trans HB1.out.2.2
  have HH2 : Hid (Held w1 w2 tb T ne l.length (docOf l)) := hH
  have HD2 : Hid (DocAt w2 d (docOf l) ps) := hD
  clear hH hD HB1 hbw2 HBA HL
  obtain ⟨es, hes⟩ : ∃ es, es = docOf l := ⟨_, rfl⟩
  rw [← hes] at HH2 HD2 hdl ⊢
  clear hes
  obtain ⟨w3, HW3⟩ : ∃ w3, Hid (w3 = w2.alloc (.cells (d.cells es.length ps.length) 28)) := ⟨_, rfl⟩
  have hb3 : Below w2.heap.size w2 w3 := by rw [HW3.out]; exact (Below.refl _ _).alloc (Nat.le_refl _) _
  have hs3 : w3.heap.size = w2.heap.size + 1 := by rw [HW3.out]; simp [World.size_alloc]
  have q3 : w3.heap[w2.heap.size]? = some (.cells (d.cells es.length ps.length) 28) := by rw [HW3.out]; exact heap_alloc_new _ _
  have c3 : w3.cell? ⟨w.heap.size, 0, none⟩ = some (.int .i64 n) := by rw [cell_of_blk ((hb3.block _ (lt_of_heap n2)).trans n2)]; rfl
  have z3 : w3.frozen? ⟨w.heap.size, 0, none⟩ = false := frozen_of_blk ((hb3.block _ (lt_of_heap n2)).trans n2)
  have HQ3 : Hid (Below w2.heap.size w2 w3 ∧ w3.heap[w2.heap.size]? = some (.cells (d.cells es.length ps.length) 28) ∧ w2.heap[w.heap.size]? = some (.cells #[.int .i64 n] 3) ∧ w2.heap[w.heap.size + 1]? = some (.cells #[.bool false] 4)) := ⟨hb3, q3, n2, r2⟩
  have hk3 : ∀ i (h : i < es.length), ∃ kb koff, d.k.ao = some ⟨kb, koff, none⟩ ∧ w3.cell? ⟨kb, koff + i, none⟩ = some (.string es[i].1) := fun i hi => by
    obtain ⟨kb, koff, c1, c2⟩ := HD2.out.k.str HD2.out.kk i (by rw [keysOf_len]; exact hi)
    refine ⟨kb, koff, c1, ?_⟩
    rw [hb3.cell (World.block_lt_of_cell? w2 _ c2), c2]; simp [keysOf]
  have hm3 : w2.heap.size ≠ w.heap.size := by have := lt_of_heap n2; omega
  have HP3 : Hid (∀ nn, 1 ≤ nn → n = nn → LfP w w3 w2.heap.size tb T ne l.length es d ps nn) := fun nn h1 e => ⟨h1, HB2.out.trans (hb3.mono HB2.out.size), ⟨HH2.out.tin.tree.keep hb3, HH2.out.tin.wf, HH2.out.tin.dep, HH2.out.tin.root⟩, HH2.out.ents, q3, by rw [← e]; exact (hb3.block _ (lt_of_heap n2)).trans n2, (hb3.block _ (lt_of_heap r2)).trans r2, hk3⟩
  have HP4 : Hid (∀ nn, nn = 1 → LfP w (w3.setCell ⟨w.heap.size, 0, none⟩ (.int .i64 1)) w2.heap.size tb T ne l.length es d ps nn) := fun nn e => by
    have n3 := (hb3.block _ (lt_of_heap n2)).trans n2
    have t3 : Tin w3 tb T ne l.length := ⟨HH2.out.tin.tree.keep hb3, HH2.out.tin.wf, HH2.out.tin.dep, HH2.out.tin.root⟩
    refine ⟨by omega, (HB2.out.trans (hb3.mono HB2.out.size)).setCell (p := ⟨w.heap.size, 0, none⟩) (Nat.le_refl _) _, t3.poke n3 _, HH2.out.ents, by rw [heap_setCell_other _ _ _ _ hm3]; exact q3, by rw [setCell_blk n3, e]; rfl, by rw [heap_setCell_other _ _ _ _ (by show w.heap.size + 1 ≠ w.heap.size; omega)]; exact (hb3.block _ (lt_of_heap r2)).trans r2, fun i hi => ?_⟩
    obtain ⟨kb, koff, c1, c2⟩ := hk3 i hi
    refine ⟨kb, koff, c1, ?_⟩
    rw [World.cell?_setCell_other _ _ _ _ (fun e => ?_)]; exact c2
    have e' : kb = w.heap.size := by simpa using (congrArg Addr.block e).symm
    have e2 : koff + i = 0 := by simpa using (congrArg Addr.off e).symm
    subst e'
    rw [e2, cell_of_blk n3] at c2
    cases c2
  clear hb3 q3 n2 r2 hk3 HD2 HH2 HB2 hm3
  unfold Dv.cells
  unfold Dv.cells at HW3
  go_upto_region 6 with fail
  rw [← HW3.out]
  clear HW3
  go_upto_region 8 with fail
  obtain ⟨nn, hnn⟩ : ∃ nn : Int, nn = 1 := ⟨_, rfl⟩
  obtain ⟨w4, HW4⟩ : ∃ w4, Hid (w4 = w3.setCell ⟨w.heap.size, 0, none⟩ (.int .i64 1)) := ⟨_, rfl⟩
  have HP : Hid (LfP w w4 w2.heap.size tb T ne l.length es d ps nn) := by rw [HW4.out]; exact HP4.out nn hnn
  rw [← HW4.out]
  clear HW4 HP3 HP4 HQ3 c3 z3 hs3 hnn hn1
  have HA := all_calls (some ⟨tb, 0, none⟩) w4
  have hef := eql_seq
  go_wp2_with fail
  refine HA.mono ?_
  clear HA
  rintro e w5 ⟨rfl, hw5⟩
  obtain ⟨hb5, hs5, d1, d2⟩ := from_boxes hw5
  have t5 : w5.heap[w4.heap.size]? = some (.cells #[.pointer (some ⟨tb, 0, none⟩)] 24) := by rw [hw5, Below.heap_alloc _ _ _ (by simp [World.size_alloc])]; exact heap_alloc_new _ _
  have l5 : w5.heap[w4.heap.size + 1]? = some (.cells #[.string ⟨#[]⟩] 9) := by rw [hw5]; exact new_at (by simp [World.size_alloc]) _
  obtain ⟨w6, HW6⟩ : ∃ w6, Hid (w6 = (w5.alloc (.cells #[.func (.func 35) #[] #[.pointer (some ⟨w4.heap.size, 0, none⟩), .pointer (some ⟨w4.heap.size + 1, 0, none⟩)]] 32)).alloc (.cells #[.int .i64 0] 3)) := ⟨_, rfl⟩
  have hb6 : Below w5.heap.size w5 w6 := by rw [HW6.out]; exact ((Below.refl _ _).alloc (Nat.le_refl _) _).alloc (by simp [World.size_alloc]) _
  have HI6 : Hid (LfI w4 tb 0 w6) := ⟨hb5.trans (hb6.mono hb5.size), (hb6.block _ (lt_of_heap t5)).trans t5, (hb6.block _ (lt_of_heap l5)).trans l5, by rw [HW6.out, Below.heap_alloc _ _ _ (by simp [World.size_alloc]; omega)]; exact new_at hs5 _, by rw [HW6.out]; exact new_at (by simp [World.size_alloc]; omega) _⟩
  have hs6 : w6.heap.size = w4.heap.size + 4 := by rw [HW6.out]; simp [World.size_alloc]; omega
  have HS : Hid (w5.heap.size = w4.heap.size + 2 ∧ w6.heap.size = w4.heap.size + 4) := ⟨hs5, hs6⟩
  clear hw5 hb5 d1 d2 t5 l5 hb6 hs5 hs6
  go_wp2_with fail
  rw [← HW6.out]
  clear HW6
  rw [HS.out.1]
  have hF : fil (l.length + 1) T ⟨#[]⟩ = es := (fil_all HP.out.tin.root).trans HP.out.ents
  have HSEQ : Hid (∀ (k : Nat) (W : World), LfI w4 tb k W → SeqY (Kp w4.heap.size (fun _ => False)) 35 #[.pointer (some ⟨w4.heap.size, 0, none⟩), .pointer (some ⟨w4.heap.size + 1, 0, none⟩)] (encE es) (fun ys => ys.map (·.1) = es) (fun ys => ys.map (·.1) <+: es) es.length W) := fun k W h => by
    have := from_seq w4 tb T ne l.length HP.out.tin ⟨#[]⟩ (by decide) (fun _ => False) w4.heap.size (w4.heap.size + 1) W h.below (fun b h => h.elim) (by rw [cell_of_blk h.t]; rfl) (by rw [cell_of_blk h.lo]; rfl)
    rw [hF] at this
    exact this
  clear hF
  refine (wpIn_wide (n := 8)).1 ?_
  refine range_lawH (n := 8) (by omega) (gf := 35) (lb := #[.pointer (some ⟨w4.heap.size, 0, none⟩), .pointer (some ⟨w4.heap.size + 1, 0, none⟩)]) rfl (enters_of Try.func35 (by kernel_rfl) rfl)
    (HSEQ.out 0 w6 HI6.out) (fun h1 h2 => h1.trans h2) (kp_put HI6.out.below.size) (Below.refl _ _) (fun _ => rfl)
    (fun pre W => LfI w4 tb pre.length W ∧ (pre.length : Int) < nn)
    (fun c xs W => ¬ (xs.map (·.1) <+: es) ∨ (c = .exit 0 ∧ LfI w4 tb xs.length W ∧ (xs.length : Int) = nn)) ?hI ?hIx ?h0 ?a1 ?assign ?body ?done ?stop
  case assign =>
    intro l' m x W' K hK
    dsimp only [encE]
    gi_wp2
    exact hK
  case hI =>
    intro pre A C row hs hg hr
    exact ⟨hs.1.own HI6.out.below.size hg hr, hs.2⟩
  case hIx =>
    intro c xs A C row hs hg hr
    exact hs.imp id fun h => ⟨h.1, h.2.1.own HI6.out.below.size hg hr, h.2.2⟩
  case h0 => exact ⟨HI6.out, by have := HP.out.one; simp; omega⟩
  case body =>
    rintro l' m pre x W' hsz' hl' ⟨r0, hr0⟩ ⟨hI', hnn⟩ hlen
    have cs : W'.cell? ⟨w4.heap.size + 2 + 1, 0, none⟩ = some (.int .i64 (pre.length : Int)) := by rw [cell_of_blk hI'.seen]; rfl
    have cz : W'.frozen? ⟨w4.heap.size + 2 + 1, 0, none⟩ = false := frozen_of_blk hI'.seen
    have cm : W'.cell? ⟨w2.heap.size, 0, none⟩ = some (.slice d.k.ao es.length d.k.cap) := by rw [cell_of_blk ((hI'.below.block _ (lt_of_heap HP.out.m)).trans HP.out.m)]; rfl
    have hrb := (hI'.below.block _ (lt_of_heap HP.out.r)).trans HP.out.r
    have cr : W'.cell? ⟨w.heap.size + 1, 0, none⟩ = some (.bool false) := by rw [cell_of_blk hrb]; rfl
    have zr : W'.frozen? ⟨w.heap.size + 1, 0, none⟩ = false := frozen_of_blk hrb
    obtain ⟨kb, koff, k1, k2⟩ := HP.out.key pre.length hlen
    have ck : W'.cell? ⟨kb, koff + pre.length, none⟩ = some (.string es[pre.length].1) := by rw [hI'.below.cell (World.block_lt_of_cell? w4 _ k2)]; exact k2
    rw [k1] at cm
    have i1 : (0 : Int) ≤ (pre.length : Int) ∧ (pre.length : Int) < (es.length : Int) := by omega
    obtain ⟨key, hkey⟩ : ∃ key, key = es[pre.length].1 := ⟨_, rfl⟩
    rw [← hkey] at ck
    have HKEY : Hid (key = es[pre.length].1) := hkey
    clear hkey
    have hsz6 := HS.out.2
    by_cases hk : x.1.1 = key
    · obtain ⟨w7, HW7⟩ : ∃ w7, Hid (w7 = (W'.setCell ⟨w4.heap.size + 2 + 1, 0, none⟩ (.int .i64 ((pre.length : Int) + 1))).alloc (.cells #[.int .i64 0] 3)) := ⟨_, rfl⟩
      have hW7 := HW7.out
      have I1 : LfI w4 tb (pre.length + 1) (W'.setCell ⟨w4.heap.size + 2 + 1, 0, none⟩ (.int .i64 ((pre.length : Int) + 1))) := by
        have := hI'.count (j := pre.length + 1)
        rw [show ((pre.length + 1 : Nat) : Int) = (pre.length : Int) + 1 by omega] at this
        exact this
      have b1 : Below (W'.setCell ⟨w4.heap.size + 2 + 1, 0, none⟩ (.int .i64 ((pre.length : Int) + 1))).heap.size (W'.setCell ⟨w4.heap.size + 2 + 1, 0, none⟩ (.int .i64 ((pre.length : Int) + 1))) w7 := by rw [hW7]; exact (Below.refl _ _).alloc (Nat.le_refl _) _
      have I7 : LfI w4 tb (pre.length + 1) w7 := I1.more b1
      have s1 : (W'.setCell ⟨w4.heap.size + 2 + 1, 0, none⟩ (.int .i64 ((pre.length : Int) + 1))).heap.size = W'.heap.size := by simp
      have s7 : w7.heap.size = W'.heap.size + 1 := by rw [hW7]; simp [World.size_alloc]
      have q7 : w7.heap[W'.heap.size]? = some (.cells #[.int .i64 0] 3) := by rw [hW7]; exact new_at s1 _
      have kf7 : KeepsFrom w6.heap.size W' w7 := ((KeepsOthers.setCell _ _ _).from _).trans ⟨by rw [hW7]; simp [World.size_alloc], fun k o _ ho _ => (b1.block k (lt_of_heap ho)).trans ho⟩
      have kp7 : Kp w4.heap.size (fun _ => False) W' w7 := (kp_store (by omega) hI'.seen (by unfold KTy; decide) _).trans (Kp.ofBelow b1 (by rw [s1]; omega))
      have r7 : w7.heap[l']? = some (.loop r0) := kf7.same l' _ hl' hr0 rfl
      have ca : ((W'.setCell ⟨w4.heap.size + 2 + 1, 0, none⟩ (.int .i64 ((pre.length : Int) + 1))).alloc (.cells #[.int .i64 0] 3)).cell? ⟨w4.heap.size + 2, 0, none⟩ = some (.func (.func 35) #[] #[.pointer (some ⟨w4.heap.size, 0, none⟩), .pointer (some ⟨w4.heap.size + 1, 0, none⟩)]) := by rw [← hW7, cell_of_blk I7.all]; rfl
      have HI7 : Hid (LfI w4 tb (pre.length + 1) w7 ∧ w7.heap.size = W'.heap.size + 1 ∧ w7.heap[W'.heap.size]? = some (.cells #[.int .i64 0] 3) ∧ KeepsFrom w6.heap.size W' w7 ∧ Kp w4.heap.size (fun _ => False) W' w7 ∧ w7.heap[l']? = some (.loop r0)) := ⟨I7, s7, q7, kf7, kp7, r7⟩
      clear hI' I1 b1 I7 s1 s7 q7 kf7 kp7 r7 hW7 hrb k1 k2 hsz6
      rw [hk]
      gi_wp2
      rw [← HW7.out]
      clear HW7 ca cs cz cm cr zr ck
      refine range_lawN HI7.out.2.2.2.2.2 (gf := 35) (lb := #[.pointer (some ⟨w4.heap.size, 0, none⟩), .pointer (some ⟨w4.heap.size + 1, 0, none⟩)]) rfl (enters_of Try.func35 (by kernel_rfl) rfl)
        (HSEQ.out _ w7 HI7.out.1) (fun h1 h2 => h1.trans h2) (kp_put HI7.out.1.below.size) (Below.refl _ _) (fun _ => rfl)
        (fun ys W => LfI w4 tb (pre.length + 1) W ∧ W.heap[W'.heap.size]? = some (.cells #[.int .i64 (ys.length : Int)] 3) ∧ Kp w4.heap.size (fun _ => False) W' W ∧ KeepsFrom w6.heap.size W' W ∧ ys.length < 3)
        (fun c ys W => ¬ (ys.map (·.1) <+: es) ∨ (c = .exit 2 ∧ LfI w4 tb (pre.length + 1) W ∧ W.heap[W'.heap.size]? = some (.cells #[.int .i64 (ys.length : Int)] 3) ∧ Kp w4.heap.size (fun _ => False) W' W ∧ KeepsFrom w6.heap.size W' W ∧ ys.length = 3)) ?hI2 ?hIx2 ?h02 ?a12 ?assign2 ?body2 ?done2 ?stop2
      case assign2 =>
        intro l2 m2 y W2 K hK
        dsimp only [encE]
        gi_wp2
        exact hK
      case hI2 =>
        intro ys A C row hs hg hr
        have hz := HI7.out.2.1
        exact ⟨hs.1.own HI7.out.1.below.size hg hr, heap_kept hs.2.1 hg (fun r e => (hr r e).2), hs.2.2.1.trans (kp_grown hg (fun r e => ⟨by have := (hr r e).1; have := HI7.out.1.below.size; omega, (hr r e).2⟩) hs.1.below.size), ownFrom_keepsFrom (β := Unit) (B' := w7.heap.size) (by omega) () A C row hs.2.2.2.1 hg hr, hs.2.2.2.2⟩
      case hIx2 =>
        intro c ys A C row hs hg hr
        have hz := HI7.out.2.1
        exact hs.imp id fun hs => ⟨hs.1, hs.2.1.own HI7.out.1.below.size hg hr, heap_kept hs.2.2.1 hg (fun r e => (hr r e).2), hs.2.2.2.1.trans (kp_grown hg (fun r e => ⟨by have := (hr r e).1; have := HI7.out.1.below.size; omega, (hr r e).2⟩) hs.2.1.below.size), ownFrom_keepsFrom (β := Unit) (B' := w7.heap.size) (by omega) () A C row hs.2.2.2.2.1 hg hr, hs.2.2.2.2.2⟩
      case h02 => exact ⟨HI7.out.1, HI7.out.2.2.1, HI7.out.2.2.2.2.1, HI7.out.2.2.2.1, by simp⟩
      case body2 =>
        rintro l2 m2 ys y W2 hsz2 ⟨j1, j2, j3, j4, j5⟩ hlen2
        have hz7 := HI7.out.2.1
        have hsz6 := HS.out.2
        have cs2 : W2.cell? ⟨W'.heap.size, 0, none⟩ = some (.int .i64 (ys.length : Int)) := by rw [cell_of_blk j2]; rfl
        have cz2 : W2.frozen? ⟨W'.heap.size, 0, none⟩ = false := frozen_of_blk j2
        have cm2 : W2.cell? ⟨w2.heap.size, 0, none⟩ = some (.slice d.k.ao es.length d.k.cap) := by rw [cell_of_blk ((j1.below.block _ (lt_of_heap HP.out.m)).trans HP.out.m)]; rfl
        have hrb2 := (j1.below.block _ (lt_of_heap HP.out.r)).trans HP.out.r
        have cr2 : W2.cell? ⟨w.heap.size + 1, 0, none⟩ = some (.bool false) := by rw [cell_of_blk hrb2]; rfl
        have zr2 : W2.frozen? ⟨w.heap.size + 1, 0, none⟩ = false := frozen_of_blk hrb2
        obtain ⟨kb2, koff2, k3, k4⟩ := HP.out.key ys.length hlen2
        have ck2 : W2.cell? ⟨kb2, koff2 + ys.length, none⟩ = some (.string es[ys.length].1) := by rw [j1.below.cell (World.block_lt_of_cell? w4 _ k4)]; exact k4
        rw [k3] at cm2
        have i2 : (0 : Int) ≤ (ys.length : Int) ∧ (ys.length : Int) < (es.length : Int) := by omega
        obtain ⟨key2, hkey2⟩ : ∃ key, key = es[ys.length].1 := ⟨_, rfl⟩
        rw [← hkey2] at ck2
        have HKEY2 : Hid (key2 = es[ys.length].1) := hkey2
        clear hkey2
        have hyl : (ys ++ [y]).length = ys.length + 1 := by simp
        have B3 : (W2.setCell ⟨W'.heap.size, 0, none⟩ (.int .i64 ((ys.length : Int) + 1))).heap[W'.heap.size]? = some (.cells #[.int .i64 ((ys ++ [y]).length : Int)] 3) := by rw [setCell_blk j2]; simp
        have HB3 : Hid (_ ∧ _ ∧ _ ∧ _ ∧ _ ∧ _) := ⟨(KeepsOthers.setCell W2 ⟨W'.heap.size, 0, none⟩ (.int .i64 ((ys.length : Int) + 1))).from w7.heap.size, kp_store (n₀ := w4.heap.size) (X := fun _ => False) (i := 0) (by omega) j2 (by unfold KTy; decide) (.int .i64 ((ys.length : Int) + 1)), j1.other (b := W'.heap.size) (u := .int .i64 ((ys.length : Int) + 1)) (by omega), B3, j3.trans (kp_store (i := 0) (by omega) j2 (by unfold KTy; decide) (.int .i64 ((ys.length : Int) + 1))), j4.trans ((KeepsOthers.setCell W2 ⟨W'.heap.size, 0, none⟩ (.int .i64 ((ys.length : Int) + 1))).from _)⟩
        clear j1 j2 j3 j4 k3 k4 hrb2 B3 hz7 hsz6
        by_cases hk2 : y.1.1 = key2
        · rw [hk2]
          by_cases h3 : (3 : Int) ≤ (ys.length : Int) + 1
          · gi_wp2
            exact ⟨HB3.out.1, .inr ⟨rfl, HB3.out.2.2.1, HB3.out.2.2.2.1, HB3.out.2.2.2.2.1, HB3.out.2.2.2.2.2, by rw [hyl]; omega⟩⟩
          · gi_wp2
            exact ⟨HB3.out.1, HB3.out.2.1, HB3.out.2.2.1, HB3.out.2.2.2.1, HB3.out.2.2.2.2.1, HB3.out.2.2.2.2.2, by rw [hyl]; omega⟩
        · have hkl2 : (y.1.1.toList == key2.toList) = false := by
            rw [beq_eq_false_iff_ne]
            intro e
            exact hk2 (bytes_inj e)
          gi_wp2
          refine ⟨(KeepsOthers.setCell _ _ _).from _, .inl fun h => hk2 ?_⟩
          rw [HKEY2.out]
          exact pre_last h hlen2
      case done2 =>
        rintro ys W2 hS ⟨j1, j2, j3, j4, j5⟩
        have hy : ys.length ≠ 0 := by have := congrArg List.length hS; simp at this; omega
        have cs2 : W2.cell? ⟨W'.heap.size, 0, none⟩ = some (.int .i64 (ys.length : Int)) := by rw [cell_of_blk j2]; rfl
        have hy' : ((ys.length : Int) == 0) = false := by rw [beq_eq_false_iff_ne]; omega
        have ce2 : W2.cell? ⟨w4.heap.size + 2 + 1, 0, none⟩ = some (.int .i64 ((pre.length : Int) + 1)) := by rw [cell_of_blk j1.seen]; simp
        have cn2 : W2.cell? ⟨w.heap.size, 0, none⟩ = some (.int .i64 nn) := by rw [cell_of_blk ((j1.below.block _ (lt_of_heap HP.out.n)).trans HP.out.n)]; rfl
        have HB : Hid (LfI w4 tb (pre ++ [x]).length W2 ∧ Kp w4.heap.size (fun _ => False) W' W2 ∧ KeepsFrom w6.heap.size W' W2) := ⟨by simpa using j1, j3, j4⟩
        have hpx : (pre ++ [x]).length = pre.length + 1 := by simp
        clear j1 j2 j3 j4
        by_cases hge : nn ≤ (pre.length : Int) + 1
        · gi_wp2
          exact ⟨HB.out.2.2, .inr ⟨rfl, HB.out.1, by rw [hpx]; omega⟩⟩
        · gi_wp2
          exact ⟨HB.out.2.2, HB.out.2.1, HB.out.1, by rw [hpx]; omega⟩
      case stop2 =>
        rintro c ys W2 hSp (h | ⟨rfl, j1, j2, j3, j4, j5⟩)
        · exact absurd hSp h
        have hy : ys.length ≠ 0 := by omega
        have cs2 : W2.cell? ⟨W'.heap.size, 0, none⟩ = some (.int .i64 (ys.length : Int)) := by rw [cell_of_blk j2]; rfl
        have hy' : ((ys.length : Int) == 0) = false := by rw [beq_eq_false_iff_ne]; omega
        have ce2 : W2.cell? ⟨w4.heap.size + 2 + 1, 0, none⟩ = some (.int .i64 ((pre.length : Int) + 1)) := by rw [cell_of_blk j1.seen]; simp
        have cn2 : W2.cell? ⟨w.heap.size, 0, none⟩ = some (.int .i64 nn) := by rw [cell_of_blk ((j1.below.block _ (lt_of_heap HP.out.n)).trans HP.out.n)]; rfl
        have HB : Hid (LfI w4 tb (pre ++ [x]).length W2 ∧ Kp w4.heap.size (fun _ => False) W' W2 ∧ KeepsFrom w6.heap.size W' W2) := ⟨by simpa using j1, j3, j4⟩
        have hpx : (pre ++ [x]).length = pre.length + 1 := by simp
        clear j1 j2 j3 j4
        by_cases hge : nn ≤ (pre.length : Int) + 1
        · gi_wp2
          exact ⟨HB.out.2.2, .inr ⟨rfl, HB.out.1, by rw [hpx]; omega⟩⟩
        · gi_wp2
          exact ⟨HB.out.2.2, HB.out.2.1, HB.out.1, by rw [hpx]; omega⟩
    · clear hsz6
      have hkl : (x.1.1.toList == key.toList) = false := by
        rw [beq_eq_false_iff_ne]
        intro e
        exact hk (bytes_inj e)
      gi_wp2
      refine ⟨(KeepsOthers.setCell _ _ _).from _, .inl fun h => hk ?_⟩
      rw [HKEY.out]
      exact pre_last h hlen
  case done =>
    rintro D xs W3 hD hS ⟨j1, hlt⟩ hK
    have hx : xs.length = es.length := by have := congrArg List.length hS; simpa using this
    have ce3 : W3.cell? ⟨w4.heap.size + 2 + 1, 0, none⟩ = some (.int .i64 (xs.length : Int)) := by rw [cell_of_blk j1.seen]; rfl
    have cn3 : W3.cell? ⟨w.heap.size, 0, none⟩ = some (.int .i64 nn) := by rw [cell_of_blk ((j1.below.block _ (lt_of_heap HP.out.n)).trans HP.out.n)]; rfl
    have cm3 : W3.cell? ⟨w2.heap.size, 0, none⟩ = some (.slice d.k.ao es.length d.k.cap) := by rw [cell_of_blk ((j1.below.block _ (lt_of_heap HP.out.m)).trans HP.out.m)]; rfl
    have hrb3 := (j1.below.block _ (lt_of_heap HP.out.r)).trans HP.out.r
    have cr3 : W3.cell? ⟨w.heap.size + 1, 0, none⟩ = some (.bool false) := by rw [cell_of_blk hrb3]; rfl
    have zr3 : W3.frozen? ⟨w.heap.size + 1, 0, none⟩ = false := frozen_of_blk hrb3
    have hK3 : (W3.setCell ⟨w.heap.size + 1, 0, none⟩ (.bool true)).heap[D]? = some (.deferred (some [])) := by
      rw [heap_setCell_other _ _ _ _ (by show D ≠ w.heap.size + 1; have := lt_of_heap HP.out.r; have := HI6.out.below.size; omega)]; exact hK
    have hv3 : ((W3.setCell ⟨w.heap.size + 1, 0, none⟩ (.bool true)).putObj D (.deferred none)).heap[w.heap.size + 1]? = some (.cells #[.bool true] 4) := by
      rw [World.putObj_heap_other (by have := lt_of_heap HP.out.r; have := HI6.out.below.size; omega), setCell_blk hrb3]; rfl
    have hbz : Below w.heap.size w (W3.setCell ⟨w.heap.size + 1, 0, none⟩ (.bool true)) := (HP.out.below.trans (j1.below.mono HP.out.below.size)).setCell (p := ⟨w.heap.size + 1, 0, none⟩) (by show w.heap.size ≤ w.heap.size + 1; omega) _
    have HZ : Hid (_ ∧ _ ∧ _) := ⟨hK3, hv3, hbz.grown (grownBy_putObj' _ D (.deferred none)) hbz.size (fun k e => by cases e; have := HP.out.below.size; have := HI6.out.below.size; omega)⟩
    clear hrb3 hK3 hv3 hbz hK hD
    clear j1 hS
    have q1 : ¬ (nn < (es.length : Int)) := by omega
    rw [hx] at ce3
    go_wp2_with fail
    all_goals (
      refine ⟨by simp, .inl ⟨_, _, rfl, run_takeDeferred HZ.out.1, ?_⟩⟩
      refine ⟨_, results_box rfl rfl (load_bool HZ.out.2.1), rfl, HZ.out.2.2⟩)
  case stop =>
    rintro D c xs W3 hD hSp (h | ⟨rfl, j1, hlt⟩) hK
    · exact absurd hSp h
    have hx : xs.length ≤ es.length := by have := hSp.length_le; simpa using this
    have ce3 : W3.cell? ⟨w4.heap.size + 2 + 1, 0, none⟩ = some (.int .i64 (xs.length : Int)) := by rw [cell_of_blk j1.seen]; rfl
    have cn3 : W3.cell? ⟨w.heap.size, 0, none⟩ = some (.int .i64 nn) := by rw [cell_of_blk ((j1.below.block _ (lt_of_heap HP.out.n)).trans HP.out.n)]; rfl
    have cm3 : W3.cell? ⟨w2.heap.size, 0, none⟩ = some (.slice d.k.ao es.length d.k.cap) := by rw [cell_of_blk ((j1.below.block _ (lt_of_heap HP.out.m)).trans HP.out.m)]; rfl
    have hrb3 := (j1.below.block _ (lt_of_heap HP.out.r)).trans HP.out.r
    have cr3 : W3.cell? ⟨w.heap.size + 1, 0, none⟩ = some (.bool false) := by rw [cell_of_blk hrb3]; rfl
    have zr3 : W3.frozen? ⟨w.heap.size + 1, 0, none⟩ = false := frozen_of_blk hrb3
    have hK3 : (W3.setCell ⟨w.heap.size + 1, 0, none⟩ (.bool true)).heap[D]? = some (.deferred (some [])) := by
      rw [heap_setCell_other _ _ _ _ (by show D ≠ w.heap.size + 1; have := lt_of_heap HP.out.r; have := HI6.out.below.size; omega)]; exact hK
    have hv3 : ((W3.setCell ⟨w.heap.size + 1, 0, none⟩ (.bool true)).putObj D (.deferred none)).heap[w.heap.size + 1]? = some (.cells #[.bool true] 4) := by
      rw [World.putObj_heap_other (by have := lt_of_heap HP.out.r; have := HI6.out.below.size; omega), setCell_blk hrb3]; rfl
    have hbz : Below w.heap.size w (W3.setCell ⟨w.heap.size + 1, 0, none⟩ (.bool true)) := (HP.out.below.trans (j1.below.mono HP.out.below.size)).setCell (p := ⟨w.heap.size + 1, 0, none⟩) (by show w.heap.size ≤ w.heap.size + 1; omega) _
    have HZ : Hid (_ ∧ _ ∧ _) := ⟨hK3, hv3, hbz.grown (grownBy_putObj' _ D (.deferred none)) hbz.size (fun k e => by cases e; have := HP.out.below.size; have := HI6.out.below.size; omega)⟩
    clear hrb3 hK3 hv3 hbz hK hD
    clear j1 hSp
    refine wpIn_wide.2 ?_
    rw [hlt] at ce3
    by_cases q1 : nn < (es.length : Int)
    · go_wp2_with fail
      all_goals (
        refine ⟨by simp, .inl ⟨_, _, rfl, run_takeDeferred HZ.out.1, ?_⟩⟩
        refine ⟨_, results_box rfl rfl (load_bool HZ.out.2.1), rfl, HZ.out.2.2⟩)
    · have q2 : nn = (es.length : Int) := by omega
      rw [q2] at ce3
      go_wp2_with fail
      all_goals (
        refine ⟨by simp, .inl ⟨_, _, rfl, run_takeDeferred HZ.out.1, ?_⟩⟩
        refine ⟨_, results_box rfl rfl (load_bool HZ.out.2.1), rfl, HZ.out.2.2⟩)
theorem walkLeft_walk (ao : Option Addr) (cap : Nat) (l : List En) (n : Int) (w : World) (hl : EntsAt w ao l) (hn : l.length ≤ 5864062014634) :
    Calls Try.prog 8 #[.slice ao l.length cap, .int .i64 n] w fun e w' => e = .returned (.bool true) ∧ Below w.heap.size w w' := by
  by_cases h : n < 1
  · exact walkLeft_lt ao cap l n w hl hn h
  · exact walkLeft_ge ao cap l n w hl hn h
end Go.Proofs.Yteelgkmkeaiojaa
