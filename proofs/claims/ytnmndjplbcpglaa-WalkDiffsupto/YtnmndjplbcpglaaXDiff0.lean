/- Layer 4 (walk): alike, Diff's tell, entries. -/
import Derived.Test.YtnmndjplbcpglaaRGet
import Derived.Laws.MakeOwn
namespace Go.Proofs.Ytnmndjplbcpglaa
open Go.RowKit Go.Shelf
set_option linter.unusedVariables false
attribute [local go_sem] Oper.semAt_some

theorem alikeC_idle (a : Value) (w : World) :
    CallsD Try.prog 63 #[a] .returning w fun e u' w' => e = .returned (.tuple #[]) ∧ u' = .returning ∧ w' = w := by
  refine callsD_of_wpS Try.func63 rfl fun c₀ cs hu => ?_
  apply wpS_seq
  apply wpS_region
  simp [wpOpsS, go_sem, recoverD, hu, Try.ntmps63, Exit.thenS]
  refine wpS_of_wp ?_
  have hfr : (#[a] ++ ((Array.replicate 2 undef).setIfInBounds 0 Value.nilIface).setIfInBounds 1 (Value.bool false)) = #[a, .nilIface, .bool false] := rfl
  rw [hfr]
  clear hfr
  go_wp2
  refine ⟨rfl, .returning, ?_, .tuple #[], results_none rfl _ _ _, rfl, rfl, rfl⟩
  rw [← hu]
set_option maxRecDepth 100000 in
theorem alike_calls (x y : Int) (w : World) : Calls Try.prog 41 #[.int .i64 x, .int .i64 y] w fun e w' => e = .returned (.bool (x == y)) ∧ Below w.heap.size w w' := by
  have hmf : ∀ (fn : Fn) (first cap : Array Value) (w : World), (Instr.makeFunc fn first cap).run Try.prog w = .ok (.func fn first cap) w := fun _ _ _ _ => rfl
  obtain ⟨b, hb⟩ : ∃ b, b = (x == y) := ⟨_, rfl⟩
  go_enter_defers Try.func41, Try.ntmps41
  go_wp2_with fail
  rw [← hb]
  clear hb
  refine leaves_cons (f := 63) (args := #[.pointer (some ⟨w.heap.size, 0, none⟩)]) (by simp) (by simp [go_sem]) ?_
  refine (alikeC_idle _ _).mono ?_
  rintro e u' w5 ⟨rfl, rfl, hw5⟩
  subst hw5
  have d0 : (w.alloc (.cells #[.bool b] 4)).cell? ⟨w.heap.size, 0, none⟩ = some (.bool b) := by rw [cell_of_blk (heap_alloc_new _ _)]; rfl
  have HB : Hid (Below w.heap.size w (w.alloc (.cells #[.bool b] 4))) := (Below.refl _ _).alloc (Nat.le_refl _) _
  obtain ⟨w5, hw5⟩ : ∃ w5, w5 = w.alloc (.cells #[.bool b] 4) := ⟨_, rfl⟩
  rw [← hw5] at d0 HB ⊢
  clear hw5
  simp [Leaves, settle, results, Try.results41, go_sem, d0]
  exact HB.out

/-! ### tell -/
def cgCells (e : En) : List Value := [.string e.1, .int .i64 e.2]
/-- Nothing but the box and a block of elements was written. -/
structure KpB (e : TypeId) (bg n₀ : Nat) (W W' : World) : Prop where
  below : Below n₀ W W'
  kept : ∀ b o, W.heap[b]? = some o → (∀ cs, o ≠ .cells cs e) → b ≠ bg → W'.heap[b]? = some o
theorem KpB.cells {e : TypeId} {bg n₀ : Nat} {W W' : World} (h : KpB e bg n₀ W W') {b : Nat} {cs : Array Value} {ty : TypeId} (hb : W.heap[b]? = some (.cells cs ty)) (ht : ty ≠ e) (hne : b ≠ bg) : W'.heap[b]? = some (.cells cs ty) := h.kept b _ hb (fun cs' he => by simp at he; exact ht he.2) hne
theorem GaI.keptB {α : Type} {f : α → List Value} {e t : TypeId} {sz : Nat} (het : e ≠ t) {w₀ W w1 : World} {bg : Nat} {l : List α} {ao : Option Addr} {n cap : Nat} {v' : Value} {tmp : Obj} (hbg : w₀.heap.size ≤ bg) (hb : Below w₀.heap.size w₀ W) (hown : OwnG f e sz W w₀.heap.size (.slice ao n cap) l)
    (hg : (W.alloc tmp).grownBy w1 (Value.slice ao n cap).ownBlock) : KpB e bg w₀.heap.size W (w1.setCell ⟨bg, 0, none⟩ v') := by
  have typed : ∀ r, (Value.slice ao n cap).ownBlock = some r → w₀.heap.size ≤ r ∧ ∃ cs, W.heap[r]? = some (.cells cs e) := fun r hr => ⟨(World.ownsRow.lt hown r hr).1, ownsRow_typed hown r hr⟩
  have below1 : Below w₀.heap.size W w1 := ((Below.refl _ W).alloc hb.size tmp).grown hg (by have := hb.size; simp; omega) (fun r e => (typed r e).1)
  refine ⟨below1.setCell (p := ⟨bg, 0, none⟩) hbg _, fun b o ho hc hne => ?_⟩
  rw [heap_setCell_other _ _ _ _ (fun e => hne e)]
  have hlt := lt_of_heap ho
  refine ((hg.block b (by simp; omega) (fun e' => ?_)).trans (Below.heap_alloc _ _ _ hlt)).trans ho
  obtain ⟨ds, hd⟩ := (typed b e'.symm).2
  rw [ho] at hd
  simp at hd
  exact hc _ hd
theorem infoCg : (Try.prog.info? 50).map (fun i => (i.zero, i.size, i.bytes)) = some (some (.agg #[.string ⟨#[]⟩, .int .i64 0]), 2, 24) := by kernel_rfl

set_option maxRecDepth 100000 in
set_option maxHeartbeats 4000000 in
theorem tell_calls (w₀ : World) (bg : Nat) (l : List En) (k : ByteArray) (kd : Int) (W : World) (h : GaI cgCells 50 47 2 w₀ bg l W) (hbg : w₀.heap.size ≤ bg) (hl : l.length + 1 ≤ 5864062014805) :
    Calls Try.prog 39 #[.string k, .int .i64 kd, .pointer (some ⟨bg, 0, none⟩)] W fun e W' => e = .returned (.tuple #[]) ∧ GaI cgCells 50 47 2 w₀ bg (l ++ [(k, kd)]) W' ∧ KpB 50 bg w₀.heap.size W W' := by
  obtain ⟨ao, n, cap, hbox, hown⟩ := h.got
  obtain ⟨i0, hi, hz0, hz1, hz2⟩ := infoOf infoCg
  have c0 : W.cell? ⟨bg, 0, none⟩ = some (.slice ao n cap) := by rw [cell_of_blk hbox]; rfl
  have HG : Hid (Below w₀.heap.size w₀ W ∧ W.heap[bg]? = some (.cells #[.slice ao n cap] 47) ∧ OwnG cgCells 50 2 W w₀.heap.size (.slice ao n cap) l) := ⟨h.below, hbox, hown⟩
  have hbs := h.below.size
  clear h hbox hown
  go_enter Try.func39, Try.ntmps39
  go_wp2_with (at_builtin; refine wpList_append_own _ rfl (.tmp 5) (.tmp 9) 47 rfl w₀.heap.size 50 i0 (.agg #[.string ⟨#[]⟩, .int .i64 0]) 2 24 Try.underlying47 hi hz0 hz1 hz2 rfl (by decide) _ l.length _ rfl (World.ownsRow.alloc HG.out.2.2 _) ⟨W.heap.size, 0, none⟩ 1 1 [.string k, .int .i64 kd] rfl rfl (cells_new W [.string k, .int .i64 kd] 50) (by simp [Value.oneCell']) (by unfold maxLen; omega) (by omega) (by simp; omega) ?_)
  intro v8 w8 ho8 hg8 _
  obtain ⟨ag, cg, hv8, -, -⟩ := World.ownsRow.form ho8 (by omega)
  subst hv8
  obtain ⟨b8, ko8, kp8, go8⟩ := GaI.appended (f := cgCells) (x := (k, kd)) (m := l.length + 1) (by decide) (fun ty hty => by rcases hty with rfl | rfl | rfl | rfl <;> exact ⟨by decide, by decide⟩) rfl hbg HG.out.1 HG.out.2.1 HG.out.2.2 ho8 hg8
  have kb8 : KpB 50 bg w₀.heap.size W (w8.setCell ⟨bg, 0, none⟩ (.slice (some ⟨ag, 0, none⟩) (l.length + 1) cg)) := GaI.keptB (t := 47) (by decide) hbg HG.out.1 HG.out.2.2 hg8
  have c8 : w8.cell? ⟨bg, 0, none⟩ = some (.slice ao n cap) := by rw [cell_of_blk b8]; rfl
  have z8 : w8.frozen? ⟨bg, 0, none⟩ = false := frozen_of_blk b8
  have HR : Hid (_ ∧ _) := ⟨go8, kb8⟩
  clear ho8 hg8 b8 ko8 kp8 go8 kb8 c0
  go_wp2
  go_end0
  exact ⟨rfl, HR.out⟩

/-! ### entries -/
theorem infoEn : (Try.prog.info? 89).map (fun i => (i.zero, i.size, i.bytes)) = some (some (.agg #[.string ⟨#[]⟩, .int .i64 0]), 2, 24) := by kernel_rfl

set_option maxRecDepth 100000 in
set_option maxHeartbeats 4000000 in
theorem entries_calls (tb : Nat) (T : Tr) (ne : Int) (d : Nat) (es : List En) (w : World) (hH : Held w w tb T ne d es) (hN : es.length ≤ 11728124029610) :
    Calls Try.prog 40 #[.pointer (some ⟨tb, 0, none⟩)] w fun e w' => ∃ v, e = .returned v ∧ Below w.heap.size w w' ∧ OwnG cgCells 89 2 w' w.heap.size v es := by
  have HLE := len_calls tb T ne w hH.good.tree
  have hcnt := hH.cnt
  subst hcnt
  obtain ⟨i0, hi, hz0, hz1, hz2⟩ := infoOf infoEn
  obtain ⟨w1, hmake, ho1, hg1⟩ := run_make_own (P := Try.prog) w w.heap.size 86 89 i0 _ 2 Try.underlying86 hi hz0 hz1 .i64 .i64 es.length (by rw [hz2]; omega) (by unfold maxLen; omega) (Nat.le_refl _)
  have hb1 : Below w.heap.size w w1 := ⟨hg1.os, hg1.tape, hg1.output, hg1.size, fun k hk => hg1.block k hk (by simp)⟩
  obtain ⟨w2, HW2⟩ : ∃ w2, Hid (w2 = w1.alloc (.cells #[.slice (some ⟨w.heap.size, 0, none⟩) 0 es.length] 86)) := ⟨_, rfl⟩
  have hb2 : Below w1.heap.size w1 w2 := by rw [HW2.out]; exact (Below.refl _ _).alloc (Nat.le_refl _) _
  have q2 : w2.heap[w1.heap.size]? = some (.cells #[.slice (some ⟨w.heap.size, 0, none⟩) 0 es.length] 86) := by rw [HW2.out]; exact heap_alloc_new _ _
  have hI2 : GaI cgCells 89 86 2 w w1.heap.size [] w2 := ⟨hb1.trans (hb2.mono hb1.size), _, _, _, q2, World.ownsRow.kept (row := none) ho1 ⟨hb2.os, hb2.tape, hb2.output, hb2.size, fun k hk _ => hb2.block k hk⟩ (.inr (by simp [Value.ownBlock]))⟩
  have HF := all_calls (some ⟨tb, 0, none⟩) w2
  have hTin := hH.tin
  have hfil := filAll' hH
  have HI2 : Hid (GaI cgCells 89 86 2 w w1.heap.size [] w2 ∧ w2.heap[w1.heap.size]? = some (.cells #[.slice (some ⟨w.heap.size, 0, none⟩) 0 es.length] 86)) := ⟨hI2, q2⟩
  have hs1 := hb1.size
  obtain ⟨bg, hbg⟩ : ∃ bg, bg = w1.heap.size := ⟨_, rfl⟩
  rw [← hbg] at HI2 hs1
  clear hb1 hb2 q2 hI2 hg1 ho1 hH
  refine (callsIn_wide (n := 8)).1 ?_
  refine callsIn_of_wp_marks Try.func40 rfl trivial ?_ rfl
  refine wpIn_wide.2 ?_
  simp only [Try.ntmps40, List.size_toArray, List.length_cons, List.length_nil, Nat.reduceAdd, Nat.reduceSub, Array.replicate_succ, Array.replicate_zero, List.push_toArray, List.append_toArray, List.nil_append, List.cons_append]
  go_wp2_with fail
  refine HLE.mono ?_
  clear HLE
  rintro e w0 ⟨rfl, hw0⟩
  subst hw0
  go_wp2_with fail
  rw [← HW2.out, ← hbg]
  clear HW2 hmake hbg
  refine HF.mono ?_
  clear HF
  rintro e w5 ⟨rfl, hw5⟩
  obtain ⟨hb5, hs5, d1, d2⟩ := from_boxes hw5
  have hI5 : GaI cgCells 89 86 2 w0 bg [] w5 := by
    have h := HI2.out.1
    obtain ⟨ao, n, cap, h1, h2⟩ := h.got
    exact ⟨h.below.trans (hb5.mono h.below.size), ao, n, cap, (hb5.block _ (lt_of_heap h1)).trans h1, World.ownsRow.kept (row := none) h2 ⟨hb5.os, hb5.tape, hb5.output, hb5.size, fun k hk _ => hb5.block k hk⟩ (Classical.em _)⟩
  have hb25 := hI5.below
  have g5 : w5.heap[bg]? = some (.cells #[.slice (some ⟨w0.heap.size, 0, none⟩) 0 es.length] 86) := (hb5.block _ (lt_of_heap HI2.out.2)).trans HI2.out.2
  obtain ⟨s2, hs2⟩ : ∃ s2, s2 = w2.heap.size := ⟨_, rfl⟩
  rw [← hs2] at d1 d2 hs5 ⊢
  clear hw5 hb5 HI2 hs2
  go_wp2_with fail
  refine (wpIn_wide (n := 8)).1 ?_
  refine range_law (n := 8) (by omega) (gf := 43) (lb := #[.pointer (some ⟨s2, 0, none⟩), .pointer (some ⟨s2 + 1, 0, none⟩)]) rfl (enters_of Try.func43 (by kernel_rfl) rfl)
    (from_seq w0 tb T (es.length : Int) d hTin ⟨#[]⟩ (by decide) (fun _ => False) s2 (s2 + 1) w5 hb25 (fun b h => h.elim) d1 d2) (fun h1 h2 => h1.trans h2) (kp_put hb25.size) (Below.refl _ _) (fun _ => rfl)
    (fun pre W => GaI cgCells 89 86 2 w0 bg (pre.map (·.1)) W ∧ W.heap[bg]? = some (.cells #[.slice (some ⟨w0.heap.size, 0, none⟩) pre.length es.length] 86))
    (fun _ _ _ => False) ?hI (fun _ _ _ _ _ h _ _ => h) ?h0 ?a1 ?assign ?body ?done ?stop
  case assign =>
    intro l' m x W' K hK
    dsimp only [encE]
    gi_wp2
    exact hK
  case hI =>
    intro pre A C row hs hg hr
    exact ⟨GaI.ownFrom hb25.size _ A C row hs.1 hg hr, heap_kept hs.2 hg (fun r e => (hr r e).2)⟩
  case h0 => exact ⟨hI5, g5⟩
  case body =>
    rintro l' m pre x W' hsz' ⟨hI', hbox⟩ hlen
    have hpre : pre.length + 1 ≤ es.length := by have h0 := congrArg List.length hfil; omega
    obtain ⟨gao, gn, gcap, hbox', hown⟩ := hI'.got
    rw [hbox] at hbox'
    simp only [Option.some.injEq, Obj.cells.injEq, Array.mk.injEq, List.cons.injEq, Value.slice.injEq, and_true] at hbox'
    obtain ⟨rfl, rfl, rfl⟩ := hbox'
    have cc : W'.cell? ⟨bg, 0, none⟩ = some (.slice (some ⟨w0.heap.size, 0, none⟩) pre.length es.length) := by rw [cell_of_blk hbox]; rfl
    have hbs := hI'.below.size
    have hpl : (pre.map (·.1)).length = pre.length := by simp
    have HG : Hid (Below w0.heap.size w0 W' ∧ W'.heap[bg]? = some (.cells #[.slice (some ⟨w0.heap.size, 0, none⟩) pre.length es.length] 86) ∧ OwnG cgCells 89 2 W' w0.heap.size (.slice (some ⟨w0.heap.size, 0, none⟩) pre.length es.length) (pre.map (·.1))) := ⟨hI'.below, hbox, hown⟩
    have hown' : W'.ownsRow w0.heap.size 89 2 (.slice (some ⟨w0.heap.size, 0, none⟩) pre.length es.length) pre.length ((pre.map (·.1)).flatMap cgCells) := by have h := hown; unfold OwnG at h; rw [hpl] at h; exact h
    have HO : Hid (W'.ownsRow w0.heap.size 89 2 (.slice (some ⟨w0.heap.size, 0, none⟩) pre.length es.length) pre.length ((pre.map (·.1)).flatMap cgCells)) := hown'
    clear hI' hbox hown hown' hlen hI5 hTin hfil
    gi_wp2_with (gi_at_builtin; refine wpListIn_append_fits _ rfl (.tmp 13) (.tmp 17) 86 rfl w0.heap.size 89 i0 2 Try.underlying86 hi hz1 w0.heap.size pre.length es.length _ rfl (World.ownsRow.alloc HO.out _) ⟨W'.heap.size, 0, none⟩ 1 1 [.string x.1.1, .int .i64 x.1.2] rfl rfl (cells_new W' [.string x.1.1, .int .i64 x.1.2] 89) (by simp [Value.oneCell']) hpre ?_)
    intro w8 ho8 hg8
    obtain ⟨b8, ko8, kp8, go8⟩ := GaI.appended (f := cgCells) (x := x.1) (m := pre.length + 1) (by decide) (fun ty hty => by rcases hty with rfl | rfl | rfl | rfl <;> exact ⟨by decide, by decide⟩) (by rw [hpl]) (by omega) HG.out.1 HG.out.2.1 HG.out.2.2 ho8 hg8
    have c8 : w8.cell? ⟨bg, 0, none⟩ = some (.slice (some ⟨w0.heap.size, 0, none⟩) pre.length es.length) := by rw [cell_of_blk b8]; rfl
    have z8 : w8.frozen? ⟨bg, 0, none⟩ = false := frozen_of_blk b8
    have b9 : (w8.setCell ⟨bg, 0, none⟩ (.slice (some ⟨w0.heap.size, 0, none⟩) (pre.length + 1) es.length)).heap[bg]? = some (.cells #[.slice (some ⟨w0.heap.size, 0, none⟩) (pre.length + 1) es.length] 86) := by rw [setCell_blk b8]; rfl
    have HR : Hid (_ ∧ _ ∧ _ ∧ _) := ⟨ko8, kp8, go8, b9⟩
    clear ho8 hg8 b8 ko8 kp8 go8 cc b9
    gi_wp2
    refine ⟨HR.out.1.from _, HR.out.2.1, ?_, ?_⟩
    · rw [List.map_append]
      exact HR.out.2.2.1
    · rw [List.length_append]
      exact HR.out.2.2.2
  case done =>
    rintro D xs W' hD hS ⟨hI', -⟩ hK
    rw [hS, hfil] at hI'
    obtain ⟨gao, gn, gcap, hbox, hown⟩ := hI'.got
    have cc : W'.cell? ⟨bg, 0, none⟩ = some (.slice gao gn gcap) := by rw [cell_of_blk hbox]; rfl
    have HF : Hid (W'.heap[D]? = some (.deferred (some [])) ∧ Below w0.heap.size w0 W' ∧ OwnG cgCells 89 2 W' w0.heap.size (.slice gao gn gcap) es) := ⟨hK, hI'.below, hown⟩
    clear hI' hbox hown hK hS hI5 hTin hfil
    go_wp2_with fail
    refine ⟨by simp, .inl ⟨_, _, rfl, run_takeDeferred HF.out.1, ?_⟩⟩
    refine ⟨_, results_tmp rfl _ _ _, _, rfl, ?_⟩
    have hg := grownBy_putObj' W' D (.deferred none)
    refine ⟨HF.out.2.1.grown hg HF.out.2.1.size (fun k e => by cases e; have h1 := hb25.size; omega), World.ownsRow.kept HF.out.2.2 hg ?_⟩
    by_cases e : (Value.slice gao gn gcap).ownBlock = none
    · exact .inl e
    · refine .inr fun e' => ?_
      obtain ⟨g, hgb⟩ := Option.ne_none_iff_exists'.1 e
      obtain ⟨cur, hc⟩ := ownsRow_typed HF.out.2.2 g hgb
      have e2 : (Value.slice gao gn gcap).ownBlock = some D := e'
      rw [hgb] at e2
      cases e2
      rw [HF.out.1] at hc
      cases hc
  case stop =>
    rintro D c xs W' _ _ h _
    exact h.elim
end Go.Proofs.Ytnmndjplbcpglaa
