/- Layer 4 (walk): the walk of WalkAlong. -/
import Derived.Test.YteelgkmkeaiojaaXGot
import Derived.Test.YteelgkmkeaiojaaXAlongM
import Derived.Deep.RegionHeld3
namespace Go.Proofs.Yteelgkmkeaiojaa
open Go.RowKit Go.Shelf
set_option linter.unusedVariables false
attribute [local go_sem] Oper.semAt_some

theorem alo_doc {w W : World} {tb : Nat} {T : Tr} {ne : Int} {d : Nat} {es : List En} (h : Held w W tb T ne d es) {k : ByteArray} {nl : List Tr} (hA : Along (kyb k) T nl) : aloE nl = es.filter (alP k) := by
  rw [along_ents hA h.good.dep h.good.wf (root_pre h.good.root _), h.ents]
theorem GoI.absK {w₀ : World} {bg B : Nat} (hB : w₀.heap.size ≤ B) : AbsK B (fun (l : List En) W => GoI w₀ bg l W) := fun l X b i cs ty u hs hb hX ht => by
  obtain ⟨ao, n, cap, h1, h2⟩ := hs.got
  have hne : ty ≠ 35 ∧ ty ≠ 22 := by
    rcases ht with rfl | rfl | rfl | rfl <;> exact ⟨by decide, by decide⟩
  refine ⟨hs.below.setCell (p := ⟨b, i, none⟩) (by show w₀.heap.size ≤ b; omega) u, ao, n, cap, ?_, ?_⟩
  · rw [heap_setCell_other _ _ _ _ (fun e => by
      have e' : bg = b := e
      subst e'
      rw [h1] at hX
      simp at hX
      exact hne.2 hX.2.symm)]
    exact h1
  · exact ownsRow_setCell_other h2 (fun e => own_ne (ownsRow_typed h2 _ e) hX (fun h => hne.1 h.symm) rfl) u

set_option maxRecDepth 100000 in
set_option maxHeartbeats 4000000 in
theorem walkAlong_walk (ao : Option Addr) (cap : Nat) (l : List En) (lo : ByteArray) (w : World) (hl : EntsAt w ao l) (hn : l.length ≤ 5864062014634) (hlo : lo.size ≤ 140737488351232) :
    Calls Try.prog 7 #[.slice ao l.length cap, .string lo] w fun e w' => e = .returned (.bool true) ∧ Below w.heap.size w w' := by
  have HL : Hid (EntsAt w ao l) := hl
  have hnot : ∀ (x : Bool) (w : World), (Op.unary .not (.bool x)).run Try.prog w = .ok (.bool (!x)) w := fun _ _ => rfl
  have hdl := docOf_len l
  clear hl
  refine (callsIn_wide (n := 8)).1 ?_
  refine callsIn_of_wp_marks Try.func7 rfl trivial ?_ rfl
  refine wpIn_wide.2 ?_
  simp only [Try.ntmps7, List.size_toArray, List.length_cons, List.length_nil, Nat.reduceAdd, Nat.reduceSub, Array.replicate_succ, Array.replicate_zero, List.push_toArray, List.append_toArray, List.nil_append, List.cons_append]
  go_wp2_with fail
  refine (walkAlive_calls w).mono ?_
  rintro e w1 ⟨rfl, hb1⟩
  have HB1 : Hid (Below w.heap.size w w1) := hb1
  have HBU := built4_calls ao cap l w1 (HL.out.below hb1) hn
  clear hb1
  go_wp2_with fail
  refine HBU.mono ?_
  clear HBU
  rintro e w2 ⟨tb, T, ne, d, ps, rfl, hH, hD⟩
  have HB2 : Hid (Below w.heap.size w w2) := HB1.out.trans (hH.good.below.mono HB1.out.size)
  have HH2 : Hid (Held w1 w2 tb T ne l.length (docOf l)) := hH
  have HD2 : Hid (DocAt w2 d (docOf l) ps) := hD
  clear hH hD HB1
  obtain ⟨es, hes⟩ : ∃ es, es = docOf l := ⟨_, rfl⟩
  rw [← hes] at HH2 HD2 hdl ⊢
  clear hes
  obtain ⟨w4, HW4⟩ : ∃ w4, Hid (w4 = (w2.alloc (.cells (d.cells es.length ps.length) 28)).alloc (.cells #[.slice none 0 0] 22)) := ⟨_, rfl⟩
  have s3 : (w2.alloc (.cells (d.cells es.length ps.length) 28)).heap.size = w2.heap.size + 1 := by simp [World.size_alloc]
  have hb4 : Below w2.heap.size w2 w4 := by rw [HW4.out]; exact ((Below.refl _ _).alloc (Nat.le_refl _) _).alloc (by omega) _
  have hs4 : w4.heap.size = w2.heap.size + 2 := by rw [HW4.out]; simp [World.size_alloc]
  have q3 : w4.heap[w2.heap.size]? = some (.cells (d.cells es.length ps.length) 28) := by rw [HW4.out, Below.heap_alloc _ _ _ (by omega)]; exact heap_alloc_new _ _
  have q4 : w4.heap[w2.heap.size + 1]? = some (.cells #[.slice none 0 0] 22) := by rw [HW4.out]; exact new_at s3 _
  have HQ4 : Hid (Below w2.heap.size w2 w4 ∧ w4.heap[w2.heap.size]? = some (.cells (d.cells es.length ps.length) 28) ∧ w4.heap[w2.heap.size + 1]? = some (.cells #[.slice none 0 0] 22)) := ⟨hb4, q3, q4⟩
  have HF := alongM_calls (some ⟨tb, 0, none⟩) lo w4
  clear hb4 q3 q4 s3
  unfold Dv.cells
  unfold Dv.cells at HW4
  go_wp2_with fail
  rw [← HW4.out]
  clear HW4
  refine HF.mono ?_
  clear HF
  rintro e w5 ⟨rfl, hw5⟩
  obtain ⟨hb5, hs5, d1, d2⟩ := box_blocks hw5
  have hb25 : Below w2.heap.size w2 w5 := HQ4.out.1.trans (hb5.mono HQ4.out.1.size)
  have m5 : w5.heap[w2.heap.size]? = some (.cells (d.cells es.length ps.length) 28) := (hb5.block _ (by omega)).trans HQ4.out.2.1
  have g5 : w5.heap[w2.heap.size + 1]? = some (.cells #[.slice none 0 0] 22) := (hb5.block _ (by omega)).trans HQ4.out.2.2
  rw [hs4] at d1 d2 hs5 ⊢
  have hTin := HH2.out.tin
  obtain ⟨nl, hA⟩ := Along.ex hTin.wf (kyb lo)
  have hfil := alo_doc HH2.out hA
  have hfl : (aloE nl).length ≤ es.length := by rw [hfil]; exact List.length_filter_le _ _
  have hasz : ∀ e ∈ aloE nl, e.1.size ≤ 140737488351232 := fun e he => by
    rw [hfil, ← HH2.out.ents] at he
    exact ents_size hTin.tree.tat e (List.mem_filter.1 he).1
  have hef := eql_seq
  obtain ⟨i0, hi, hz0, hz1, hz2⟩ := infoOf infoE
  clear hw5 hb5
  go_wp2_with fail
  refine (wpIn_wide (n := 8)).1 ?_
  refine range_lawK (n := 8) (by omega) (gf := 38) (lb := #[.pointer (some ⟨w2.heap.size + 2, 0, none⟩), .pointer (some ⟨w2.heap.size + 2 + 1, 0, none⟩)]) rfl (enters_of Try.func38 (by kernel_rfl) rfl)
    (along_seq w2 tb T ne l.length hTin lo hlo nl hA (fun _ => False) (w2.heap.size + 2) (w2.heap.size + 2 + 1) w5 hb25 (fun b h => h.elim) d1 d2 (fun h => h)) (fun h1 h2 => h1.trans h2) (kp_put hb25.size) (Below.refl _ _) (fun _ => rfl)
    (fun pre W => GoI w2 (w2.heap.size + 1) (pre.map (·.1)) W ∧ W.heap[w2.heap.size]? = some (.cells (d.cells es.length ps.length) 28))
    (fun _ _ _ => False) ?hI (fun _ _ _ _ _ h _ _ => h) ?hIk (fun _ _ _ _ _ _ _ _ h _ _ _ => h) ?h0 ?a1 ?assign ?body ?done ?stop
  case assign =>
    intro l' m x W' K hK
    dsimp only [encE]
    gi_wp2
    exact hK
  case hI =>
    intro pre A C row hs hg hr
    exact ⟨GoI.ownFrom (by omega) _ A C row hs.1 hg hr, heap_kept hs.2 hg (fun r e => (hr r e).2)⟩
  case hIk =>
    intro pre X b i cs ty u hs hb hX ht
    refine ⟨GoI.absK (by omega) _ X b i cs ty u hs.1 hb hX ht, ?_⟩
    rw [heap_setCell_other _ _ _ _ (by show w2.heap.size ≠ b; omega)]; exact hs.2
  case h0 => exact ⟨⟨hb25, none, 0, 0, g5, World.ownsRow_nil _ _ _ _⟩, m5⟩
  case body =>
    rintro l' m pre x W' hsz' ⟨hI', hm'⟩ hlen
    obtain ⟨gao, gn, gcap, hbox, hown⟩ := hI'.got
    have cc : W'.cell? ⟨w2.heap.size + 1, 0, none⟩ = some (.slice gao gn gcap) := by rw [cell_of_blk hbox]; rfl
    have hbs := hI'.below.size
    have HG : Hid (Below w2.heap.size w2 W' ∧ W'.heap[w2.heap.size + 1]? = some (.cells #[.slice gao gn gcap] 22) ∧ OwnE W' w2.heap.size (.slice gao gn gcap) (pre.map (·.1)) ∧ W'.heap[w2.heap.size]? = some (.cells (d.cells es.length ps.length) 28)) := ⟨hI'.below, hbox, hown, hm'⟩
    have hpl : (pre.map (·.1)).length = pre.length := by simp
    clear hI' hbox hown hm'
    gi_wp2_with (gi_at_builtin; refine wpListIn_append_own _ rfl (.tmp 31) (.tmp 35) 22 rfl w2.heap.size 35 i0 (.agg #[.string ⟨#[]⟩, .int .i64 0]) 2 24 Try.underlying22 hi hz0 hz1 hz2 rfl (by decide) _ (pre.map (·.1)).length _ rfl (World.ownsRow.alloc HG.out.2.2.1 _) ⟨W'.heap.size, 0, none⟩ 1 1 [.string x.1.1, .int .i64 x.1.2] rfl rfl (entry_new _ _ _) (by simp [Value.oneCell']) (by rw [hpl]; unfold maxLen; omega) (by rw [hpl]; omega) (by simp; omega) ?_)
    intro v8 w8 ho8 hg8 _
    obtain ⟨ag, cg, hv8, -, -⟩ := World.ownsRow.form ho8 (by omega)
    subst hv8
    obtain ⟨b8, ko8, kp8, go8⟩ := GoI.appended (m := pre.length + 1) (by rw [hpl]) (by omega) HG.out.1 HG.out.2.1 HG.out.2.2.1 ho8 hg8
    have c8 : w8.cell? ⟨w2.heap.size + 1, 0, none⟩ = some (.slice gao gn gcap) := by rw [cell_of_blk b8]; rfl
    have z8 : w8.frozen? ⟨w2.heap.size + 1, 0, none⟩ = false := frozen_of_blk b8
    have m8 : (w8.setCell ⟨w2.heap.size + 1, 0, none⟩ (.slice (some ⟨ag, 0, none⟩) (pre.length + 1) cg)).heap[w2.heap.size]? = some (.cells (d.cells es.length ps.length) 28) := by
      rw [heap_setCell_other _ _ _ _ (by show w2.heap.size ≠ w2.heap.size + 1; omega)]
      have hlt := lt_of_heap HG.out.2.2.2
      refine (hg8.block _ (by simp; omega) (fun e => ?_)).trans ((Below.heap_alloc _ _ _ hlt).trans HG.out.2.2.2)
      exact own_ne (ownsRow_typed HG.out.2.2.1 _ e.symm) HG.out.2.2.2 (by decide) rfl
    have HR : Hid (_ ∧ _ ∧ _ ∧ _) := ⟨ko8, kp8, go8, m8⟩
    clear ho8 hg8 b8 ko8 kp8 go8 m8 cc
    gi_wp2
    refine ⟨HR.out.1.from _, HR.out.2.1, ?_, HR.out.2.2.2⟩
    rw [List.map_append]
    exact HR.out.2.2.1
  case done =>
    rintro D xs W' hD hS ⟨hI', hm'⟩ hK
    have hbT : TAt nR W' (best T nl) := by
      rcases best_spec nl T (hA.inc hTin.wf).1 with ⟨h1, -⟩ | ⟨h1, -⟩
      · rw [h1]; exact hTin.tree.tat.keep hI'.below
      · exact (along_tat hA hTin.tree.tat _ h1).keep hI'.below
    have HLO := longest_tree tb T ne lo W' nl (hTin.tree.keep hI'.below) hTin.wf (root_pre hTin.root _) hlo hA hbT
    obtain ⟨gao, gn, gcap, hbox, hown⟩ := hI'.got
    have hsz : ∀ e ∈ xs.map (·.1), e.1.size ≤ 140737488351232 := by rw [hS]; exact hasz
    obtain ⟨gao', gcap', hge, hgE⟩ := hown.ents hsz
    simp only [Value.slice.injEq] at hge
    obtain ⟨rfl, rfl, rfl⟩ := hge
    obtain ⟨is, his⟩ : ∃ is, is = idxTo (alP lo) es es.length := ⟨_, rfl⟩
    have hgot : xs.map (·.1) = is.map (fun i => es.getD i (⟨#[]⟩, 0)) := by
      rw [his, idxTo_map _ _ _ (Nat.le_refl _), List.take_length, hS, hfil]
    have hgl : (xs.map (·.1)).length = is.length := by rw [hgot]; simp
    have hil : is.length ≤ es.length := by rw [his]; exact idxTo_len _ _ _
    rw [hgl] at hbox
    have HKW : Hid (W'.heap[D]? = some (.deferred (some [])) ∧ Below w2.heap.size w2 W' ∧ W'.heap[w2.heap.size + 1]? = some (.cells #[.slice gao is.length gcap] 22) ∧ W'.heap[w2.heap.size]? = some (.cells (d.cells es.length ps.length) 28) ∧ EntsAt W' gao (xs.map (·.1))) := ⟨hK, hI'.below, hbox, hm', hgE⟩
    have HGO : Hid (xs.map (·.1) = is.map (fun i => es.getD i (⟨#[]⟩, 0)) ∧ (xs.map (·.1)).length = is.length ∧ is = idxTo (alP lo) es es.length ∧ xs.map (·.1) = aloE nl) := ⟨hgot, hgl, his, hS⟩
    have HBV : Hid (∀ x, (best T nl).v = some x → VAt W' x) := hbT.val'
    have HBS : Hid ((best T nl = T ∧ ∀ u ∈ nl, u.v = none) ∨ (best T nl ∈ nl ∧ (best T nl).v.isSome)) := by
      rcases best_spec nl T (hA.inc hTin.wf).1 with h | h
      · exact .inl h
      · exact .inr ⟨h.1, h.2.1⟩
    obtain ⟨r, hr⟩ := hA.head
    have HT0 : Hid (T ∈ nl) := by rw [hr]; exact List.mem_cons_self
    clear hK hI' hbox hown hgE hm' hsz hgot hgl his hS hbT hr r
    obtain ⟨bp, hbp⟩ : ∃ b, b = (best T nl).p := ⟨_, rfl⟩
    rw [← hbp] at HLO
    have HBP : Hid (bp = (best T nl).p) := hbp
    clear hbp
    cases hbv : (best T nl).v with
    | none =>
      rw [hbv] at HLO
      simp only [held, Option.isSome_none] at HLO
      go_wp2_with fail
      refine HLO.mono ?_
      clear HLO
      rintro e w8 ⟨rfl, hb8⟩
      have HB8 : Hid (Below W'.heap.size W' w8) := hb8
      have b8 : w8.heap[w2.heap.size + 1]? = some (.cells #[.slice gao is.length gcap] 22) := (hb8.block _ (lt_of_heap HKW.out.2.2.1)).trans HKW.out.2.2.1
      have m8 : w8.heap[w2.heap.size]? = some (.cells (d.cells es.length ps.length) 28) := (hb8.block _ (lt_of_heap HKW.out.2.2.2.1)).trans HKW.out.2.2.2.1
      have HK8 : Hid (w8.heap[D]? = some (.deferred (some [])) ∧ Below w2.heap.size w2 w8) := ⟨(hb8.block _ (lt_of_heap HKW.out.1)).trans HKW.out.1, HKW.out.2.1.trans (hb8.mono HKW.out.2.1.size)⟩
      have hDW : DocAt w8 d es ps := HD2.out.keep HK8.out.2
      have hgE := HKW.out.2.2.2.2.below hb8
      have HRF := refAlong_calls d es ps lo w8.drew (hDW.keep ⟨rfl, rfl, rfl, Nat.le_refl _, fun _ _ => rfl⟩) hlo (by omega)
      rw [← HGO.out.2.2.1] at HRF
      have HTH := fun (W2 : World) (h2 : Below w8.heap.size w8 W2) (x : Sv) (hx : x.At W2) (hv : x.vs = natV is) => these_calls gao gcap (xs.map (·.1)) d es ps x is W2 (hgE.below h2) (hDW.keep h2) hx hv HGO.out.2.1 (by rw [HGO.out.2.2.1]; exact idxTo_lt _ _ _) HGO.out.1 (by omega) (by omega)
      rw [HGO.out.2.1] at HTH
      have g0 : w8.cell? ⟨w2.heap.size + 1, 0, none⟩ = some (.slice gao is.length gcap) := by rw [cell_of_blk b8]; rfl
      have m0 : w8.cell? ⟨w2.heap.size, 0, none⟩ = some (.slice d.k.ao es.length d.k.cap) := by rw [cell_of_blk m8]; rfl
      have m1 : w8.cell? ⟨w2.heap.size, 1, none⟩ = some (.slice d.v.ao es.length d.v.cap) := by rw [cell_of_blk m8]; rfl
      have m2 : w8.cell? ⟨w2.heap.size, 2, none⟩ = some (.slice d.l.ao es.length d.l.cap) := by rw [cell_of_blk m8]; rfl
      have m3 : w8.cell? ⟨w2.heap.size, 3, none⟩ = some (.slice d.p.ao ps.length d.p.cap) := by rw [cell_of_blk m8]; rfl
      have m4 : w8.cell? ⟨w2.heap.size, 4, none⟩ = some (.slice d.m.ao ps.length d.m.cap) := by rw [cell_of_blk m8]; rfl
      have hD8 := lt_of_heap HK8.out.1
      have hlb := lt_of_heap b8
      have hlm := lt_of_heap m8
      unfold Dv.cells at HRF HTH
      clear hb8 b8 m8 hDW hgE
      go_wp2_with fail
      go_region_held3 (fun W => W.cell? ⟨w2.heap.size + 1, 0, none⟩ = some (.slice gao is.length gcap) ∧ W.cell? ⟨w2.heap.size, 0, none⟩ = some (.slice d.k.ao es.length d.k.cap) ∧ W.cell? ⟨w2.heap.size, 1, none⟩ = some (.slice d.v.ao es.length d.v.cap) ∧ W.cell? ⟨w2.heap.size, 2, none⟩ = some (.slice d.l.ao es.length d.l.cap) ∧ W.cell? ⟨w2.heap.size, 3, none⟩ = some (.slice d.p.ao ps.length d.p.cap) ∧ W.cell? ⟨w2.heap.size, 4, none⟩ = some (.slice d.m.ao ps.length d.m.cap)) (first | (exact q9) | (exact q11) | go_keep)
        (first
          | (go_at_call 23
             refine HRF.mono ?_
             rintro e w11 ⟨x, rfl, hxv, hxA, hb11⟩
             have hb11' : Below w8.heap.size w8 w11 := ⟨hb11.os, hb11.tape, hb11.output, hb11.size, hb11.block⟩
             have q11 : w11.cell? ⟨w2.heap.size + 1, 0, none⟩ = some (.slice gao is.length gcap) ∧ w11.cell? ⟨w2.heap.size, 0, none⟩ = some (.slice d.k.ao es.length d.k.cap) ∧ w11.cell? ⟨w2.heap.size, 1, none⟩ = some (.slice d.v.ao es.length d.v.cap) ∧ w11.cell? ⟨w2.heap.size, 2, none⟩ = some (.slice d.l.ao es.length d.l.cap) ∧ w11.cell? ⟨w2.heap.size, 3, none⟩ = some (.slice d.p.ao ps.length d.p.cap) ∧ w11.cell? ⟨w2.heap.size, 4, none⟩ = some (.slice d.m.ao ps.length d.m.cap) :=
               ⟨(hb11'.cell hlb).trans g0, (hb11'.cell hlm).trans m0, (hb11'.cell hlm).trans m1, (hb11'.cell hlm).trans m2, (hb11'.cell hlm).trans m3, (hb11'.cell hlm).trans m4⟩
             have HB11 : Hid (Below w8.heap.size w8 w11) := hb11'
             have HX11 : Hid (x.vs = natV is ∧ x.At w11) := ⟨hxv, hxA⟩
             clear hb11 hb11' hxv hxA HRF)
          | (go_at_call 13
             refine (HTH w11 HB11.out x HX11.out.2 HX11.out.1).mono ?_
             rintro e w9 ⟨rfl, hb9⟩
             have hs11 := HB11.out.size
             have q9 : w9.cell? ⟨w2.heap.size + 1, 0, none⟩ = some (.slice gao is.length gcap) ∧ w9.cell? ⟨w2.heap.size, 0, none⟩ = some (.slice d.k.ao es.length d.k.cap) ∧ w9.cell? ⟨w2.heap.size, 1, none⟩ = some (.slice d.v.ao es.length d.v.cap) ∧ w9.cell? ⟨w2.heap.size, 2, none⟩ = some (.slice d.l.ao es.length d.l.cap) ∧ w9.cell? ⟨w2.heap.size, 3, none⟩ = some (.slice d.p.ao ps.length d.p.cap) ∧ w9.cell? ⟨w2.heap.size, 4, none⟩ = some (.slice d.m.ao ps.length d.m.cap) :=
               ⟨(hb9.cell (Nat.lt_of_lt_of_le hlb hs11)).trans q11.1, (hb9.cell (Nat.lt_of_lt_of_le hlm hs11)).trans q11.2.1, (hb9.cell (Nat.lt_of_lt_of_le hlm hs11)).trans q11.2.2.1, (hb9.cell (Nat.lt_of_lt_of_le hlm hs11)).trans q11.2.2.2.1, (hb9.cell (Nat.lt_of_lt_of_le hlm hs11)).trans q11.2.2.2.2.1, (hb9.cell (Nat.lt_of_lt_of_le hlm hs11)).trans q11.2.2.2.2.2⟩
             have HB9 : Hid (Below w8.heap.size w8 w9) := HB11.out.trans (hb9.mono hs11)
             clear hb9 HTH hs11))
      all_goals go_wp2_with fail
      all_goals (
        have hK9 : w9.heap[D]? = some (.deferred (some [])) := (HB9.out.block _ hD8).trans HK8.out.1
        refine ⟨by simp, .inl ⟨_, _, rfl, run_takeDeferred hK9, ?_⟩⟩
        refine ⟨_, results_tmp rfl _ _ _, rfl, ?_⟩
        have hbw : Below w.heap.size w w8 := HB2.out.trans (HK8.out.2.mono HB2.out.size)
        have hbz : Below w.heap.size w w9 := hbw.trans (HB9.out.mono hbw.size)
        exact hbz.grown (grownBy_putObj' _ _ _) hbz.size (fun k e => by cases e; have h1 := HB2.out.size; omega))
    | some x =>
      obtain ⟨mv, hmv⟩ := (HBV.out x hbv).num
      rw [hbv] at HLO
      simp only [held, Option.isSome_some, hmv] at HLO
      obtain ⟨q, hq⟩ := best_last T nl.length nl x rfl (by
        rcases HBS.out with ⟨h1, h2⟩ | ⟨h1, h2⟩
        · have := h2 T HT0.out; rw [h1, this] at hbv; cases hbv
        · exact ⟨_, h1, h2⟩) hbv
      rw [← HBP.out, hmv] at hq
      have hgq : xs.map (·.1) = q ++ [(bp, mv)] := HGO.out.2.2.2.trans hq
      have hql : is.length = q.length + 1 := by rw [← HGO.out.2.1, hgq]; simp
      go_wp2_with fail
      refine HLO.mono ?_
      clear HLO
      rintro e w8 ⟨rfl, hb8⟩
      have HB8 : Hid (Below W'.heap.size W' w8) := hb8
      have b8 : w8.heap[w2.heap.size + 1]? = some (.cells #[.slice gao is.length gcap] 22) := (hb8.block _ (lt_of_heap HKW.out.2.2.1)).trans HKW.out.2.2.1
      have m8 : w8.heap[w2.heap.size]? = some (.cells (d.cells es.length ps.length) 28) := (hb8.block _ (lt_of_heap HKW.out.2.2.2.1)).trans HKW.out.2.2.2.1
      have HK8 : Hid (w8.heap[D]? = some (.deferred (some [])) ∧ Below w2.heap.size w2 w8) := ⟨(hb8.block _ (lt_of_heap HKW.out.1)).trans HKW.out.1, HKW.out.2.1.trans (hb8.mono HKW.out.2.1.size)⟩
      have hDW : DocAt w8 d es ps := HD2.out.keep HK8.out.2
      have hgE := HKW.out.2.2.2.2.below hb8
      have HRF := refAlong_calls d es ps lo w8.drew (hDW.keep ⟨rfl, rfl, rfl, Nat.le_refl _, fun _ _ => rfl⟩) hlo (by omega)
      rw [← HGO.out.2.2.1] at HRF
      have HTH := fun (W2 : World) (h2 : Below w8.heap.size w8 W2) (x : Sv) (hx : x.At W2) (hv : x.vs = natV is) => these_calls gao gcap (xs.map (·.1)) d es ps x is W2 (hgE.below h2) (hDW.keep h2) hx hv HGO.out.2.1 (by rw [HGO.out.2.2.1]; exact idxTo_lt _ _ _) HGO.out.1 (by omega) (by omega)
      rw [HGO.out.2.1] at HTH
      have g0 : w8.cell? ⟨w2.heap.size + 1, 0, none⟩ = some (.slice gao is.length gcap) := by rw [cell_of_blk b8]; rfl
      have m0 : w8.cell? ⟨w2.heap.size, 0, none⟩ = some (.slice d.k.ao es.length d.k.cap) := by rw [cell_of_blk m8]; rfl
      have m1 : w8.cell? ⟨w2.heap.size, 1, none⟩ = some (.slice d.v.ao es.length d.v.cap) := by rw [cell_of_blk m8]; rfl
      have m2 : w8.cell? ⟨w2.heap.size, 2, none⟩ = some (.slice d.l.ao es.length d.l.cap) := by rw [cell_of_blk m8]; rfl
      have m3 : w8.cell? ⟨w2.heap.size, 3, none⟩ = some (.slice d.p.ao ps.length d.p.cap) := by rw [cell_of_blk m8]; rfl
      have m4 : w8.cell? ⟨w2.heap.size, 4, none⟩ = some (.slice d.m.ao ps.length d.m.cap) := by rw [cell_of_blk m8]; rfl
      have hD8 := lt_of_heap HK8.out.1
      have hlb := lt_of_heap b8
      have hlm := lt_of_heap m8
      unfold Dv.cells at HRF HTH
      obtain ⟨gb, goff, hga, hg1, hg2, -⟩ := hgE q.length (by rw [hgq]; simp)
      have hgi : (xs.map (·.1))[q.length]'(by rw [hgq]; simp) = (bp, mv) := by simp only [hgq]; simp
      rw [hgi] at hg1 hg2
      subst hga
      have j1 : ((is.length : Int) == 0) = false := by rw [beq_eq_false_iff_ne]; omega
      obtain ⟨i, hi⟩ : ∃ i : Int, (is.length : Int) - 1 = i := ⟨_, rfl⟩
      have i4 : (0 : Int) ≤ i := by omega
      have i5 : i < (is.length : Int) := by omega
      have i6 : i.toNat = q.length := by omega
      have hln : is.length ≠ 0 := by omega
      clear hb8 b8 m8 hDW hgE hgq hgi hq hql
      go_wp2_with fail
      go_region_held3 (fun W => W.cell? ⟨w2.heap.size + 1, 0, none⟩ = some (.slice (some ⟨gb, goff, none⟩) is.length gcap) ∧ W.cell? ⟨w2.heap.size, 0, none⟩ = some (.slice d.k.ao es.length d.k.cap) ∧ W.cell? ⟨w2.heap.size, 1, none⟩ = some (.slice d.v.ao es.length d.v.cap) ∧ W.cell? ⟨w2.heap.size, 2, none⟩ = some (.slice d.l.ao es.length d.l.cap) ∧ W.cell? ⟨w2.heap.size, 3, none⟩ = some (.slice d.p.ao ps.length d.p.cap) ∧ W.cell? ⟨w2.heap.size, 4, none⟩ = some (.slice d.m.ao ps.length d.m.cap)) (first | (exact q9) | (exact q11) | go_keep)
        (first
          | (go_at_call 23
             refine HRF.mono ?_
             rintro e w11 ⟨x, rfl, hxv, hxA, hb11⟩
             have hb11' : Below w8.heap.size w8 w11 := ⟨hb11.os, hb11.tape, hb11.output, hb11.size, hb11.block⟩
             have q11 : w11.cell? ⟨w2.heap.size + 1, 0, none⟩ = some (.slice (some ⟨gb, goff, none⟩) is.length gcap) ∧ w11.cell? ⟨w2.heap.size, 0, none⟩ = some (.slice d.k.ao es.length d.k.cap) ∧ w11.cell? ⟨w2.heap.size, 1, none⟩ = some (.slice d.v.ao es.length d.v.cap) ∧ w11.cell? ⟨w2.heap.size, 2, none⟩ = some (.slice d.l.ao es.length d.l.cap) ∧ w11.cell? ⟨w2.heap.size, 3, none⟩ = some (.slice d.p.ao ps.length d.p.cap) ∧ w11.cell? ⟨w2.heap.size, 4, none⟩ = some (.slice d.m.ao ps.length d.m.cap) :=
               ⟨(hb11'.cell hlb).trans g0, (hb11'.cell hlm).trans m0, (hb11'.cell hlm).trans m1, (hb11'.cell hlm).trans m2, (hb11'.cell hlm).trans m3, (hb11'.cell hlm).trans m4⟩
             have HB11 : Hid (Below w8.heap.size w8 w11) := hb11'
             have HX11 : Hid (x.vs = natV is ∧ x.At w11) := ⟨hxv, hxA⟩
             clear hb11 hb11' hxv hxA HRF)
          | (go_at_call 13
             refine (HTH w11 HB11.out x HX11.out.2 HX11.out.1).mono ?_
             rintro e w9 ⟨rfl, hb9⟩
             have hs11 := HB11.out.size
             have q9 : w9.cell? ⟨w2.heap.size + 1, 0, none⟩ = some (.slice (some ⟨gb, goff, none⟩) is.length gcap) ∧ w9.cell? ⟨w2.heap.size, 0, none⟩ = some (.slice d.k.ao es.length d.k.cap) ∧ w9.cell? ⟨w2.heap.size, 1, none⟩ = some (.slice d.v.ao es.length d.v.cap) ∧ w9.cell? ⟨w2.heap.size, 2, none⟩ = some (.slice d.l.ao es.length d.l.cap) ∧ w9.cell? ⟨w2.heap.size, 3, none⟩ = some (.slice d.p.ao ps.length d.p.cap) ∧ w9.cell? ⟨w2.heap.size, 4, none⟩ = some (.slice d.m.ao ps.length d.m.cap) :=
               ⟨(hb9.cell (Nat.lt_of_lt_of_le hlb hs11)).trans q11.1, (hb9.cell (Nat.lt_of_lt_of_le hlm hs11)).trans q11.2.1, (hb9.cell (Nat.lt_of_lt_of_le hlm hs11)).trans q11.2.2.1, (hb9.cell (Nat.lt_of_lt_of_le hlm hs11)).trans q11.2.2.2.1, (hb9.cell (Nat.lt_of_lt_of_le hlm hs11)).trans q11.2.2.2.2.1, (hb9.cell (Nat.lt_of_lt_of_le hlm hs11)).trans q11.2.2.2.2.2⟩
             have HB9 : Hid (Below w8.heap.size w8 w9) := HB11.out.trans (hb9.mono hs11)
             clear hb9 HTH hs11))
      all_goals go_wp2_with fail
      all_goals (
        have hK9 : w9.heap[D]? = some (.deferred (some [])) := (HB9.out.block _ hD8).trans HK8.out.1
        refine ⟨by simp, .inl ⟨_, _, rfl, run_takeDeferred hK9, ?_⟩⟩
        refine ⟨_, results_tmp rfl _ _ _, rfl, ?_⟩
        have hbw : Below w.heap.size w w8 := HB2.out.trans (HK8.out.2.mono HB2.out.size)
        have hbz : Below w.heap.size w w9 := hbw.trans (HB9.out.mono hbw.size)
        exact hbz.grown (grownBy_putObj' _ _ _) hbz.size (fun k e => by cases e; have h1 := HB2.out.size; omega))
  case stop =>
    rintro D c xs W' _ _ h _
    exact h.elim
end Go.Proofs.Yteelgkmkeaiojaa
