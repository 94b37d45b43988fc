/- Layer 4 (walk): the walk of WalkAll. -/
import Derived.Test.YtnmndjplbcpglaaXGath
import Derived.Test.YtnmndjplbcpglaaXAlive4
namespace Go.Proofs.Ytnmndjplbcpglaa
open Go.RowKit Go.Shelf
set_option linter.unusedVariables false
attribute [local go_sem] Oper.semAt_some

set_option maxRecDepth 100000 in
set_option maxHeartbeats 8000000 in
theorem walkAll_walk (ao : Option Addr) (cap : Nat) (l : List En) (w : World) (hl : EntsAt w ao l) (hn : l.length ≤ 5864062014634) :
    Calls Try.prog 3 #[.slice ao l.length cap] w fun e w' => e = .returned (.bool true) ∧ Below w.heap.size w w' := by
  have HL : Hid (EntsAt w ao l) := hl
  have hnot : ∀ (x : Bool) (w : World), (Op.unary .not (.bool x)).run Try.prog w = .ok (.bool (!x)) w := fun _ _ => rfl
  have hdl := docOf_len l
  have hef := eql_seq
  clear hl
  refine (callsIn_wide (n := 8)).1 ?_
  refine callsIn_of_wp_marks Try.func3 rfl trivial ?_ rfl
  refine wpIn_wide.2 ?_
  simp only [Try.ntmps3, List.size_toArray, List.length_cons, List.length_nil, Nat.reduceAdd, Nat.reduceSub, Array.replicate_succ, Array.replicate_zero, List.push_toArray, List.append_toArray, List.nil_append, List.cons_append]
  go_wp2_with fail
  refine (walkAlive_calls w).mono ?_
  rintro e w1 ⟨rfl, hb1⟩
  have HB1 : Hid (Below w.heap.size w w1) := hb1
  have HBU := built4_calls ao cap l w1 (HL.out.below hb1) hn
  clear hb1
  go_wp2_with fail
  refine HBU.mono ?_
  clear HBU
  rintro e w2 ⟨tb, T, ne, d, ps, rfl, hH, hD⟩
  obtain ⟨es, hes⟩ : ∃ es, es = docOf l := ⟨_, rfl⟩
  rw [← hes] at hH hD hdl ⊢
  clear hes
  obtain ⟨w3, HW3⟩ : ∃ w3, Hid (w3 = w2.alloc (.cells (d.cells es.length ps.length) 28)) := ⟨_, rfl⟩
  have hb3 : Below w2.heap.size w2 w3 := by rw [HW3.out]; exact (Below.refl _ _).alloc (Nat.le_refl _) _
  have q3 : w3.heap[w2.heap.size]? = some (.cells (d.cells es.length ps.length) 28) := by rw [HW3.out]; exact heap_alloc_new _ _
  obtain ⟨bm, hbm⟩ : ∃ b, b = w2.heap.size := ⟨_, rfl⟩
  rw [← hbm] at q3
  have hb02 : Below w.heap.size w w2 := HB1.out.trans (hH.good.below.mono HB1.out.size)
  have H3 : Hid (Held w1 w3 tb T ne l.length es ∧ DocAt w3 d es ps ∧ Below w.heap.size w w3 ∧ w3.heap[bm]? = some (.cells (d.cells es.length ps.length) 28)) := ⟨hH.keep hb3, hD.keep hb3, hb02.trans (hb3.mono hb02.size), q3⟩
  have HFA := all_calls (some ⟨tb, 0, none⟩) w3
  clear hH hD hb3 q3 hb02 HB1
  unfold Dv.cells
  unfold Dv.cells at HW3
  go_wp2_with fail
  rw [← HW3.out, ← hbm]
  clear HW3 hbm
  refine HFA.mono ?_
  clear HFA
  rintro e w4 ⟨rfl, hw4⟩
  obtain ⟨hb4, hs4, d1, d2⟩ := from_boxes hw4
  have HBK := back_calls (some ⟨tb, 0, none⟩) w4
  obtain ⟨s3, hs3⟩ : ∃ s, s = w3.heap.size := ⟨_, rfl⟩
  rw [← hs3] at d1 d2 hs4 ⊢
  have H4 : Hid (Below w3.heap.size w3 w4 ∧ w4.cell? ⟨s3, 0, none⟩ = some (.pointer (some ⟨tb, 0, none⟩)) ∧ w4.cell? ⟨s3 + 1, 0, none⟩ = some (.string ⟨#[]⟩)) := ⟨hb4, d1, d2⟩
  clear hw4 hb4 d1 d2 hs3
  go_wp2_with fail
  refine HBK.mono ?_
  clear HBK
  rintro e w5 ⟨rfl, hw5⟩
  have hb5 : Below w4.heap.size w4 w5 := by rw [hw5]; exact (Below.refl _ _).alloc (Nat.le_refl _) _
  have qB : w5.heap[w4.heap.size]? = some (.cells #[.pointer (some ⟨tb, 0, none⟩)] 24) := by rw [hw5]; exact heap_alloc_new _ _
  obtain ⟨s4, hs4'⟩ : ∃ s, s = w4.heap.size := ⟨_, rfl⟩
  rw [← hs4'] at qB ⊢
  have hb35 : Below w3.heap.size w3 w5 := H4.out.1.trans (hb5.mono H4.out.1.size)
  have d3 : w5.cell? ⟨s4, 0, none⟩ = some (.pointer (some ⟨tb, 0, none⟩)) := by rw [cell_of_blk qB]; rfl
  have H5 : Hid (Held w1 w5 tb T ne l.length es ∧ DocAt w5 d es ps ∧ Below w.heap.size w w5 ∧ w5.heap[bm]? = some (.cells (d.cells es.length ps.length) 28) ∧ w5.cell? ⟨s3, 0, none⟩ = some (.pointer (some ⟨tb, 0, none⟩)) ∧ w5.cell? ⟨s3 + 1, 0, none⟩ = some (.string ⟨#[]⟩) ∧ w5.cell? ⟨s4, 0, none⟩ = some (.pointer (some ⟨tb, 0, none⟩))) := ⟨H3.out.1.keep hb35, H3.out.2.1.keep hb35, H3.out.2.2.1.trans (hb35.mono H3.out.2.2.1.size), (hb35.block _ (lt_of_heap H3.out.2.2.2)).trans H3.out.2.2.2, (hb5.cell (World.block_lt_of_cell? w4 _ H4.out.2.1)).trans H4.out.2.1, (hb5.cell (World.block_lt_of_cell? w4 _ H4.out.2.2)).trans H4.out.2.2, d3⟩
  clear hw5 hb5 qB hs4' hb35 d3 H3 H4 hs4
  go_wp2_with fail
  -- LOOP
  refine wp_loop (fun a wr => ∃ (Ds : List Nat) (u32 u7 u8 u9 u10 u11 u12 u33 u34 u35 u36 u37 u38 u39 u40 u41 u42 u43 u44 u45 u46 u47 u48 u49 u50 u51 u52 u53 u54 u55 u56 u57 u58 u59 u60 u61 u62 u63 u64 u65 u66 : Value), (∃ j : Nat, j ≤ 2 ∧ u32 = .int .i64 j ∧ Hid (Below w5.heap.size w5 wr ∧ MarksAt w5.heap.size wr Ds)) ∧ a = ⟨#[.slice ao l.length cap, undef, .bool false, .pointer (some ⟨tb, 0, none⟩), .pointer (some ⟨bm, 0, none⟩), .func (.func 43) #[] #[.pointer (some ⟨s3, 0, none⟩), .pointer (some ⟨s3 + 1, 0, none⟩)], .func (.func 22) #[] #[.pointer (some ⟨s4, 0, none⟩)], u7, u8, u9, u10, u11, u12, .bool true, .bool false, .tuple #[.pointer (some ⟨tb, 0, none⟩), .agg #[.slice d.k.ao es.length d.k.cap, .slice d.v.ao es.length d.v.cap, .slice d.l.ao es.length d.l.cap, .slice d.p.ao ps.length d.p.cap, .slice d.m.ao ps.length d.m.cap]], .slice ao l.length cap, .tuple #[.pointer (some ⟨tb, 0, none⟩), .agg #[.slice d.k.ao es.length d.k.cap, .slice d.v.ao es.length d.v.cap, .slice d.l.ao es.length d.l.cap, .slice d.p.ao ps.length d.p.cap, .slice d.m.ao ps.length d.m.cap]], .pointer (some ⟨tb, 0, none⟩), .agg #[.slice d.k.ao es.length d.k.cap, .slice d.v.ao es.length d.v.cap, .slice d.l.ao es.length d.l.cap, .slice d.p.ao ps.length d.p.cap, .slice d.m.ao ps.length d.m.cap], .pointer (some ⟨tb, 0, none⟩), .bool false, .pointer (some ⟨tb, 0, none⟩), .func (.func 43) #[] #[.pointer (some ⟨s3, 0, none⟩), .pointer (some ⟨s3 + 1, 0, none⟩)], .pointer (some ⟨tb, 0, none⟩), .func (.func 22) #[] #[.pointer (some ⟨s4, 0, none⟩)], .func (.func 43) #[] #[.pointer (some ⟨s3, 0, none⟩), .pointer (some ⟨s3 + 1, 0, none⟩)], .bool false, .bool false, .func (.func 22) #[] #[.pointer (some ⟨s4, 0, none⟩)], .bool false, .bool false, u32, u33, u34, u35, u36, u37, u38, u39, u40, u41, u42, u43, u44, u45, u46, u47, u48, u49, u50, u51, u52, u53, u54, u55, u56, u57, u58, u59, u60, u61, u62, u63, u64, u65, u66], marksOf Ds⟩) (fun a _ => 2 - (intOf (a.tmps.getD 32 undef)).toNat) ?atStart ?round
  case atStart => exact ⟨[], _, _, _, _, _, _, _, _, _, _, _, _, _, _, _, _, _, _, _, _, _, _, _, _, _, _, _, _, _, _, _, _, _, _, _, _, _, _, _, _, _, ⟨0, by omega, rfl, Below.refl _ _, ⟨List.nodup_nil, fun D h => by simp at h, fun D h => by simp at h⟩⟩, rfl⟩
  case round =>
    rintro _ wr ⟨Ds, u32, u7, u8, u9, u10, u11, u12, u33, u34, u35, u36, u37, u38, u39, u40, u41, u42, u43, u44, u45, u46, u47, u48, u49, u50, u51, u52, u53, u54, u55, u56, u57, u58, u59, u60, u61, u62, u63, u64, u65, u66, ⟨j, hj, rfl, HI⟩, rfl⟩
    dsimp only
    have h5s := H5.out.2.2.1.size
    by_cases hlt : j < 2
    · have dj : decide ((j : Int) < 2) = true := decide_eq_true (by omega)
      obtain ⟨w6, HW6⟩ : ∃ w6, Hid (w6 = (wr.alloc (.cells #[.slice none 0 0] 22)).alloc (.cells #[.slice none 0 0] 22)) := ⟨_, rfl⟩
      have s6 : (wr.alloc (.cells #[.slice none 0 0] 22)).heap.size = wr.heap.size + 1 := by simp [World.size_alloc]
      have hs6 : w6.heap.size = wr.heap.size + 2 := by rw [HW6.out, World.size_alloc, s6]
      have hb6 : Below wr.heap.size wr w6 := by rw [HW6.out]; exact ((Below.refl _ _).alloc (Nat.le_refl _) _).alloc (by omega) _
      have q7 : w6.heap[wr.heap.size]? = some (.cells #[.slice none 0 0] 22) := by rw [HW6.out, Below.heap_alloc _ _ _ (by omega)]; exact heap_alloc_new _ _
      have q8 : w6.heap[wr.heap.size + 1]? = some (.cells #[.slice none 0 0] 22) := by rw [HW6.out, ← s6]; exact heap_alloc_new _ _
      have hHr : Held w1 wr tb T ne l.length es := H5.out.1.keep HI.out.1
      have hTin : Tin wr tb T ne l.length := hHr.tin
      have hfil := filAll' hHr
      have e1 : w6.cell? ⟨s3, 0, none⟩ = some (.pointer (some ⟨tb, 0, none⟩)) := (hb6.cell (Nat.lt_of_lt_of_le (World.block_lt_of_cell? w5 _ H5.out.2.2.2.2.1) HI.out.1.size)).trans ((HI.out.1.cell (World.block_lt_of_cell? w5 _ H5.out.2.2.2.2.1)).trans H5.out.2.2.2.2.1)
      have e2 : w6.cell? ⟨s3 + 1, 0, none⟩ = some (.string ⟨#[]⟩) := (hb6.cell (Nat.lt_of_lt_of_le (World.block_lt_of_cell? w5 _ H5.out.2.2.2.2.2.1) HI.out.1.size)).trans ((HI.out.1.cell (World.block_lt_of_cell? w5 _ H5.out.2.2.2.2.2.1)).trans H5.out.2.2.2.2.2.1)
      have e3 : wr.cell? ⟨s4, 0, none⟩ = some (.pointer (some ⟨tb, 0, none⟩)) := (HI.out.1.cell (World.block_lt_of_cell? w5 _ H5.out.2.2.2.2.2.2)).trans H5.out.2.2.2.2.2.2
      have HE3 : Hid (wr.cell? ⟨s4, 0, none⟩ = some (.pointer (some ⟨tb, 0, none⟩))) := e3
      have hG6 : Go2 wr w6 wr.heap.size [] w6 := ⟨hb6, Nat.le_refl _, fun _ _ _ => rfl, none, 0, 0, q7, World.ownsRow_nil _ _ _ _⟩
      have HQ8 : Hid (w6.heap[wr.heap.size + 1]? = some (.cells #[.slice none 0 0] 22)) := q8
      have hfl : (fil (l.length + 1) T ⟨#[]⟩).length ≤ es.length := by rw [hfil]; exact Nat.le_refl _
      obtain ⟨i0, hi, hz0, hz1, hz2⟩ := infoOf infoE
      have h6l : wr.heap.size + 1 < w6.heap.size := by omega
      clear q7 q8 e3 s6 hs6
      go_wp2_with fail
      rw [← HW6.out]
      clear HW6
      refine (wpIn_wide (n := 8)).1 ?_
      refine range_law (n := 8) (by omega) (gf := 43) (lb := #[.pointer (some ⟨s3, 0, none⟩), .pointer (some ⟨s3 + 1, 0, none⟩)]) rfl (enters_of Try.func43 (by kernel_rfl) rfl)
        (from_seq wr tb T ne l.length hTin ⟨#[]⟩ (by decide) (fun _ => False) s3 (s3 + 1) w6 hb6 (fun b h => h.elim) e1 e2) (fun h1 h2 => h1.trans h2) (kp_put hb6.size) (Below.refl _ _) (fun _ => rfl)
        (fun pre W => Go2 wr w6 wr.heap.size (pre.map (·.1)) W)
        (fun _ _ _ => False) ?hI (fun _ _ _ _ _ h _ _ => h) ?h0 ?a1 ?assign ?body ?done ?stop
      case assign =>
        intro l' m x W' K hK
        dsimp only [encE]
        gi_wp2
        exact hK
      case hI =>
        intro pre A C row hs hg hr
        exact Go2.ownFrom hb6.size (Nat.le_refl _) _ A C row hs hg hr
      case h0 => exact hG6
      case body =>
        rintro l' m pre x W' hsz' hI' hlen
        obtain ⟨gao, gn, gcap, hbox, hown⟩ := hI'.got
        have cc : W'.cell? ⟨wr.heap.size, 0, none⟩ = some (.slice gao gn gcap) := by rw [cell_of_blk hbox]; rfl
        have hbs := hI'.below.size
        have hpl : (pre.map (·.1)).length = pre.length := by simp
        have HG : Hid (Go2 wr w6 wr.heap.size (pre.map (·.1)) W' ∧ W'.heap[wr.heap.size]? = some (.cells #[.slice gao gn gcap] 22) ∧ OwnE W' w6.heap.size (.slice gao gn gcap) (pre.map (·.1))) := ⟨hI', hbox, hown⟩
        clear hI' hbox hown hG6 hTin hfil hHr
        gi_wp2_with (gi_at_builtin; refine wpListIn_append_own _ rfl (.tmp 37) (.tmp 41) 22 rfl w6.heap.size 35 i0 (.agg #[.string ⟨#[]⟩, .int .i64 0]) 2 24 Try.underlying22 hi hz0 hz1 hz2 rfl (by decide) _ (pre.map (·.1)).length _ rfl (World.ownsRow.alloc HG.out.2.2 _) ⟨W'.heap.size, 0, none⟩ 1 1 [.string x.1.1, .int .i64 x.1.2] rfl rfl (entry_new _ _ _) (by simp [Value.oneCell']) (by rw [hpl]; unfold maxLen; omega) (by rw [hpl]; omega) (by simp; omega) ?_)
        intro v8 w8 ho8 hg8 _
        obtain ⟨ag, cg, hv8, -, -⟩ := World.ownsRow.form ho8 (by omega)
        subst hv8
        obtain ⟨b8, ko8, kp8, go8⟩ := Go2.appended (m := pre.length + 1) (by rw [hpl]) (Nat.le_refl _) hb6.size HG.out.1.below HG.out.1.size HG.out.1.kept HG.out.2.1 HG.out.2.2 ho8 hg8
        have c8 : w8.cell? ⟨wr.heap.size, 0, none⟩ = some (.slice gao gn gcap) := by rw [cell_of_blk b8]; rfl
        have z8 : w8.frozen? ⟨wr.heap.size, 0, none⟩ = false := frozen_of_blk b8
        have HR : Hid (_ ∧ _ ∧ _) := ⟨ko8, kp8, go8⟩
        clear ho8 hg8 b8 ko8 kp8 go8 cc
        gi_wp2
        refine ⟨HR.out.1.from _, HR.out.2.1, ?_⟩
        show Go2 wr w6 _ ((pre ++ [x]).map (·.1)) _
        rw [List.map_append]
        exact HR.out.2.2
      case stop =>
        rintro D c xs W' _ _ h _
        exact h.elim
      case done =>
        rintro D1 xs W' hD1 hS hI' hK1
        rw [hS, hfil] at hI'
        have hsz : ∀ e ∈ es, e.1.size ≤ 140737488351296 := fun e he => fil_size (lo := ⟨#[]⟩) (n := l.length + 1) hTin.tree.tat e (by rw [hfil]; exact he)
        obtain ⟨uao, un, ucap, ubox, uown⟩ := hI'.got
        obtain ⟨uao', ucap', huge, huE⟩ := uown.ents hsz
        simp only [Value.slice.injEq] at huge
        obtain ⟨rfl, rfl, rfl⟩ := huge
        have hbW := hI'.below
        have q8' : W'.heap[wr.heap.size + 1]? = some (.cells #[.slice none 0 0] 22) := (hI'.kept _ (by omega) (by omega)).trans HQ8.out
        have e3' : W'.cell? ⟨s4, 0, none⟩ = some (.pointer (some ⟨tb, 0, none⟩)) := (hbW.cell (World.block_lt_of_cell? wr _ HE3.out)).trans HE3.out
        have hDn0 : DnI wr W' (wr.heap.size + 1) [] W' := ⟨hbW, Nat.le_refl _, fun _ _ _ => rfl, none, 0, 0, q8', World.ownsRow_nil _ _ _ _, fun _ => ⟨rfl, rfl, rfl⟩⟩
        have hents : fallE (l.length + 1) T = es.reverse := by unfold fallE; rw [hHr.ents]
        have hws := hbW.size
        have HU : Hid (EntsAt W' uao es ∧ W'.heap[wr.heap.size]? = some (.cells #[.slice uao es.length ucap] 22) ∧ W'.heap[D1]? = some (.deferred (some [])) ∧ w6.heap.size ≤ D1 ∧ W'.heap[wr.heap.size + 1]? = some (.cells #[.slice none 0 0] 22) ∧ ∀ e ∈ es, e.1.size ≤ 140737488351296) := ⟨huE, ubox, hK1, hD1, q8', hsz⟩
        clear hS hI' hK1 hD1 ubox uown huE q8' hG6 hsz e1 e2
        go_wp2_with fail
        refine (wpIn_wide (n := 8)).1 ?_
        refine range_lawF (n := 8) (by omega) (gf := 22) (lb := #[.pointer (some ⟨s4, 0, none⟩)]) rfl (enters_of Try.func22 (by kernel_rfl) rfl)
          (back_seqT wr tb T ne l.length hTin (fun _ => False) s4 W' hbW (fun b h => h.elim) e3') (fun h1 h2 => h1.trans h2) (kp_put hws) (Below.refl _ _) (fun _ => rfl)
          (fun pre W => DnI wr W' (wr.heap.size + 1) ((pre.map (·.1)).reverse) W)
          (DnI.ownM (f := fun (pre : List (El (fallE (l.length + 1) T))) => (pre.map (·.1)).reverse) hws (Nat.le_refl _)) (DnI.absK (f := fun (pre : List (El (fallE (l.length + 1) T))) => (pre.map (·.1)).reverse) hws (Nat.le_refl _)) ?h02 ?a12 ?assign2 ?body2 ?done2
        case assign2 =>
          intro l' m x W2 K hK
          dsimp only [encE]
          gi_wp2
          exact hK
        case h02 => exact hDn0
        case body2 =>
          rintro l' m pre x W2 hsz2 hI2 hok
          have hpl : pre.length < es.length := by
            have h1 := hok.length_le
            have h0 : (fallE (l.length + 1) T).length = es.length := (by rw [hents]; simp)
            rw [h0] at h1
            simp at h1
            omega
          obtain ⟨gao, gn, gcap, hbox, hown, hnil⟩ := hI2.got
          have cc : W2.cell? ⟨wr.heap.size + 1, 0, none⟩ = some (.slice gao gn gcap) := by rw [cell_of_blk hbox]; rfl
          have cca : (W2.alloc (.cells #[.string x.1.1, .int .i64 x.1.2] 35)).cell? ⟨wr.heap.size + 1, 0, none⟩ = some (.slice gao gn gcap) := by rw [cell_of_blk ((Below.heap_alloc _ _ _ (lt_of_heap hbox)).trans hbox)]; rfl
          have hrl : ((pre.map (·.1)).reverse).length = pre.length := by simp
          obtain ⟨L, hL⟩ : ∃ L, L = (pre.map (·.1)).reverse := ⟨_, rfl⟩
          rw [← hL] at hI2 hown hnil hrl
          have HLX : Hid (((pre ++ [x]).map (·.1)).reverse = x.1 :: L) := by show _ = _; rw [hL, List.map_append, List.reverse_append]; rfl
          have hone : (W2.alloc (.cells #[.string x.1.1, .int .i64 x.1.2] 35)).ownsRow W'.heap.size 35 2 (.slice (some ⟨W2.heap.size, 0, none⟩) 1 1) 1 [.string x.1.1, .int .i64 x.1.2] := ⟨rfl, .inr ⟨_, 1, _, rfl, hI2.size, heap_alloc_new _ _, Nat.le_refl _, by decide, rfl, rfl⟩⟩
          have HO : Hid (DnI wr W' (wr.heap.size + 1) L W2 ∧ W2.heap[wr.heap.size + 1]? = some (.cells #[.slice gao gn gcap] 22) ∧ OwnE W2 W'.heap.size (.slice gao gn gcap) L ∧ (W2.alloc (.cells #[.string x.1.1, .int .i64 x.1.2] 35)).ownsRow W'.heap.size 35 2 (.slice (some ⟨W2.heap.size, 0, none⟩) 1 1) 1 [.string x.1.1, .int .i64 x.1.2]) := ⟨hI2, hbox, hown, hone⟩
          have h2s := hI2.size
          have hLl : L.length < es.length := by omega
          clear hrl hpl
          clear hbox hI2 hone hok hL hDn0 hTin hfil hHr hents
          by_cases hL0 : L = []
          · obtain ⟨rfl, rfl, rfl⟩ := hnil hL0
            clear hown
            obtain ⟨b8, ko8, kp8, go8⟩ := DnI.step (tmp := .cells #[.string x.1.1, .int .i64 x.1.2] 35) (k := x.1.1) (v := x.1.2) (m := 1) (by rw [hL0]; rfl) (by omega) hws HO.out.1 HO.out.2.1 (by rw [hL0]; exact HO.out.2.2.2) (World.grownBy.refl _ _)
            have zca : (W2.alloc (.cells #[.string x.1.1, .int .i64 x.1.2] 35)).frozen? ⟨wr.heap.size + 1, 0, none⟩ = false := frozen_of_blk b8
            have HR : Hid (_ ∧ _ ∧ _) := ⟨ko8, kp8, go8⟩
            clear b8 ko8 kp8 go8 hnil
            gi_wp2_with (gi_at_builtin; refine wpListIn_append_none _ rfl (.tmp 49) (.tmp 50) 22 35 i0 rfl Try.underlying22 hi (some ⟨W2.heap.size, 0, none⟩) 1 1 (Nat.le_refl _) rfl rfl ?_)
            refine ⟨HR.out.1.from _, HR.out.2.1, ?_⟩
            show DnI wr W' _ (((pre ++ [x]).map (·.1)).reverse) _
            rw [HLX.out]
            exact HR.out.2.2
          · obtain ⟨g, rfl, rfl⟩ : ∃ g, gao = some ⟨g, 0, none⟩ ∧ gn = L.length := by
              rcases hown.2 with ⟨h0, h1⟩ | ⟨g, cap', cur, h0, -⟩
              · exact absurd (List.length_eq_zero_iff.1 h1) hL0
              · simp only [Value.slice.injEq] at h0; exact ⟨g, h0.1, h0.2.1⟩
            have hcl : ∀ j u, (enCells L)[j]? = some u → (W2.alloc (.cells #[.string x.1.1, .int .i64 x.1.2] 35)).cell? ((⟨g, 0, none⟩ : Addr).add j) = some u := World.ownsRow.cells (World.ownsRow.alloc hown (.cells #[.string x.1.1, .int .i64 x.1.2] 35)) (g := g) rfl
            have hoc : ∀ u ∈ enCells L, u.oneCell' = true := fun u hu => by
              simp only [enCells, List.mem_flatMap] at hu
              obtain ⟨e, -, he⟩ := hu
              simp at he
              rcases he with rfl | rfl <;> rfl
            have HCL : Hid (_ ∧ _) := ⟨hcl, hoc⟩
            have hel := enCells_length L
            have HEL : Hid ((enCells L).length = L.length * 2) := hel
            clear hcl hoc hel hown hnil
            gi_wp2_with (gi_at_builtin; refine wpListIn_append_own _ rfl (.tmp 49) (.tmp 50) 22 rfl W'.heap.size 35 i0 (.agg #[.string ⟨#[]⟩, .int .i64 0]) 2 24 Try.underlying22 hi hz0 hz1 hz2 rfl (by decide) _ 1 _ rfl HO.out.2.2.2 ⟨g, 0, none⟩ L.length gcap (enCells L) rfl HEL.out HCL.out.1 HCL.out.2 (by unfold maxLen; omega) (by omega) (by simp; omega) ?_)
            intro v8 w8 ho8 hg8 _
            obtain ⟨ag, cg, hv8, -, -⟩ := World.ownsRow.form ho8 (by omega)
            subst hv8
            obtain ⟨b8, ko8, kp8, go8⟩ := DnI.step (k := x.1.1) (v := x.1.2) (m := 1 + L.length) (by omega) (by omega) hws HO.out.1 HO.out.2.1 ho8 hg8
            have c8 : w8.cell? ⟨wr.heap.size + 1, 0, none⟩ = some (.slice (some ⟨g, 0, none⟩) L.length gcap) := by rw [cell_of_blk b8]; rfl
            have z8 : w8.frozen? ⟨wr.heap.size + 1, 0, none⟩ = false := frozen_of_blk b8
            have HR : Hid (_ ∧ _ ∧ _) := ⟨ko8, kp8, go8⟩
            clear ho8 hg8 b8 ko8 kp8 go8 cc cca HCL HEL
            gi_wp2
            refine ⟨HR.out.1.from _, HR.out.2.1, ?_⟩
            show DnI wr W' _ (((pre ++ [x]).map (·.1)).reverse) _
            rw [HLX.out]
            exact HR.out.2.2
        case done2 =>
          rintro D2 ys W2 hD2 hS2 hI2 hK2
          rw [hS2, hents, List.reverse_reverse] at hI2
          obtain ⟨dao, dn, dcap, dbox, down_, -⟩ := hI2.got
          obtain ⟨dao', dcap', hdge, hdE⟩ := down_.ents HU.out.2.2.2.2.2
          simp only [Value.slice.injEq] at hdge
          obtain ⟨rfl, rfl, rfl⟩ := hdge
          have huE := HU.out.1.but HU.out.2.2.2.2.1 hI2.kept
          have ub : W2.heap[wr.heap.size]? = some (.cells #[.slice uao es.length ucap] 22) := (hI2.kept _ (lt_of_heap HU.out.2.1) (by omega)).trans HU.out.2.1
          have k1 : W2.heap[D1]? = some (.deferred (some [])) := (hI2.kept _ (lt_of_heap HU.out.2.2.1) (fun e => by have h1 := HU.out.2.2.1; rw [e, HU.out.2.2.2.2.1] at h1; cases h1)).trans HU.out.2.2.1
          have cu : W2.cell? ⟨wr.heap.size, 0, none⟩ = some (.slice uao es.length ucap) := by rw [cell_of_blk ub]; rfl
          have cd : W2.cell? ⟨wr.heap.size + 1, 0, none⟩ = some (.slice dao es.length dcap) := by rw [cell_of_blk dbox]; rfl
          have hb52 : Below w5.heap.size w5 W2 := HI.out.1.trans (hI2.below.mono HI.out.1.size)
          have hMk : MarksAt w5.heap.size W2 (D2 :: D1 :: Ds) := by
            have hDs : ∀ D ∈ Ds, D < wr.heap.size := fun D hD => lt_of_heap (HI.out.2.here D hD)
            have l1 := lt_of_heap HU.out.2.2.1
            have hr := HI.out.1.size
            have h61 := HU.out.2.2.2.1
            refine ⟨List.nodup_cons.2 ⟨fun h => ?_, List.nodup_cons.2 ⟨fun h => ?_, HI.out.2.nd⟩⟩, fun D hD => ?_, fun D hD => ?_⟩
            · rcases List.mem_cons.1 h with rfl | h
              · omega
              · have := hDs _ h; omega
            · have := hDs _ h; omega
            · rcases List.mem_cons.1 hD with rfl | hD
              · exact hK2
              · rcases List.mem_cons.1 hD with rfl | hD
                · exact k1
                · exact (hI2.below.block D (hDs D hD)).trans (HI.out.2.here D hD)
            · rcases List.mem_cons.1 hD with rfl | hD
              · omega
              · rcases List.mem_cons.1 hD with rfl | hD
                · omega
                · exact HI.out.2.own D hD
          obtain ⟨is, his⟩ : ∃ is, is = idxTo (notLt (kyb ⟨#[]⟩)) es es.length := ⟨_, rfl⟩
          have hfa : es.filter (notLt (kyb ⟨#[]⟩)) = es := filter_all fun e _ => by
            unfold notLt
            simp only [Bool.not_eq_true', decide_eq_false_iff_not]
            exact not_lt_nil _
          have hgot : es = is.map (fun i => es.getD i (⟨#[]⟩, 0)) := by rw [his, idxTo_map _ _ _ (Nat.le_refl _), List.take_length, hfa]
          have hil : is.length ≤ es.length := by rw [his]; exact idxTo_len _ _ _
          have hgl : es.length = is.length := by have h1 := congrArg List.length hgot; rw [List.length_map] at h1; exact h1
          have HF : Hid ((Below w5.heap.size w5 W2 ∧ MarksAt w5.heap.size W2 (D2 :: D1 :: Ds)) ∧ DocAt W2 d es ps ∧ W2.heap[bm]? = some (.cells #[.slice d.k.ao es.length d.k.cap, .slice d.v.ao es.length d.v.cap, .slice d.l.ao es.length d.l.cap, .slice d.p.ao ps.length d.p.cap, .slice d.m.ao ps.length d.m.cap] 28) ∧ W2.cell? ⟨wr.heap.size, 0, none⟩ = some (.slice uao es.length ucap) ∧ W2.cell? ⟨wr.heap.size + 1, 0, none⟩ = some (.slice dao es.length dcap) ∧ EntsAt W2 uao es ∧ EntsAt W2 dao es ∧ is = idxTo (notLt (kyb ⟨#[]⟩)) es es.length ∧ es.length = is.length ∧ (∀ i ∈ is, i < es.length) ∧ es = is.map (fun i => es.getD i (⟨#[]⟩, 0))) := ⟨⟨hb52, hMk⟩, H5.out.2.1.keep hb52, (hb52.block _ (lt_of_heap H5.out.2.2.2.1)).trans H5.out.2.2.2.1, cu, cd, huE, hdE, his, hgl, by rw [his]; exact idxTo_lt _ _ _, hgot⟩
          clear hD2 hS2 hI2 hK2 dbox down_ hdE huE ub k1 cu cd hb52 hMk his hfa hgot hgl hDn0 hTin hfil hHr hents HU HI
          go_wp2_with fail
          refine wp_region_invG 13 (fun i v W => match i with
          | 0 => v = .slice uao es.length ucap
          | 1 => v = .agg #[.slice d.k.ao es.length d.k.cap, .slice d.v.ao es.length d.v.cap, .slice d.l.ao es.length d.l.cap, .slice d.p.ao ps.length d.p.cap, .slice d.m.ao ps.length d.m.cap]
          | 2 => v = .agg #[.slice d.k.ao es.length d.k.cap, .slice d.v.ao es.length d.v.cap, .slice d.l.ao es.length d.l.cap, .slice d.p.ao ps.length d.p.cap, .slice d.m.ao ps.length d.m.cap]
          | 3 => ∃ x : Sv, v = .slice x.ao is.length x.cap ∧ x.vs = natV is ∧ x.At W
          | 4 => v = .bool true
          | 5 => v = .bool false
          | 6 => v = .bool false
          | 7 => v = .slice dao es.length dcap
          | 8 => v = .agg #[.slice d.k.ao es.length d.k.cap, .slice d.v.ao es.length d.v.cap, .slice d.l.ao es.length d.l.cap, .slice d.p.ao ps.length d.p.cap, .slice d.m.ao ps.length d.m.cap]
          | 9 => v = .agg #[.slice d.k.ao es.length d.k.cap, .slice d.v.ao es.length d.v.cap, .slice d.l.ao es.length d.l.cap, .slice d.p.ao ps.length d.p.cap, .slice d.m.ao ps.length d.m.cap]
          | 10 => ∃ x : Sv, v = .slice x.ao is.length x.cap ∧ x.vs = natV is ∧ x.At W
          | 11 => v = .bool true
          | 12 => v = .bool false
          | _ => False) (fun _ => false) (by kernel_rfl) (by kernel_rfl) (by kernel_rfl) [some 52, some 53, some 54, some 55, some 56, some 57, some 58, some 59, some 60, some 61, some 62, some 63, some 64] (by kernel_rfl) ?mono ?hop ?tail
          case mono =>
            intro i v W W0 h hb
            match i, h with
            | 0, h => exact h
            | 1, h => exact h
            | 2, h => exact h
            | 3, ⟨x, h1, h2, h3⟩ => exact ⟨x, h1, h2, h3.below hb⟩
            | 4, h => exact h
            | 5, h => exact h
            | 6, h => exact h
            | 7, h => exact h
            | 8, h => exact h
            | 9, h => exact h
            | 10, ⟨x, h1, h2, h3⟩ => exact ⟨x, h1, h2, h3.below hb⟩
            | 11, h => exact h
            | 12, h => exact h
          case hop =>
            intro i o hi ho a W hB0 hs hd
            have hDW := HF.out.2.1.keep hB0
            have hbmW := (hB0.block _ (lt_of_heap HF.out.2.2.1)).trans HF.out.2.2.1
            match i, hi, ho, hd with
            | 0, _, ho, hd =>
              obtain rfl := Option.some.inj ho
              refine ⟨.inl rfl, ?_⟩
              exact f_loadLE rfl ((hs 7 (by kernel_rfl)).trans rfl) ((hB0.cell (World.block_lt_of_cell? W2 _ HF.out.2.2.2.1)).trans HF.out.2.2.2.1) ⟨_, rfl, rfl, Below.refl _ _, fun e => by cases e⟩
            | 1, _, ho, hd =>
              obtain rfl := Option.some.inj ho
              refine ⟨.inl rfl, ?_⟩
              exact f_loadTree rfl ((hs 4 (by kernel_rfl)).trans rfl) hbmW ⟨_, rfl, rfl, Below.refl _ _, fun e => by cases e⟩
            | 2, _, ho, hd =>
              obtain rfl := Option.some.inj ho
              refine ⟨.inl rfl, ?_⟩
              exact f_loadTree rfl ((hs 4 (by kernel_rfl)).trans rfl) hbmW ⟨_, rfl, rfl, Below.refl _ _, fun e => by cases e⟩
            | 3, _, ho, hd =>
              obtain rfl := Option.some.inj ho
              refine ⟨.inl rfl, ?_⟩
              have h1 : a.eval (.tmp 54) = .agg #[.slice d.k.ao es.length d.k.cap, .slice d.v.ao es.length d.v.cap, .slice d.l.ao es.length d.l.cap, .slice d.p.ao ps.length d.p.cap, .slice d.m.ao ps.length d.m.cap] := hd 2 54 (by kernel_rfl) (by kernel_rfl)
              refine wp_callF (f := 10) (vals := #[.agg #[.slice d.k.ao es.length d.k.cap, .slice d.v.ao es.length d.v.cap, .slice d.l.ao es.length d.l.cap, .slice d.p.ao ps.length d.p.cap, .slice d.m.ao ps.length d.m.cap], .string ⟨#[]⟩]) rfl (map2 h1 rfl) (by go_simp) ?_
              refine (refFrom_calls d es ps ⟨#[]⟩ W hDW (by decide) (by omega)).mono ?_
              rintro e w' ⟨x, rfl, hv, hx, hb⟩
              rw [← HF.out.2.2.2.2.2.2.2.1] at hv ⊢
              exact ⟨_, rfl, _, rfl, ⟨x, rfl, hv, hx⟩, hb, fun e => by cases e⟩
            | 4, _, ho, hd =>
              obtain rfl := Option.some.inj ho
              refine ⟨.inl rfl, ?_⟩
              have h1 : a.eval (.tmp 52) = .slice uao es.length ucap := hd 0 52 (by kernel_rfl) (by kernel_rfl)
              have h2 : a.eval (.tmp 53) = .agg #[.slice d.k.ao es.length d.k.cap, .slice d.v.ao es.length d.v.cap, .slice d.l.ao es.length d.l.cap, .slice d.p.ao ps.length d.p.cap, .slice d.m.ao ps.length d.m.cap] := hd 1 53 (by kernel_rfl) (by kernel_rfl)
              obtain ⟨x, h3, hv, hx⟩ : ∃ x : Sv, a.eval (.tmp 55) = .slice x.ao is.length x.cap ∧ x.vs = natV is ∧ x.At W := hd 3 55 (by kernel_rfl) (by kernel_rfl)
              refine wp_callF (f := 9) (vals := #[.slice uao es.length ucap, .agg #[.slice d.k.ao es.length d.k.cap, .slice d.v.ao es.length d.v.cap, .slice d.l.ao es.length d.l.cap, .slice d.p.ao ps.length d.p.cap, .slice d.m.ao ps.length d.m.cap], .slice x.ao is.length x.cap]) rfl (map3 h1 h2 h3) (by go_simp) ?_
              exact (these_calls uao ucap es d es ps x is W (HF.out.2.2.2.2.2.1.below hB0) hDW hx hv HF.out.2.2.2.2.2.2.2.2.1 HF.out.2.2.2.2.2.2.2.2.2.1 HF.out.2.2.2.2.2.2.2.2.2.2 (by omega) (by omega)).mono fun e w' ⟨he, hb⟩ => ⟨_, he, _, rfl, rfl, hb, fun e => by cases e⟩
            | 5, _, ho, hd =>
              obtain rfl := Option.some.inj ho
              refine ⟨.inl rfl, ?_⟩
              have h1 : a.eval (.tmp 56) = .bool true := hd 4 56 (by kernel_rfl) (by kernel_rfl)
              exact f_not rfl h1 ⟨_, rfl, rfl, Below.refl _ _, fun e => by cases e⟩
            | 6, _, ho, hd =>
              obtain rfl := Option.some.inj ho
              refine ⟨.inl rfl, ?_⟩
              have h1 : a.eval (.tmp 57) = .bool false := hd 5 57 (by kernel_rfl) (by kernel_rfl)
              exact f_move rfl h1 ⟨_, rfl, rfl, Below.refl _ _, fun e => by cases e⟩
            | 7, _, ho, hd =>
              obtain rfl := Option.some.inj ho
              have hg : a.eval (.tmp 58) = .bool false := hd 6 58 (by kernel_rfl) (by kernel_rfl)
              refine ⟨.inr ⟨6, false, 58, rfl, by kernel_rfl, hg⟩, ?_⟩
              exact f_loadLE rfl ((hs 8 (by kernel_rfl)).trans rfl) ((hB0.cell (World.block_lt_of_cell? W2 _ HF.out.2.2.2.2.1)).trans HF.out.2.2.2.2.1) ⟨_, rfl, rfl, Below.refl _ _, fun e => by cases e⟩
            | 8, _, ho, hd =>
              obtain rfl := Option.some.inj ho
              have hg : a.eval (.tmp 58) = .bool false := hd 6 58 (by kernel_rfl) (by kernel_rfl)
              refine ⟨.inr ⟨6, false, 58, rfl, by kernel_rfl, hg⟩, ?_⟩
              exact f_loadTree rfl ((hs 4 (by kernel_rfl)).trans rfl) hbmW ⟨_, rfl, rfl, Below.refl _ _, fun e => by cases e⟩
            | 9, _, ho, hd =>
              obtain rfl := Option.some.inj ho
              have hg : a.eval (.tmp 58) = .bool false := hd 6 58 (by kernel_rfl) (by kernel_rfl)
              refine ⟨.inr ⟨6, false, 58, rfl, by kernel_rfl, hg⟩, ?_⟩
              exact f_loadTree rfl ((hs 4 (by kernel_rfl)).trans rfl) hbmW ⟨_, rfl, rfl, Below.refl _ _, fun e => by cases e⟩
            | 10, _, ho, hd =>
              obtain rfl := Option.some.inj ho
              have hg : a.eval (.tmp 58) = .bool false := hd 6 58 (by kernel_rfl) (by kernel_rfl)
              refine ⟨.inr ⟨6, false, 58, rfl, by kernel_rfl, hg⟩, ?_⟩
              have h1 : a.eval (.tmp 61) = .agg #[.slice d.k.ao es.length d.k.cap, .slice d.v.ao es.length d.v.cap, .slice d.l.ao es.length d.l.cap, .slice d.p.ao ps.length d.p.cap, .slice d.m.ao ps.length d.m.cap] := hd 9 61 (by kernel_rfl) (by kernel_rfl)
              refine wp_callF (f := 10) (vals := #[.agg #[.slice d.k.ao es.length d.k.cap, .slice d.v.ao es.length d.v.cap, .slice d.l.ao es.length d.l.cap, .slice d.p.ao ps.length d.p.cap, .slice d.m.ao ps.length d.m.cap], .string ⟨#[]⟩]) rfl (map2 h1 rfl) (by go_simp) ?_
              refine (refFrom_calls d es ps ⟨#[]⟩ W hDW (by decide) (by omega)).mono ?_
              rintro e w' ⟨x, rfl, hv, hx, hb⟩
              rw [← HF.out.2.2.2.2.2.2.2.1] at hv ⊢
              exact ⟨_, rfl, _, rfl, ⟨x, rfl, hv, hx⟩, hb, fun e => by cases e⟩
            | 11, _, ho, hd =>
              obtain rfl := Option.some.inj ho
              have hg : a.eval (.tmp 58) = .bool false := hd 6 58 (by kernel_rfl) (by kernel_rfl)
              refine ⟨.inr ⟨6, false, 58, rfl, by kernel_rfl, hg⟩, ?_⟩
              have h1 : a.eval (.tmp 59) = .slice dao es.length dcap := hd 7 59 (by kernel_rfl) (by kernel_rfl)
              have h2 : a.eval (.tmp 60) = .agg #[.slice d.k.ao es.length d.k.cap, .slice d.v.ao es.length d.v.cap, .slice d.l.ao es.length d.l.cap, .slice d.p.ao ps.length d.p.cap, .slice d.m.ao ps.length d.m.cap] := hd 8 60 (by kernel_rfl) (by kernel_rfl)
              obtain ⟨x, h3, hv, hx⟩ : ∃ x : Sv, a.eval (.tmp 62) = .slice x.ao is.length x.cap ∧ x.vs = natV is ∧ x.At W := hd 10 62 (by kernel_rfl) (by kernel_rfl)
              refine wp_callF (f := 9) (vals := #[.slice dao es.length dcap, .agg #[.slice d.k.ao es.length d.k.cap, .slice d.v.ao es.length d.v.cap, .slice d.l.ao es.length d.l.cap, .slice d.p.ao ps.length d.p.cap, .slice d.m.ao ps.length d.m.cap], .slice x.ao is.length x.cap]) rfl (map3 h1 h2 h3) (by go_simp) ?_
              exact (these_calls dao dcap es d es ps x is W (HF.out.2.2.2.2.2.2.1.below hB0) hDW hx hv HF.out.2.2.2.2.2.2.2.2.1 HF.out.2.2.2.2.2.2.2.2.2.1 HF.out.2.2.2.2.2.2.2.2.2.2 (by omega) (by omega)).mono fun e w' ⟨he, hb⟩ => ⟨_, he, _, rfl, rfl, hb, fun e => by cases e⟩
            | 12, _, ho, hd =>
              obtain rfl := Option.some.inj ho
              have hg : a.eval (.tmp 58) = .bool false := hd 6 58 (by kernel_rfl) (by kernel_rfl)
              refine ⟨.inr ⟨6, false, 58, rfl, by kernel_rfl, hg⟩, ?_⟩
              have h1 : a.eval (.tmp 63) = .bool true := hd 11 63 (by kernel_rfl) (by kernel_rfl)
              exact f_not rfl h1 ⟨_, rfl, rfl, Below.refl _ _, fun e => by cases e⟩
            | n + 13, hi, _, _ => exact absurd hi (by omega)
          case tail =>
            intro vs W hB hR _
            have r6 : vs 6 = .bool false := hR 6 (by decide)
            have r12 : vs 12 = .bool false := hR 12 (by decide)
            have HEND : Hid (Below w5.heap.size w5 W ∧ MarksAt w5.heap.size W (D2 :: D1 :: Ds)) := ⟨HF.out.1.1.trans (hB.mono HF.out.1.1.size), HF.out.1.2.nd, fun D hD => (hB.block D (lt_of_heap (HF.out.1.2.here D hD))).trans (HF.out.1.2.here D hD), HF.out.1.2.own⟩
            clear hR hB
            simp only [putL, put_lit, List.setIfInBounds_toArray, List.set_cons_succ, List.set_cons_zero, List.drop_succ_cons, List.drop_zero]
            rw [r6, r12]
            clear r6 r12
            go_wp2_with fail
            refine ⟨⟨D2 :: D1 :: Ds, _, _, _, _, _, _, _, _, _, _, _, _, _, _, _, _, _, _, _, _, _, _, _, _, _, _, _, _, _, _, _, _, _, _, _, _, _, _, _, _, _, ⟨j + 1, by omega, ?_, HEND⟩, rfl⟩, ?_⟩
            · go_num
            · simp [intOf]; omega
    · have hj2 : j = 2 := by omega
      have dj : decide ((j : Int) < 2) = false := decide_eq_false (by omega)
      have HM : Hid (MarksAt w5.heap.size wr Ds ∧ Below w5.heap.size w5 wr) := ⟨HI.out.2, HI.out.1⟩
      clear HI hj2
      go_wp2_with fail
      refine leaves_marks Ds wr HM.out.1 (fun w' hb => ⟨_, results_tmp rfl _ _ _, rfl, ?_⟩)
      exact H5.out.2.2.1.trans ((HM.out.2.trans hb).mono h5s)
end Go.Proofs.Ytnmndjplbcpglaa
