/- Layer 5 (txn): the walk of TxnHeld. -/
import Derived.Test.YtdmhffbohnfdlaaGreatTHeldM
import Derived.Test.YtdmhffbohnfdlaaGreatTArgs
import Derived.Test.YtdmhffbohnfdlaaGreatWSync
import Derived.BigQuiet
namespace Go.Proofs.YtdmhffbohnfdlaaGreat
open Go.RowKit Go.Shelf
open scoped Classical
set_option linter.unusedVariables false
attribute [local go_sem] Oper.semAt_some

theorem eql_seq5 (fn : Fn) (first cap : Array Value) (w : World) : (binOp .eql 72 (.func fn first cap) .nilFunc).run Tryz.prog w = .ok (.bool false) w := by
  have hu := Tryz.underlying72
  have h : (Op.equal 72 (.func fn first cap) .nilFunc).run Tryz.prog w = .ok false w := by
    show (Op.equalIn (9999 + 1) _ _ _).run _ _ = _
    rw [Op.equalIn]
    simp [run_underlying hu, Sem.run_bind, Result.andThen]
  simp [binOp, h, go_sem]
theorem infoCh : (Tryz.prog.info? 57).map (fun i => (i.zero, i.size, i.bytes)) = some (some (.agg #[.bool false, .string ⟨#[]⟩, .int .i64 0]), 3, 32) := by kernel_rfl
theorem infoTp : (Tryz.prog.info? 50).map (fun i => (i.zero, i.size, i.bytes)) = some (some (.pointer none), 1, 8) := by kernel_rfl
theorem infoChs : (Tryz.prog.info? 52).map (fun i => (i.zero, i.size, i.bytes)) = some (some (.slice none 0 0), 1, 24) := by kernel_rfl
/-- How many changes the first j lists have. -/
def dOf (ls : List Chs) (j : Nat) : Nat := ((ls.take j).map fun c => c.2.2.length).sum
theorem dOf_succ (ls : List Chs) (j : Nat) (h : j < ls.length) : dOf ls (j + 1) = dOf ls j + ls[j].2.2.length := by
  unfold dOf; rw [List.take_succ_eq_append_getElem h, List.map_append, List.sum_append]; simp
theorem dOf_le (ls : List Chs) (j : Nat) : dOf ls j ≤ dOf ls ls.length := by
  unfold dOf; rw [List.take_length]
  induction ls generalizing j with
  | nil => simp
  | cons c ls ih => cases j with
    | zero => simp
    | succ j => simp only [List.take_succ_cons, List.map_cons, List.sum_cons]; exact Nat.add_le_add_left (ih j) _

set_option maxRecDepth 100000 in
set_option maxHeartbeats 8000000 in
theorem txnHeld_calls (ao : Option Addr) (cap : Nat) (ls : List Chs) (w : World) (hl : ChssAt w ao ls) (hn : ls.length ≤ 1048576) (hN : dOf ls ls.length ≤ 1048576) :
    Calls Tryz.prog 5 #[.slice ao ls.length cap] w fun e w' => e = .returned (.bool true) ∧ Below w.heap.size w w' := by
  have hnot : ∀ (x : Bool) (w : World), (Op.unary .not (.bool x)).run Tryz.prog w = .ok (.bool (!x)) w := fun _ _ => rfl
  have HA := txnAlive_calls w
  have HS : Hid (ChssAt w ao ls) := hl
  have hef := eql_seq5
  clear hl
  refine (callsIn_wide (n := 8)).1 ?_
  refine callsIn_of_wp_marks Tryz.func5 rfl trivial ?_ rfl
  refine wpIn_wide.2 ?_
  simp only [Tryz.ntmps5, List.size_toArray, List.length_cons, List.length_nil, Nat.reduceAdd, Nat.reduceSub, Array.replicate_succ, Array.replicate_zero, List.push_toArray, List.append_toArray, List.nil_append, List.cons_append]
  go_wp2_with fail
  refine HA.mono ?_
  clear HA
  rintro e w1 ⟨rfl, hb1⟩
  have HB1 : Hid (Below w.heap.size w w1) := hb1
  clear hb1
  go_wp2_with fail
  refine (newBase_calls w1).mono ?_
  rintro e w2 ⟨bb, vb, tb, rfl, hb2, hB2, ⟨a, g, hT2, hW2, hBg⟩, hbb⟩
  have hb2' : Below w.heap.size w w2 := HB1.out.trans (hb2.mono HB1.out.size)
  have HI2 : Hid (HdI w bb vb tb (.nd a ⟨#[]⟩ none [] g) 0 [] 0 (dOf ls ls.length) 0 0 [] [] (.slice none 0 0) (.slice none 0 0) w2) :=
    ⟨hB2, bare_held hT2, .mk (Nat.lt_of_le_of_lt HB1.out.size hBg) (fun x e => by cases e) (fun c hc => by simp at hc), by rw [marks_nd]; simp [vmark], hb2', Nat.le_trans HB1.out.size hbb, by decide, fun k hk => by simp at hk, OwnV.nil _ _ _, fun g cur hg => by simp [Value.ownBlock] at hg, OwnV.nil _ _ _, fun g cur hg => by simp [Value.ownBlock] at hg, ⟨List.nodup_nil, fun D h => by simp at h, fun D h => by simp at h⟩⟩
  clear hb2 hb2' hB2 hT2 hW2 hBg hbb HB1
  go_wp2_with fail
  -- LOOP
  refine wp_loop (fun a wr => ∃ (Ds : List Nat) (u4 u5 u26 u7 u8 u9 u10 u11 u12 u27 u28 u29 u30 u31 u32 u33 u34 u35 u36 u37 u38 u39 u40 u41 u42 u43 u44 u45 u46 u47 u48 u49 u50 u51 u52 u53 u54 u55 u56 u57 u58 u59 u60 : Value), (∃ (j vb tb : Nat) (T : Tr) (ne nm : Int) (en : List En) (ks : List Kd), j ≤ ls.length ∧ u26 = .int .i64 j ∧ ks.length = j ∧ Hid (HdI w bb vb tb T ne en (dOf ls j) (dOf ls ls.length) j nm ks Ds u4 u5 wr)) ∧ a = ⟨#[.slice ao ls.length cap, undef, .bool false, .pointer (some ⟨bb, 0, none⟩), u4, u5, undef, u7, u8, u9, u10, u11, u12, undef, undef, undef, undef, undef, undef, .bool true, .bool false, .pointer (some ⟨bb, 0, none⟩), .pointer (some ⟨bb, 0, none⟩), .bool false, .slice ao ls.length cap, .int .i64 ls.length, u26, u27, u28, u29, u30, u31, u32, u33, u34, u35, u36, u37, u38, u39, u40, u41, u42, u43, u44, u45, u46, u47, u48, u49, u50, u51, u52, u53, u54, u55, u56, u57, u58, u59, u60, undef, undef, undef, undef, undef, undef, undef, undef, undef, undef, undef, undef, undef, undef, undef, undef, undef, undef, undef, undef, undef, undef, undef, undef, undef, undef, undef, undef, undef, undef, undef, undef, undef, undef, undef, undef, undef, undef, undef, undef, undef], marksOf Ds⟩) (fun a _ => ls.length - (intOf (a.tmps.getD 26 undef)).toNat) ?atStart ?round
  case atStart => exact ⟨[], _, _, _, _, _, _, _, _, _, _, _, _, _, _, _, _, _, _, _, _, _, _, _, _, _, _, _, _, _, _, _, _, _, _, _, _, _, _, _, _, _, _, _, ⟨0, vb, tb, _, _, _, _, [], Nat.zero_le _, rfl, rfl, HI2⟩, rfl⟩
  case round =>
    rintro _ wr ⟨Ds, u4, u5, u26, u7, u8, u9, u10, u11, u12, u27, u28, u29, u30, u31, u32, u33, u34, u35, u36, u37, u38, u39, u40, u41, u42, u43, u44, u45, u46, u47, u48, u49, u50, u51, u52, u53, u54, u55, u56, u57, u58, u59, u60, ⟨j, vb, tb, T, ne, nm, en, ks, hj, rfl, hks, HI⟩, rfl⟩
    clear HI2
    dsimp only
    by_cases hlt : j < ls.length
    · obtain ⟨b, off, rfl, c0, hC⟩ := HS.out j hlt
      have HDS : Hid (dOf ls (j + 1) = dOf ls j + ls[j].2.2.length) := dOf_succ ls j hlt
      have HDL : Hid (dOf ls (j + 1) ≤ dOf ls ls.length) := dOf_le ls (j + 1)
      obtain ⟨⟨la, lc, l⟩, hlj⟩ : ∃ c, c = ls[j] := ⟨_, rfl⟩
      rw [← hlj] at c0 hC HDS
      clear hlj
      simp only at c0 hC HDS
      have c0' : wr.cell? ⟨b, off + j, none⟩ = some (.slice la l.length lc) := (HI.out.below.cell (World.block_lt_of_cell? w _ c0)).trans c0
      have hC' : ChAt w.heap.size wr la l := hC.kept fun b hb _ => HI.out.below.block b hb
      have hd1 := HDS.out
      have hd2 := HDL.out
      have hnm := HI.out.num
      have HD := done_calls bb vb tb nm T ne (dOf ls j) en la lc l true w.heap.size wr HI.out.base HI.out.held HI.out.abv HI.out.mks HI.out.own hC' (by omega) (by omega) (by omega)
      clear c0 hC hC' hd1 hd2 hnm
      go_wp2_with fail
      refine HD.mono ?_
      clear HD
      rintro e w6 ⟨rfl, h6⟩
      obtain ⟨vb6, tb6, T6, ne6, nm6, en6, h6'⟩ := HI.out.done h6
      have HI6 : Hid (HdI w bb vb6 tb6 T6 ne6 en6 (dOf ls (j + 1)) (dOf ls ls.length) (j + 1) nm6 ks Ds u4 u5 w6) := by
        show HdI _ _ _ _ _ _ _ _ _ _ _ _ _ _ _ _
        rw [HDS.out]; exact h6'
      have HT := tree_calls bb vb6 tb6 nm6 false w6 h6'.base
      have HF := all_calls (some ⟨tb6, 0, none⟩) w6
      clear h6 h6' HI HDS c0'
      go_wp2_with fail
      refine HT.mono ?_
      clear HT
      rintro e w7 ⟨rfl, hw7⟩
      rw [hw7]
      clear hw7 w7
      go_wp2_with fail
      refine HF.mono ?_
      clear HF
      rintro e w8 ⟨rfl, hw8⟩
      obtain ⟨hb8, hs8, d1, d2⟩ := from_boxes hw8
      have HB8 : Hid (Below w6.heap.size w6 w8 ∧ w8.cell? ⟨w6.heap.size, 0, none⟩ = some (.pointer (some ⟨tb6, 0, none⟩)) ∧ w8.cell? ⟨w6.heap.size + 1, 0, none⟩ = some (.string ⟨#[]⟩)) := ⟨hb8, d1, d2⟩
      obtain ⟨w9, HW9⟩ : ∃ w9, Hid (w9 = (w8.alloc (.cells #[] 57)).alloc (.cells #[.slice (some ⟨w6.heap.size + 2, 0, none⟩) 0 0] 52)) := ⟨_, rfl⟩
      have s9 : (w8.alloc (.cells #[] 57)).heap.size = w6.heap.size + 2 + 1 := by rw [World.size_alloc, hs8]
      have hb9 : Below w8.heap.size w8 w9 := by rw [HW9.out]; exact ((Below.refl _ _).alloc (Nat.le_refl _) _).alloc (by rw [s9, hs8]; omega) _
      have q9 : w9.heap[w6.heap.size + 2]? = some (.cells #[] 57) := by rw [HW9.out, Below.heap_alloc _ _ _ (by rw [s9]; omega), ← hs8]; exact heap_alloc_new _ _
      have q9' : w9.heap[w6.heap.size + 2 + 1]? = some (.cells #[.slice (some ⟨w6.heap.size + 2, 0, none⟩) 0 0] 52) := by rw [HW9.out, ← s9]; exact heap_alloc_new _ _
      have hb69 : Below w6.heap.size w6 w9 := HB8.out.1.trans (hb9.mono HB8.out.1.size)
      have d1' : w9.cell? ⟨w6.heap.size, 0, none⟩ = some (.pointer (some ⟨tb6, 0, none⟩)) := (hb9.cell (by show w6.heap.size < _; omega)).trans HB8.out.2.1
      have d2' : w9.cell? ⟨w6.heap.size + 1, 0, none⟩ = some (.string ⟨#[]⟩) := (hb9.cell (by show w6.heap.size + 1 < _; omega)).trans HB8.out.2.2
      have hI9 : GaI chCells 57 52 3 w6 (w6.heap.size + 2 + 1) [] w9 := ⟨hb69, _, _, _, q9', ⟨rfl, .inr ⟨_, 0, #[], rfl, by omega, q9, Nat.le_refl _, by decide, rfl, rfl⟩⟩⟩
      have hTin := HI6.out.held.tin
      have hfil := filAll' HI6.out.held
      have HIN : Hid ((∀ e ∈ en6, e.1.size ≤ 140737488351296) ∧ en6.length ≤ dOf ls (j + 1)) := ⟨fun e he => by rw [← hfil] at he; exact fil_size hTin.tree.tat e he, by have h1 := HI6.out.held.cnt; have h2 := HI6.out.held.good.hi; omega⟩
      obtain ⟨i0, hi, hz0, hz1, hz2⟩ := infoOf infoCh
      clear hw8 hb8 d1 d2
      go_wp2_with fail
      rw [← HW9.out]
      clear HW9 s9 hb9 q9 q9' HB8
      refine (wpIn_wide (n := 8)).1 ?_
      refine range_law (n := 8) (by omega) (gf := 95) (lb := #[.pointer (some ⟨w6.heap.size, 0, none⟩), .pointer (some ⟨w6.heap.size + 1, 0, none⟩)]) rfl (enters_of Tryz.func95 (by kernel_rfl) rfl)
        (from_seq w6 tb6 T6 ne6 (dOf ls (j + 1)) hTin ⟨#[]⟩ (by decide) (fun _ => False) w6.heap.size (w6.heap.size + 1) w9 hb69 (fun b h => h.elim) d1' d2') (fun h1 h2 => h1.trans h2) (kp_put hb69.size) (Below.refl _ _) (fun _ => rfl)
        (fun pre W => GaI chCells 57 52 3 w6 (w6.heap.size + 2 + 1) (pre.map (·.1)) W)
        (fun _ _ _ => False) ?hI (fun _ _ _ _ _ h _ _ => h) ?h0 ?a1 ?assign ?body ?done ?stop
      case assign =>
        intro l' m x W' K hK
        dsimp only [encE]
        gi_wp2
        exact hK
      case hI =>
        intro pre A C row hs hg hr
        exact GaI.ownFrom hb69.size _ A C row hs hg hr
      case h0 => exact hI9
      case body =>
        rintro l' m pre x W' hsz' hI' hlen
        have hpre : pre.length < 1048576 := by have h0 := congrArg List.length hfil; have h1 := HIN.out.2; have h2 := HDL.out; omega
        obtain ⟨gao, gn, gcap, hbox, hown⟩ := hI'.got
        have cc : W'.cell? ⟨w6.heap.size + 2 + 1, 0, none⟩ = some (.slice gao gn gcap) := by rw [cell_of_blk hbox]; rfl
        have hbs := hI'.below.size
        have HG : Hid (Below w6.heap.size w6 W' ∧ W'.heap[w6.heap.size + 2 + 1]? = some (.cells #[.slice gao gn gcap] 52) ∧ OwnG chCells 57 3 W' w6.heap.size (.slice gao gn gcap) (pre.map (·.1))) := ⟨hI'.below, hbox, hown⟩
        have hpl : (pre.map (·.1)).length = pre.length := by simp
        clear hI' hbox hown hlen HI6 HIN hI9 hTin hfil
        gi_wp2_with (gi_at_builtin; refine wpListIn_append_own _ rfl (.tmp 46) (.tmp 50) 52 rfl w6.heap.size 57 i0 (.agg #[.bool false, .string ⟨#[]⟩, .int .i64 0]) 3 32 Tryz.underlying52 hi hz0 hz1 hz2 rfl (by decide) _ (pre.map (·.1)).length _ rfl (World.ownsRow.alloc HG.out.2.2 _) ⟨W'.heap.size, 0, none⟩ 1 1 [.bool false, .string x.1.1, .int .i64 x.1.2] rfl rfl (cells_new W' [.bool false, .string x.1.1, .int .i64 x.1.2] 57) (by simp [Value.oneCell']) (by rw [hpl]; unfold maxLen; omega) (by rw [hpl]; omega) (by simp; omega) ?_)
        intro v8 w8 ho8 hg8 _
        obtain ⟨ag, cg, hv8, -, -⟩ := World.ownsRow.form ho8 (by omega)
        subst hv8
        obtain ⟨b8, ko8, kp8, go8⟩ := GaI.appended (f := chCells) (x := x.1) (m := pre.length + 1) (by decide) (fun ty hty => by rcases hty with rfl | rfl | rfl | rfl <;> exact ⟨by decide, by decide⟩) (by rw [hpl]) (by omega) HG.out.1 HG.out.2.1 HG.out.2.2 ho8 hg8
        have c8 : w8.cell? ⟨w6.heap.size + 2 + 1, 0, none⟩ = some (.slice gao gn gcap) := by rw [cell_of_blk b8]; rfl
        have z8 : w8.frozen? ⟨w6.heap.size + 2 + 1, 0, none⟩ = false := frozen_of_blk b8
        have HR : Hid (_ ∧ _ ∧ _) := ⟨ko8, kp8, go8⟩
        clear ho8 hg8 b8 ko8 kp8 go8 cc
        gi_wp2
        refine ⟨HR.out.1.from _, HR.out.2.1, ?_⟩
        show GaI chCells _ _ 3 w6 _ ((pre ++ [x]).map (·.1)) _
        rw [List.map_append]
        exact HR.out.2.2
      case done =>
        rintro D xs W' hD hS hI' hK
        rw [hS, hfil] at hI'
        obtain ⟨gao, gn, gcap, hbox, hown⟩ := hI'.got
        obtain ⟨gao', gcap', hge, hgE⟩ := OwnG.changes (B := w.heap.size) hown HIN.out.1
        simp only [Value.slice.injEq] at hge
        obtain ⟨rfl, rfl, rfl⟩ := hge
        have HIW : Hid (HdI w bb vb6 tb6 T6 ne6 en6 (dOf ls (j + 1)) (dOf ls ls.length) (j + 1) nm6 ks (D :: Ds) u4 u5 W') := HI6.out.mark hI'.below (Nat.le_trans hb69.size hD) hK
        obtain ⟨kd, hkd⟩ : ∃ kd : Kd, kd = ⟨tb6, T6, ne6, en6, gao, gcap⟩ := ⟨_, rfl⟩
        have HKD : Hid (Kd.At w.heap.size (dOf ls ls.length) W' kd) := by rw [hkd]; exact ⟨HIW.out.held.deeper HDL.out, hgE⟩
        have HKE : Hid (kd.tb = tb6 ∧ kd.ao = gao ∧ kd.es = en6 ∧ kd.cap = gcap) := by rw [hkd]; exact ⟨rfl, rfl, rfl, rfl⟩
        have cc : W'.cell? ⟨w6.heap.size + 2 + 1, 0, none⟩ = some (.slice gao en6.length gcap) := by rw [cell_of_blk hbox]; rfl
        have HBX : Hid (W'.heap[w6.heap.size + 2 + 1]? = some (.cells #[.slice gao en6.length gcap] 52)) := hbox
        have hBW := HIW.out.below.size
        have hlt2 := HIW.out.trs
        clear hkd hS hI' hbox hown hgE hK HI6 hI9 hTin hfil HIN d1' d2' hb69
        have LT : (trsV ks).length + 1 ≤ 1048577 := by rw [trsV_length]; omega
        go_wp2_with (at_builtin; refine append_valq (QT (ks ++ [kd])) W' rfl (.tmp 52) (.tmp 54) 35 50 (.pointer none) (.pointer none) 8 Tryz.underlying35 infoTp rfl (.inl rfl) rfl w.heap.size u4 (trsV ks) rfl (.pointer (some ⟨tb6, 0, none⟩)) rfl (.inr ⟨kd, by simp, by rw [HKE.out.1]⟩) _ rfl rfl HIW.out.trs (HIW.out.trq.imp fun x hx => hx.mono (fun k hk => List.mem_append_left _ hk)) (fun x hx => by obtain ⟨k, hk, rfl⟩ := List.mem_map.1 hx; exact .inr ⟨k, List.mem_append_left _ hk, rfl⟩) (by omega) (by omega) hBW ?_)
        intro vt' w10 o1 g1 q1
        obtain ⟨s1, r3, rq3⟩ := HIW.out.grow g1
        have c10 : w10.cell? ⟨w6.heap.size + 2 + 1, 0, none⟩ = some (.slice gao en6.length gcap) := g1.cell cc (fun e => own_ne (HIW.out.trs.typed _ e.symm) HBX.out (by decide) rfl)
        have HR3 : Hid (OwnV w10 w.heap.size 52 u5 (rowsV ks) ∧ OwnQ QS 52 w10 u5 ∧ OwnV w10 w.heap.size 50 vt' (trsV ks ++ [.pointer (some ⟨tb6, 0, none⟩)]) ∧ Grew W' w10 u4 vt' ∧ OwnQ (QT (ks ++ [kd])) 50 w10 vt') := ⟨r3, rq3, o1, g1, q1⟩
        have hB10 : w.heap.size ≤ w10.heap.size := Nat.le_trans hBW g1.size
        have LR : (rowsV ks).length + 1 ≤ 1048577 := by rw [rowsV_length]; omega
        clear cc o1 g1 q1 s1 r3 rq3 LT
        go_wp2_with (at_builtin; refine append_valq QS w10 rfl (.tmp 56) (.tmp 58) 70 52 (.slice none 0 0) (.slice none 0 0) 24 Tryz.underlying70 infoChs rfl (fun p h => by cases h) rfl w.heap.size u5 (rowsV ks) rfl (.slice gao en6.length gcap) rfl (fun p h => by cases h) _ rfl rfl HR3.out.1 HR3.out.2.1 (fun x hx p e => by obtain ⟨k, hk, rfl⟩ := List.mem_map.1 hx; cases e) (by omega) (by omega) hB10 ?_)
        intro vs' w11 o2 g2 q2
        have HI11 : Hid (HdI w bb vb6 tb6 T6 ne6 en6 (dOf ls (j + 1)) (dOf ls ls.length) (j + 1) nm6 (ks ++ [kd]) (D :: Ds) vt' vs' w11) := HIW.out.push HKD.out (by rw [HKE.out.1]; exact HR3.out.2.2.1) HR3.out.2.2.2.1 HR3.out.2.2.2.2 (by rw [HKE.out.2.1, HKE.out.2.2.1, HKE.out.2.2.2]; exact o2) g2 q2
        clear o2 g2 q2 c10 HR3 HIW HKD HKE HBX LR
        go_wp2_with fail
        refine ⟨⟨D :: Ds, vt', vs', _, _, _, _, _, _, _, _, _, _, _, _, _, _, _, _, _, _, _, _, _, _, _, _, _, _, _, _, _, _, _, _, _, _, _, _, _, _, _, _, _, ⟨j + 1, vb6, tb6, T6, ne6, nm6, en6, ks ++ [kd], by omega, ?_, by simp [hks], HI11⟩, rfl⟩, ?_⟩
        · go_num
        · simp [intOf]; omega
      case stop =>
        rintro D c xs W' _ _ h _
        exact h.elim
    · have hjl : j = ls.length := by omega
      subst hjl
      obtain ⟨ta, tc, hu4⟩ := HI.out.trs.shape
      obtain ⟨ra, rc, hu5⟩ := HI.out.row.shape
      rw [trsV_length, hks] at hu4
      rw [rowsV_length, hks] at hu5
      subst hu4 hu5
      obtain ⟨wz, hwz⟩ : ∃ wz, wz = wr := ⟨_, rfl⟩
      subst hwz
      have hR0 := HI.out.below.size
      clear HS
      go_wp2_with fail
      go_loopw [63] (fun i w2 => ∃ q : Nat, q ≤ ls.length ∧ i = .int .i64 q ∧ Hid (Below wz.heap.size wz w2)) (fun i _ => ls.length - (intOf i).toNat)
      case atStart => exact ⟨0, Nat.zero_le _, rfl, Below.refl _ _⟩
      case round =>
        obtain ⟨q, hq, rfl, HQ⟩ := hrel
        by_cases hql : q < ls.length
        · have hqk : q < ks.length := by omega
          obtain ⟨g4, rfl, t0⟩ := HI.out.trs.at q (by rw [trsV_length]; exact hqk)
          obtain ⟨g5, rfl, t1⟩ := HI.out.row.at q (by rw [rowsV_length]; exact hqk)
          have hk := HI.out.kept ks[q] (List.getElem_mem hqk)
          obtain ⟨⟨tbk, Tk, nek, esk, aok, capk⟩, hkk⟩ : ∃ k : Kd, k = ks[q] := ⟨_, rfl⟩
          have e0 : (trsV ks)[q]'(by rw [trsV_length]; exact hqk) = .pointer (some ⟨tbk, 0, none⟩) := by simp [trsV, ← hkk]
          have e1 : (rowsV ks)[q]'(by rw [rowsV_length]; exact hqk) = .slice aok esk.length capk := by simp [rowsV, ← hkk]
          rw [e0] at t0
          rw [e1] at t1
          rw [← hkk] at hk
          have hcnt : nek = (esk.length : Int) := hk.held.cnt
          subst hcnt
          have hS := Stl.ofBelow HQ.out hR0
          have t0' : wr.cell? ⟨g4, q, none⟩ = some (.pointer (some ⟨tbk, 0, none⟩)) := (HQ.out.cell (World.block_lt_of_cell? wz _ t0)).trans t0
          have t1' : wr.cell? ⟨g5, q, none⟩ = some (.slice aok esk.length capk) := (HQ.out.cell (World.block_lt_of_cell? wz _ t1)).trans t1
          have HK : Hid (Kd.At w.heap.size (dOf ls ls.length) wr ⟨tbk, Tk, (esk.length : Int), esk, aok, capk⟩) := hk.keep hS
          have HT : Hid (∀ n, TreeAt (wr.drewN n) tbk Tk (esk.length : Int)) := fun n => HK.out.held.good.tree.keep (drewN_below wr n)
          have hel : esk.length ≤ 1048576 := by have h1 := hk.held.good.hi; simp only at h1; omega
          have i1 : (0 : Int) ≤ (q : Int) ∧ (q : Int) < (ls.length : Int) := by omega
          clear t0 t1 e0 e1 hkk hk hS
          go_wp2_with fail
          go_quiet ((go_at_call 28; exact Calls.quiet_of_same (len_calls tbk Tk (esk.length : Int) _ (HT.out _))))
          obtain ⟨wy, hwy⟩ : ∃ wy, wy = wr.drewN nq := ⟨_, rfl⟩
          have hby : Below wr.heap.size wr wy := by rw [hwy]; exact drewN_below wr nq
          rw [← hwy]
          have t1y : wy.cell? ⟨g5, q, none⟩ = some (.slice aok esk.length capk) := (hby.cell (World.block_lt_of_cell? wr _ t1')).trans t1'
          have HKY : Hid (Kd.At w.heap.size (dOf ls ls.length) wy ⟨tbk, Tk, (esk.length : Int), esk, aok, capk⟩ ∧ Below wz.heap.size wz wy ∧ w.heap.size ≤ wy.heap.size) := ⟨HK.out.keep (Stl.ofBelow hby (Nat.le_trans hR0 HQ.out.size)), HQ.out.trans (hby.mono HQ.out.size), Nat.le_trans hR0 (Nat.le_trans HQ.out.size hby.size)⟩
          clear hwy t0' t1' HK HT hby HQ
          go_wp2_with fail
          go_loopw [81] (fun i w2 => ∃ p : Nat, p ≤ esk.length ∧ i = .int .i64 p ∧ Hid (Below wy.heap.size wy w2)) (fun i _ => esk.length - (intOf i).toNat)
          case atStart => exact ⟨0, Nat.zero_le _, rfl, Below.refl _ _⟩
          case round =>
            obtain ⟨p, hp, rfl, HP⟩ := hrel
            by_cases hpl : p < esk.length
            · have hKP := HKY.out.1.keep (Stl.ofBelow HP.out HKY.out.2.2)
              obtain ⟨rb, ro, hao, -, c0, c1, c2, hsz⟩ := hKP.row p (by rw [chOf_length]; exact hpl)
              simp only at hao
              subst hao
              have ech : (chOf esk)[p]'(by rw [chOf_length]; exact hpl) = (false, esk[p].1, esk[p].2) := by simp [chOf]
              have hmem : esk[p] ∈ esk := List.getElem_mem hpl
              simp only at c0 c1 c2 hsz
              rw [ech] at c0 c1 c2 hsz
              obtain ⟨⟨kk, vv⟩, hkv⟩ : ∃ e, e = esk[p] := ⟨_, rfl⟩
              rw [← hkv] at c0 c1 c2 hsz hmem
              clear hkv ech
              simp only at c0 c1 c2 hsz
              obtain ⟨w5, HW5⟩ : ∃ w5, Hid (w5 = wr.alloc (.cells #[.bool false, .string kk, .int .i64 vv] 57)) := ⟨_, rfl⟩
              have hb5 : Below wr.heap.size wr w5 := by rw [HW5.out]; exact (Below.refl _ _).alloc (Nat.le_refl _) _
              have q5 : w5.heap[wr.heap.size]? = some (.cells #[.bool false, .string kk, .int .i64 vv] 57) := by rw [HW5.out]; exact heap_alloc_new _ _
              have e1 : w5.cell? ⟨wr.heap.size, 1, none⟩ = some (.string kk) := by rw [cell_of_blk q5]; rfl
              have HG := heldGet_calls w5 tbk Tk (esk.length : Int) (dOf ls ls.length) esk kk vv w5 (hKP.held.move (hKP.held.good.tree.keep hb5)) hsz hmem
              have HB5 : Hid (Below wy.heap.size wy w5 ∧ w5.heap[wr.heap.size]? = some (.cells #[.bool false, .string kk, .int .i64 vv] 57)) := ⟨HP.out.trans (hb5.mono HP.out.size), q5⟩
              have i2 : (0 : Int) ≤ (p : Int) ∧ (p : Int) < (esk.length : Int) := by omega
              clear hKP hb5 q5 hmem hsz HP
              go_wp2_with fail
              rw [← HW5.out]
              clear HW5 c0 c1 c2 e1
              refine HG.mono ?_
              clear HG
              rintro e w6 ⟨rfl, hb6⟩
              have q6 : w6.heap[wr.heap.size]? = some (.cells #[.bool false, .string kk, .int .i64 vv] 57) := (hb6.block _ (lt_of_heap HB5.out.2)).trans HB5.out.2
              have e2 : w6.cell? ⟨wr.heap.size, 2, none⟩ = some (.int .i64 vv) := by rw [cell_of_blk q6]; rfl
              have HP6 : Hid (Below wy.heap.size wy w6) := HB5.out.1.trans (hb6.mono HB5.out.1.size)
              clear hb6 q6 HB5
              go_wp2_with fail
              go_roundw
              case rel => exact ⟨p + 1, by omega, by go_num, HP6⟩
              case measure => simp [intOf]; omega
            · have hpl' : p = esk.length := by omega
              subst hpl'
              have HQ6 : Hid (Below wz.heap.size wz wr) := HKY.out.2.1.trans (HP.out.mono HKY.out.2.1.size)
              clear HP HKY t1y
              go_wp2_with fail
              go_roundw
              case rel => exact ⟨q + 1, by omega, by go_num, HQ6⟩
              case measure => simp [intOf]; omega
        · have hql' : q = ls.length := by omega
          subst hql'
          have HM : Hid (MarksAt w.heap.size wr Ds ∧ Below w.heap.size w wr) := ⟨HI.out.mrk.keep (Stl.ofBelow HQ.out hR0), HI.out.below.trans (HQ.out.mono hR0)⟩
          clear HI HQ
          go_wp2_with fail
          refine leaves_marks Ds wr HM.out.1 (fun w' hb => ⟨_, results_tmp rfl _ _ _, rfl, ?_⟩)
          exact HM.out.2.trans hb
end Go.Proofs.YtdmhffbohnfdlaaGreat
