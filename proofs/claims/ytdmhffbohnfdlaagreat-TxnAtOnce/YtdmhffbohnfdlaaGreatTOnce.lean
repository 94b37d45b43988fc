/- Layer 5 (txn): the walk of TxnAtOnce. -/
import Derived.Test.YtdmhffbohnfdlaaGreatTOnceM
namespace Go.Proofs.YtdmhffbohnfdlaaGreat
open Go.RowKit
open scoped Classical
set_option linter.unusedVariables false

/-- Diff of two trees with like entries tells nothing. -/
theorem diffSame_calls (tba : Nat) (Ta : Tr) (nea : Int) (da : Nat) (tbb : Nat) (Tb : Tr) (neb : Int) (db : Nat) (es : List En) (w : World) (hA : Held w w tba Ta nea da es) (hB : Held w w tbb Tb neb db es) (hN : es.length ≤ 11728124029610) :
    Calls Tryz.prog 24 #[.pointer (some ⟨tba, 0, none⟩), .pointer (some ⟨tbb, 0, none⟩)] w fun e w' => ∃ ao cap, e = .returned (.slice ao 0 cap) ∧ Below w.heap.size w w' := by
  have hs := diffE_same hA.sorted
  refine (diff_calls tba Ta nea da es tbb Tb neb db es w hA hB hN (by rw [hs]; simp)).mono ?_
  rintro e w' ⟨v, rfl, hb, hv⟩
  rw [hs] at hv
  rcases hv.2 with ⟨rfl, -⟩ | ⟨g, cap, cur, rfl, -⟩
  · exact ⟨none, 0, rfl, hb⟩
  · exact ⟨_, _, rfl, hb⟩

/-- Within TxnAtOnce. -/
structure AoI (w w1 : World) (xb bb vb tb mb : Nat) (nm : Int) (T : Tr) (ne : Int) (d j tbx : Nat) (Tx : Tr) (nex : Int) (en enx : List En) (ks : List ByteArray) (tbp : Nat) (Tp : Tr) (nep : Int) (W : World) : Prop where
  op : DoI w1 xb bb vb tb mb nm T ne d j tbx Tx nex enx ks W
  old : Held W W tb T ne d en
  pl : Held W W tbp Tp nep (d + j) enx
  below : Below w.heap.size w W
theorem AoI.keep {w w1 : World} {xb bb vb tb mb : Nat} {nm : Int} {T : Tr} {ne : Int} {d j tbx : Nat} {Tx : Tr} {nex : Int} {en enx : List En} {ks : List ByteArray} {tbp : Nat} {Tp : Tr} {nep : Int} {W W' : World} (h : AoI w w1 xb bb vb tb mb nm T ne d j tbx Tx nex en enx ks tbp Tp nep W) (hb : Below W.heap.size W W') : AoI w w1 xb bb vb tb mb nm T ne d j tbx Tx nex en enx ks tbp Tp nep W' :=
  ⟨h.op.below hb, h.old.move (h.old.good.tree.keep hb), h.pl.move (h.pl.good.tree.keep hb), h.below.trans (hb.mono h.below.size)⟩
theorem Held.len {w W : World} {tb : Nat} {T : Tr} {ne : Int} {d : Nat} {es : List En} (h : Held w W tb T ne d es) : es.length ≤ d := by have h1 := h.cnt; have h2 := h.good.hi; omega
/-- What a change of the open transaction leaves of the rest. -/
theorem AoI.side {w w1 : World} {xb bb vb tb mb : Nat} {nm : Int} {T : Tr} {ne : Int} {d j tbx : Nat} {Tx : Tr} {nex : Int} {en enx : List En} {ks : List ByteArray} {tbp : Nat} {Tp : Tr} {nep : Int} {W W' : World} (h : AoI w w1 xb bb vb tb mb nm T ne d j tbx Tx nex en enx ks tbp Tp nep W) (hg : w.heap.size ≤ xb ∧ w.heap.size ≤ mb) (ht : Touched [xb, mb] W W') :
    Held W' W' tb T ne d en ∧ Held W' W' tbp Tp nep (d + j) enx ∧ Below w.heap.size w W' := by
  obtain ⟨o1, o2, -⟩ := h.op.offs
  have hof : ∀ b, b ∈ [xb, mb] → Off W b := fun b hb => by simp at hb; rcases hb with rfl | rfl; exact o1; exact o2
  exact ⟨h.old.move (h.old.good.tree.offs (· ∈ [xb, mb]) (fun b hb hn => ht.block b hb hn) hof), h.pl.move (h.pl.good.tree.offs (· ∈ [xb, mb]) (fun b hb hn => ht.block b hb hn) hof), h.below.trans (ht.toBelow h.below.size (fun k hk => by simp at hk; omega))⟩

set_option maxRecDepth 100000 in
set_option maxHeartbeats 8000000 in
theorem txnAtOnce_calls (ao1 ao2 : Option Addr) (cap1 cap2 : Nat) (l1 l : List Ch) (cm : Bool) (w : World) (h1 : ChAt w.heap.size w ao1 l1) (h2 : ChAt w.heap.size w ao2 l) (n1 : l1.length ≤ 4398046510976) (n2 : l.length ≤ 4398046510976) :
    Calls Tryz.prog 4 #[.slice ao1 l1.length cap1, .slice ao2 l.length cap2, .bool cm] w fun e w' => e = .returned (.bool true) ∧ Below w.heap.size w w' := by
  have hnot : ∀ (x : Bool) (w : World), (Op.unary .not (.bool x)).run Tryz.prog w = .ok (.bool (!x)) w := fun _ _ => rfl
  have HA := txnAlive_calls w
  have HS : Hid (ChAt w.heap.size w ao1 l1 ∧ ChAt w.heap.size w ao2 l) := ⟨h1, h2⟩
  clear h1 h2
  go_enter Tryz.func4, Tryz.ntmps4
  go_wp2_with fail
  refine HA.mono ?_
  clear HA
  rintro e w1 ⟨rfl, hb1⟩
  have HB1 : Hid (Below w.heap.size w w1) := hb1
  clear hb1
  go_wp2_with fail
  refine (newBase_calls w1).mono ?_
  rintro e w2 ⟨bb, vb, tb, rfl, hb2, hB2, ⟨a, g, hT2, hW2, hBg⟩, hbb⟩
  have hb02 : Below w.heap.size w w2 := HB1.out.trans (hb2.mono HB1.out.size)
  have hbb' : w.heap.size ≤ bb := Nat.le_trans HB1.out.size hbb
  have HD := done_calls bb vb tb 0 (.nd a ⟨#[]⟩ none [] g) 0 0 [] ao1 cap1 l1 true w.heap.size w2 hB2 (bare_held hT2) (.mk (Nat.lt_of_le_of_lt HB1.out.size hBg) (fun x e => by cases e) (fun c hc => by simp at hc)) (by rw [marks_nd]; simp [vmark]) hbb' (HS.out.1.kept fun b hb _ => hb02.block b hb) (by omega) (by omega) (by omega)
  have HB2 : Hid (Below w.heap.size w w2) := hb02
  clear hb2 hb02 hB2 hT2 hW2 hBg hbb HB1
  go_wp2_with fail
  refine HD.mono ?_
  clear HD
  rintro e w3 ⟨rfl, h3⟩
  obtain ⟨vb3, tb3, T3, ne3, hB3, hH3, hA3, hM3, hb3, -⟩ := h3
  rw [Nat.zero_add] at hH3 hM3
  obtain ⟨nm, hnm⟩ : ∃ nm : Int, nm = (if (true && decide (0 < (runC [] l1).2.length)) = true then (0 : Int) + 1 else 0) := ⟨_, rfl⟩
  obtain ⟨en, hen⟩ : ∃ en : List En, en = (if true = true then (runC [] l1).1 else []) := ⟨_, rfl⟩
  rw [← hnm] at hB3
  rw [← hen] at hH3
  have hnm' : 0 ≤ nm ∧ nm ≤ 1 := by rw [hnm]; split <;> omega
  clear hnm hen
  have HTR := tree_calls bb vb3 tb3 nm false w3 hB3
  have HVE := version_calls bb vb3 tb3 nm false w3 hB3
  have HBE := begin_calls bb vb3 tb3 nm w3 hB3
  have H3 : Hid (BaseAt w3 bb vb3 tb3 nm false ∧ Held w3 w3 tb3 T3 ne3 l1.length en ∧ Above w.heap.size T3 ∧ (marks T3).length ≤ 1 + 3 * l1.length ∧ Below w.heap.size w w3) := ⟨hB3, hH3, hA3, hM3, HB2.out.trans hb3⟩
  clear hB3 hH3 hA3 hM3 hb3 HB2
  go_wp2_with fail
  refine HTR.mono ?_
  clear HTR
  rintro e w0 ⟨rfl, hw0⟩
  rw [hw0]
  clear hw0 w0
  go_wp2_with fail
  refine HVE.mono ?_
  clear HVE
  rintro e w0 ⟨rfl, hw0⟩
  rw [hw0]
  clear hw0 w0
  go_wp2_with fail
  refine HBE.mono ?_
  clear HBE
  rintro e w4 ⟨xb, mb, rfl, ht4, hB4, hx4, hm4, hxg, hmg⟩
  have hT4 : TreeAt w4 tb3 T3 ne3 := H3.out.2.1.good.tree.offs (· ∈ [bb]) (fun b hb hn => ht4.block b hb hn) (fun k hk => by simp at hk; subst hk; exact H3.out.1.off)
  have hb34 : Below w.heap.size w3 w4 := ht4.toBelow H3.out.2.2.2.2.size (by simpa using hbb')
  have hs3 := H3.out.2.2.2.2.size
  have hH4 : Held w4 w4 tb3 T3 ne3 l1.length en := H3.out.2.1.move hT4
  have HI4 : Hid (AoI w w4 xb bb vb3 tb3 mb nm T3 ne3 l1.length 0 tb3 T3 ne3 en (runC en (l.take 0)).1 (runC en (l.take 0)).2 tb3 T3 ne3 w4) :=
    ⟨⟨hx4, hB4, ⟨_, _, hm4, MapKept.stamped_empty 0, rfl, fun e he => by simp at he⟩, hT4, hH4, fun k hk => by simp [runC] at hk, Nat.le_refl _, Touched.refl _ _, fun B _ h => h, by omega⟩, hH4, hH4, H3.out.2.2.2.2.trans hb34⟩
  have HG : Hid (w.heap.size ≤ xb ∧ w.heap.size ≤ mb ∧ Above w.heap.size T3 ∧ (marks T3).length ≤ 1 + 3 * l1.length) := ⟨by omega, by omega, H3.out.2.2.1, H3.out.2.2.2.1⟩
  clear ht4 hB4 hx4 hm4 hxg hmg hT4 hb34 hH4 H3 hs3
  go_wp2_with fail
  go_loopw [12, 11, 50] (fun p e i wr => ∃ (j tbx tbp : Nat) (Tx Tp : Tr) (nex nep : Int), j ≤ l.length ∧ p = .pointer (some ⟨tbp, 0, none⟩) ∧ e = .int .i64 0 ∧ i = .int .i64 j ∧ Hid (AoI w w4 xb bb vb3 tb3 mb nm T3 ne3 l1.length j tbx Tx nex en (runC en (l.take j)).1 (runC en (l.take j)).2 tbp Tp nep wr)) (fun _ _ i _ => l.length - (intOf i).toNat)
  case atStart => exact ⟨0, tb3, tb3, _, _, _, _, Nat.zero_le _, rfl, rfl, rfl, HI4⟩
  case round =>
    obtain ⟨j, tbx, tbp, Tx, Tp, nex, nep, hj, rfl, rfl, rfl, HI⟩ := hrel
    clear HI4
    by_cases hlt : j < l.length
    · obtain ⟨b, off, rfl, -, c0, c1, c2, hsz⟩ := (HS.out.2.kept (W := wr) fun b hb _ => HI.out.below.block b hb) j hlt
      have HRT : Hid (runC en (l.take (j + 1)) = stepC (runC en (l.take j)) l[j]) := runC_take en l j hlt
      obtain ⟨⟨dr, k, v⟩, hc⟩ : ∃ c : Ch, c = l[j] := ⟨_, rfl⟩
      rw [← hc] at c0 c1 c2 hsz HRT
      clear hc
      simp only at c0 c1 c2 hsz
      obtain ⟨⟨enx, ks⟩, hrun⟩ : ∃ s, s = runC en (l.take j) := ⟨_, rfl⟩
      rw [← hrun] at HI HRT
      clear hrun
      obtain ⟨w5, HW5⟩ : ∃ w5, Hid (w5 = wr.alloc (.cells #[.bool dr, .string k, .int .i64 v] 57)) := ⟨_, rfl⟩
      have hb5 : Below wr.heap.size wr w5 := by rw [HW5.out]; exact (Below.refl _ _).alloc (Nat.le_refl _) _
      have q5 : w5.heap[wr.heap.size]? = some (.cells #[.bool dr, .string k, .int .i64 v] 57) := by rw [HW5.out]; exact heap_alloc_new _ _
      have d0 : w5.cell? ⟨wr.heap.size, 0, none⟩ = some (.bool dr) := by rw [cell_of_blk q5]; rfl
      have d1 : w5.cell? ⟨wr.heap.size, 1, none⟩ = some (.string k) := by rw [cell_of_blk q5]; rfl
      have d2 : w5.cell? ⟨wr.heap.size, 2, none⟩ = some (.int .i64 v) := by rw [cell_of_blk q5]; rfl
      have HI5 : Hid (AoI w w4 xb bb vb3 tb3 mb nm T3 ne3 l1.length j tbx Tx nex en enx ks tbp Tp nep w5) := HI.out.keep hb5
      have HQ5 : Hid (w5.heap[wr.heap.size]? = some (.cells #[.bool dr, .string k, .int .i64 v] 57)) := q5
      obtain ⟨es, cl, hm5⟩ := HI5.out.op.map
      have HM5 : Hid (k.size ≤ 140737488351296) := hsz
      have hbx : ∀ W, Touched [xb, mb] w5 W → W.heap[wr.heap.size]? = some (.cells #[.bool dr, .string k, .int .i64 v] 57) := fun W hW => (hW.block _ (lt_of_heap q5) (by
        simp only [List.mem_cons, List.not_mem_nil, or_false, not_or]
        refine ⟨fun e => ?_, fun e => ?_⟩
        · have h1 := HI5.out.op.txn.blk; rw [← e, q5] at h1; simp at h1
        · have h1 := hm5.blk; rw [← e, q5] at h1; cases h1)).trans q5
      have HBX : Hid (∀ W, Touched [xb, mb] w5 W → W.heap[wr.heap.size]? = some (.cells #[.bool dr, .string k, .int .i64 v] 57)) := hbx
      cases dr with
      | true =>
        have HDR := drop_calls xb bb tbx mb cl es Tx nex (l1.length + j) enx ks k _ w5 HI5.out.op.txn HI5.out.op.base.blk hm5 HI5.out.op.own hsz (by omega)
        clear hb5 q5 hm5 hsz HI hbx
        go_wp2_with fail
        rw [← HW5.out]
        clear HW5 c0 c1 c2 d0 d1 d2
        refine HDR.mono ?_
        clear HDR
        rintro e w6 ⟨r1, r2, rfl, tb6, T6, ne6, es6, cl6, hx6, hm6, hH6, ht6, ha6, hk6⟩
        have q6 := HBX.out w6 ht6
        have f1 : w6.cell? ⟨wr.heap.size, 1, none⟩ = some (.string k) := by rw [cell_of_blk q6]; rfl
        obtain ⟨s1, s2, s3⟩ := HI5.out.side ⟨HG.out.1, HG.out.2.1⟩ ht6
        have HO6 : Hid (DoI w4 xb bb vb3 tb3 mb nm T3 ne3 l1.length (j + 1) tb6 T6 ne6 (runC en (l.take (j + 1))).1 (runC en (l.take (j + 1))).2 w6 ∧ Held w6 w6 tb3 T3 ne3 l1.length en ∧ Below w.heap.size w w6) := by
          refine ⟨?_, s1, s3⟩
          rw [HRT.out]
          unfold stepC
          rw [if_pos rfl]
          exact HI5.out.op.step HM5.out (by show (if _ then _ else _) = _ ∨ (if _ then _ else _) = _; split; exact .inl rfl; exact .inr rfl) (by omega) hx6 hm6 hH6 ht6 ha6 (by omega)
        have HPL := delH5_calls tbp Tp nep (l1.length + j) enx w6 s2 k HM5.out (by omega)
        have HR1 : Hid ((runC en (l.take (j + 1))).1 = delE enx k) := by show _ = _; rw [HRT.out]; unfold stepC; rw [if_pos rfl]
        clear hx6 hm6 hH6 ht6 ha6 hk6 HI5 HM5 HRT s1 s2 s3 q6 HBX HQ5
        go_wp2_with fail
        refine HPL.mono ?_
        clear HPL
        rintro e w7 ⟨tb7, T7, ne7, r3, r4, rfl, hb7, hH7⟩
        have HI7 : Hid (AoI w w4 xb bb vb3 tb3 mb nm T3 ne3 l1.length (j + 1) tb6 T6 ne6 en (runC en (l.take (j + 1))).1 (runC en (l.take (j + 1))).2 tb7 T7 ne7 w7) := ⟨HO6.out.1.below hb7, HO6.out.2.1.move (HO6.out.2.1.good.tree.keep hb7), by rw [HR1.out]; exact hH7.deeper (by omega), HO6.out.2.2.trans (hb7.mono HO6.out.2.2.size)⟩
        have HTR := tree_calls bb vb3 tb3 nm true w7 HI7.out.op.base
        have HVE := version_calls bb vb3 tb3 nm true w7 HI7.out.op.base
        have HDI := diffSame_calls tb3 T3 ne3 l1.length tb3 T3 ne3 l1.length en w7 HI7.out.old HI7.out.old (by have := HI7.out.old.len; omega)
        clear hb7 hH7 HO6 HR1 f1
        go_wp2_with fail
        refine HTR.mono ?_
        clear HTR
        rintro e w0 ⟨rfl, hw0⟩
        rw [hw0]
        clear hw0 w0
        go_wp2_with fail
        refine HVE.mono ?_
        clear HVE
        rintro e w0 ⟨rfl, hw0⟩
        rw [hw0]
        clear hw0 w0
        go_wp2_with fail
        refine HDI.mono ?_
        clear HDI
        rintro e w8 ⟨da, dc, rfl, hb8⟩
        have HI8 : Hid (AoI w w4 xb bb vb3 tb3 mb nm T3 ne3 l1.length (j + 1) tb6 T6 ne6 en (runC en (l.take (j + 1))).1 (runC en (l.take (j + 1))).2 tb7 T7 ne7 w8) := HI7.out.keep hb8
        clear hb8 HI7
        go_wp2_with fail
        go_roundw
        case rel => exact ⟨j + 1, tb6, tb7, T6, T7, _, _, by omega, rfl, rfl, by go_num, HI8⟩
        case measure => simp [intOf]; omega
      | false =>
        have HDR := set_calls xb bb tbx mb cl es Tx nex (l1.length + j) enx ks k v _ w5 HI5.out.op.txn HI5.out.op.base.blk hm5 HI5.out.op.own hsz (by omega)
        clear hb5 q5 hm5 hsz HI hbx
        go_wp2_with fail
        rw [← HW5.out]
        clear HW5 c0 c1 c2 d0 d1 d2
        refine HDR.mono ?_
        clear HDR
        rintro e w6 ⟨r1, r2, tb6, T6, ne6, es6, cl6, rfl, hx6, hm6, hH6, ht6, ha6, hk6⟩
        have q6 := HBX.out w6 ht6
        have f1 : w6.cell? ⟨wr.heap.size, 1, none⟩ = some (.string k) := by rw [cell_of_blk q6]; rfl
        have f2 : w6.cell? ⟨wr.heap.size, 2, none⟩ = some (.int .i64 v) := by rw [cell_of_blk q6]; rfl
        obtain ⟨s1, s2, s3⟩ := HI5.out.side ⟨HG.out.1, HG.out.2.1⟩ ht6
        have HO6 : Hid (DoI w4 xb bb vb3 tb3 mb nm T3 ne3 l1.length (j + 1) tb6 T6 ne6 (runC en (l.take (j + 1))).1 (runC en (l.take (j + 1))).2 w6 ∧ Held w6 w6 tb3 T3 ne3 l1.length en ∧ Below w.heap.size w w6) := by
          refine ⟨?_, s1, s3⟩
          rw [HRT.out]
          unfold stepC
          rw [if_neg (by simp)]
          exact HI5.out.op.step HM5.out (.inl rfl) (Nat.le_refl _) hx6 hm6 hH6 ht6 ha6 hk6
        have HPL := insH_calls tbp Tp nep (l1.length + j) enx w6 s2 k v HM5.out (by omega)
        have HR1 : Hid ((runC en (l.take (j + 1))).1 = insE enx k v) := by show _ = _; rw [HRT.out]; unfold stepC; rw [if_neg (by simp)]
        clear hx6 hm6 hH6 ht6 ha6 hk6 HI5 HM5 HRT s1 s2 s3 q6 HBX HQ5
        go_wp2_with fail
        refine HPL.mono ?_
        clear HPL
        rintro e w7 ⟨tb7, T7, ne7, r3, r4, rfl, hb7, hH7⟩
        have HI7 : Hid (AoI w w4 xb bb vb3 tb3 mb nm T3 ne3 l1.length (j + 1) tb6 T6 ne6 en (runC en (l.take (j + 1))).1 (runC en (l.take (j + 1))).2 tb7 T7 ne7 w7) := ⟨HO6.out.1.below hb7, HO6.out.2.1.move (HO6.out.2.1.good.tree.keep hb7), by rw [HR1.out]; exact hH7, HO6.out.2.2.trans (hb7.mono HO6.out.2.2.size)⟩
        have HTR := tree_calls bb vb3 tb3 nm true w7 HI7.out.op.base
        have HVE := version_calls bb vb3 tb3 nm true w7 HI7.out.op.base
        have HDI := diffSame_calls tb3 T3 ne3 l1.length tb3 T3 ne3 l1.length en w7 HI7.out.old HI7.out.old (by have := HI7.out.old.len; omega)
        clear hb7 hH7 HO6 HR1 f1 f2
        go_wp2_with fail
        refine HTR.mono ?_
        clear HTR
        rintro e w0 ⟨rfl, hw0⟩
        rw [hw0]
        clear hw0 w0
        go_wp2_with fail
        refine HVE.mono ?_
        clear HVE
        rintro e w0 ⟨rfl, hw0⟩
        rw [hw0]
        clear hw0 w0
        go_wp2_with fail
        refine HDI.mono ?_
        clear HDI
        rintro e w8 ⟨da, dc, rfl, hb8⟩
        have HI8 : Hid (AoI w w4 xb bb vb3 tb3 mb nm T3 ne3 l1.length (j + 1) tb6 T6 ne6 en (runC en (l.take (j + 1))).1 (runC en (l.take (j + 1))).2 tb7 T7 ne7 w8) := HI7.out.keep hb8
        clear hb8 HI7
        go_wp2_with fail
        go_roundw
        case rel => exact ⟨j + 1, tb6, tb7, T6, T7, _, _, by omega, rfl, rfl, by go_num, HI8⟩
        case measure => simp [intOf]; omega
    · have hjl : j = l.length := by omega
      subst hjl
      rw [List.take_length] at HI
      cases cm with
      | false =>
        have HAB := abort_calls xb bb vb3 tb3 tbx mb nm wr HI.out.op.txn HI.out.op.base
        clear HS
        go_wp2_with fail
        refine HAB.mono ?_
        clear HAB
        rintro e w9 ⟨rfl, hB9, ht9⟩
        have hof : ∀ b, b ∈ [bb, xb] → Off wr b := fun b hb => by
          simp at hb
          rcases hb with rfl | rfl
          · exact HI.out.op.offs.2.2.1
          · exact HI.out.op.offs.1
        have hH9 : Held w9 w9 tb3 T3 ne3 l1.length en := HI.out.old.move (HI.out.old.good.tree.offs (· ∈ [bb, xb]) (fun b hb hn => ht9.block b hb hn) hof)
        have HB9 : Hid (Below w.heap.size w w9) := HI.out.below.trans (ht9.toBelow HI.out.below.size (fun k hk => by have := HG.out; simp at hk; omega))
        have HTR := tree_calls bb vb3 tb3 nm false w9 hB9
        have HVE := version_calls bb vb3 tb3 nm false w9 hB9
        have HDI := diffSame_calls tb3 T3 ne3 l1.length tb3 T3 ne3 l1.length en w9 hH9 hH9 (by have := hH9.len; omega)
        clear hB9 ht9 hof hH9 HI HG
        go_wp2_with fail
        refine HVE.mono ?_
        clear HVE
        rintro e w0 ⟨rfl, hw0⟩
        rw [hw0]
        clear hw0 w0
        go_wp2_with fail
        refine HTR.mono ?_
        rintro e w0 ⟨rfl, hw0⟩
        rw [hw0]
        clear hw0 w0
        go_wp2_with fail
        refine HTR.mono ?_
        clear HTR
        rintro e w0 ⟨rfl, hw0⟩
        rw [hw0]
        clear hw0 w0
        go_wp2_with fail
        refine HDI.mono ?_
        clear HDI
        rintro e w8 ⟨da, dc, rfl, hb8⟩
        have HF : Hid (Below w.heap.size w w8) := HB9.out.trans (hb8.mono HB9.out.size)
        clear hb8 HB9
        go_wp2
        go_ret
        exact ⟨rfl, HF.out⟩
      | true =>
        have hold : Held wr wr tb3 T3 ne3 (l1.length + l.length) en := HI.out.old.deeper (by omega)
        have HCM := commitAny_calls w4 xb bb vb3 tb3 mb nm T3 ne3 l1.length l.length tbx Tx nex en (runC en l).1 (runC en l).2 w.heap.size wr HI.out.op hold HG.out.2.2.1 hbb' HG.out.1 HI.out.below.size HG.out.2.2.2 (fun h => run_idle en HI.out.old.sorted l h) (by omega) (by omega) (by omega)
        clear HS hold
        go_wp2_with fail
        refine HCM.mono ?_
        clear HCM
        rintro e w9 ⟨n9, vb9, tb9, T9, ne9, nm9, rfl, hB9, hnm9, hH9, hb9, hf9⟩
        have hof : ∀ b, b = bb ∨ b = xb → Off wr b := fun b hb => by
          rcases hb with rfl | rfl
          · exact HI.out.op.offs.2.2.1
          · exact HI.out.op.offs.1
        have hP9 : Held w9 w9 tbp Tp nep (l1.length + l.length) (runC en l).1 := HI.out.pl.move (HI.out.pl.good.tree.frdO hf9 hof)
        have HB9 : Hid (Below w.heap.size w w9) := HI.out.below.trans hb9
        have HTR := tree_calls bb vb9 tb9 nm9 false w9 hB9
        have HDI := diffSame_calls tbp Tp nep (l1.length + l.length) tb9 T9 ne9 (l1.length + l.length) (runC en l).1 w9 hP9 hH9 (by have := hP9.len; omega)
        have HVE : Hid (∀ W, Below w9.heap.size w9 W → Calls Tryz.prog 19 #[.pointer (some ⟨bb, 0, none⟩)] W fun e w' => e = .returned (.int .u64 nm9) ∧ w' = W) := fun W hW => version_calls bb vb9 tb9 nm9 false W (hB9.below hW)
        clear hB9 hH9 hb9 hf9 hof hP9 HI HG
        go_wp2_with fail
        refine HTR.mono ?_
        clear HTR
        rintro e w0 ⟨rfl, hw0⟩
        rw [hw0]
        clear hw0 w0
        go_wp2_with fail
        refine HDI.mono ?_
        clear HDI
        rintro e w8 ⟨da, dc, rfl, hb8⟩
        have HV8 := HVE.out w8 hb8
        have HF : Hid (Below w.heap.size w w8) := HB9.out.trans (hb8.mono HB9.out.size)
        clear hb8 HB9 HVE
        go_wp2_with fail
        refine HV8.mono ?_
        clear HV8
        rintro e w0 ⟨rfl, hw0⟩
        rw [hw0]
        clear hw0 w0
        rcases hnm9 with rfl | rfl
        · go_wp2
          go_ret
          exact ⟨rfl, HF.out⟩
        · have hdl : decide (nm + 1 - nm ≤ 1) = true := decide_eq_true (by omega)
          go_wp2
          go_ret
          exact ⟨rfl, HF.out⟩
end Go.Proofs.YtdmhffbohnfdlaaGreat
