/- Layer 4 (walk): the document's Diff. -/
import Derived.Test.YtnmndjplbcpglaaXDiffM
import Derived.Test.YtnmndjplbcpglaaXRemade
import Derived.Test.YtnmndjplbcpglaaXFind
import Derived.BigQuiet
namespace Go.Proofs.Ytnmndjplbcpglaa
open Go.RowKit Go.Shelf
open scoped Classical
set_option linter.unusedVariables false

/-! ### plain -/
noncomputable def mergeD : List En → List En → List En
  | [], bl => newD bl
  | a :: al, [] => (a.1, 2) :: mergeD al []
  | a :: al, b :: bl => if Lt (kyb a.1) (kyb b.1) then (a.1, 2) :: mergeD al (b :: bl) else if Lt (kyb b.1) (kyb a.1) then (b.1, 1) :: mergeD (a :: al) bl else if a.2 = b.2 then mergeD al bl else (a.1, 3) :: mergeD al bl
  termination_by al bl => al.length + bl.length
theorem merge_nil (bl : List En) : mergeD [] bl = newD bl := by rw [mergeD]
theorem merge_end (a : En) (al : List En) : mergeD (a :: al) [] = (a.1, 2) :: mergeD al [] := by rw [mergeD]
theorem merge_cons (a : En) (al : List En) (b : En) (bl : List En) : mergeD (a :: al) (b :: bl) = if Lt (kyb a.1) (kyb b.1) then (a.1, 2) :: mergeD al (b :: bl) else if Lt (kyb b.1) (kyb a.1) then (b.1, 1) :: mergeD (a :: al) bl else if a.2 = b.2 then mergeD al bl else (a.1, 3) :: mergeD al bl := by rw [mergeD]
theorem step_merge (e : En) (es : List En) : ∀ (l acc : List En), (stepD acc l e).1 ++ mergeD es (stepD acc l e).2 = acc ++ mergeD (e :: es) l
  | [], acc => by simp [stepD, merge_end]
  | x :: r, acc => by
    rw [merge_cons]
    by_cases h1 : Lt (kyb x.1) (kyb e.1)
    · rw [stepD_lt h1, if_neg (lt_asy h1), if_pos h1, step_merge e es r]
      simp
    · by_cases h2 : x.1 = e.1
      · have h3 : ¬ Lt (kyb e.1) (kyb x.1) := by rw [← h2]; exact lt_irr _
        rw [stepD_eq h1 h2, if_neg h3, if_neg h1]
        by_cases h4 : e.2 = x.2
        · rw [if_pos h4, if_pos h4]
        · rw [if_neg h4, if_neg h4]; simp
      · have h3 : Lt (kyb e.1) (kyb x.1) := by
          rcases lt_tot (kyb x.1) (kyb e.1) with h | h | h
          · exact absurd h h1
          · exact absurd (kyb_inj h) h2
          · exact h
        rw [stepD_ne h1 h2, if_pos h3]; simp
theorem fold_merge : ∀ (ea : List En) (s : List En × List En), (ea.foldl (fun s e => stepD s.1 s.2 e) s).1 ++ newD (ea.foldl (fun s e => stepD s.1 s.2 e) s).2 = s.1 ++ mergeD ea s.2
  | [], s => by rw [merge_nil]; rfl
  | e :: es, s => by
    rw [List.foldl_cons, fold_merge es, step_merge]
theorem diffE_merge (ea eb : List En) : diffE ea eb = mergeD ea eb := by
  unfold diffE runD
  rw [fold_merge]
  rfl
theorem merge_len : ∀ (ea eb : List En), (mergeD ea eb).length ≤ ea.length + eb.length := fun ea eb => by
  generalize hn : ea.length + eb.length = n
  induction n using Nat.strongRecOn generalizing ea eb with
  | _ n ih =>
    match ea, eb with
    | [], bl => rw [merge_nil]; simp [newD] at hn ⊢; omega
    | a :: al, [] =>
      rw [merge_end]
      have := ih (al.length + 0) (by simp at hn; omega) al [] rfl
      simp at hn this ⊢; omega
    | a :: al, b :: bl =>
      rw [merge_cons]
      simp only [List.length_cons] at hn
      have i1 := ih (al.length + (bl.length + 1)) (by omega) al (b :: bl) rfl
      have i2 := ih (al.length + 1 + bl.length) (by omega) (a :: al) bl rfl
      have i3 := ih (al.length + bl.length) (by omega) al bl rfl
      split
      · simp only [List.length_cons]; omega
      · split
        · simp only [List.length_cons]; omega
        · split
          · omega
          · simp only [List.length_cons]; omega

/-! ### in memory -/
structure RdI (w : World) (ca cb : Array Value) (out : List En) (v : Value) (W : World) : Prop where
  below : Below w.heap.size w W
  own : OwnG cgCells 50 2 W w.heap.size v out
  bx2 : W.heap[w.heap.size]? = some (.cells ca 28)
  bx3 : W.heap[w.heap.size + 1]? = some (.cells cb 28)
theorem RdI.drew {w : World} {ca cb : Array Value} {out : List En} {v : Value} {W : World} (h : RdI w ca cb out v W) (n : Nat) : RdI w ca cb out v (W.drewN n) := by
  have hb := drewN_below W n
  exact ⟨h.below.trans (hb.mono h.below.size), World.ownsRow.kept (row := none) h.own ⟨hb.os, hb.tape, hb.output, hb.size, fun k hk _ => hb.block k hk⟩ (Classical.em _), (hb.block _ (lt_of_heap h.bx2)).trans h.bx2, (hb.block _ (lt_of_heap h.bx3)).trans h.bx3⟩
theorem RdI.app {w : World} {ca cb : Array Value} {out : List En} {v v' : Value} {W w1 : World} {x : En} {tmp : Obj} (h : RdI w ca cb out v W) (ho : w1.ownsRow w.heap.size 50 2 v' (out.length + 1) (out.flatMap cgCells ++ cgCells x)) (hg : (W.alloc tmp).grownBy w1 v.ownBlock) : RdI w ca cb (out ++ [x]) v' w1 := by
  have typed : ∀ r, v.ownBlock = some r → w.heap.size ≤ r ∧ ∃ cs, W.heap[r]? = some (.cells cs 50) := fun r hr => ⟨(World.ownsRow.lt h.own r hr).1, ownsRow_typed h.own r hr⟩
  have keptT : ∀ (b : Nat) (cs : Array Value) (ty : TypeId), W.heap[b]? = some (.cells cs ty) → ty ≠ 50 → w1.heap[b]? = some (.cells cs ty) := fun b cs ty hbk hty => by
    have hlt := lt_of_heap hbk
    refine ((hg.block b (by simp; omega) (fun e => ?_)).trans (Below.heap_alloc _ _ _ hlt)).trans hbk
    obtain ⟨ds, hd⟩ := (typed b e.symm).2
    rw [hbk] at hd
    simp at hd
    exact hty hd.2
  refine ⟨h.below.trans (((Below.refl _ W).alloc h.below.size tmp).grown hg (by have := h.below.size; simp; omega) (fun r e => (typed r e).1)), ?_, keptT _ _ _ h.bx2 (by decide), keptT _ _ _ h.bx3 (by decide)⟩
  unfold OwnG
  rw [List.flatMap_append, List.flatMap_singleton, List.length_append]
  exact ho

/-- The document's keys and values at a place. -/
theorem DocAt.key {w : World} {d : Dv} {es : List En} {ps : List ByteArray} (h : DocAt w d es ps) (i : Nat) (hi : i < es.length) : ∃ b off, d.k.ao = some ⟨b, off, none⟩ ∧ w.cell? ⟨b, off + i, none⟩ = some (.string es[i].1) ∧ es[i].1.size ≤ 140737488351296 := by
  obtain ⟨b, off, h1, h2⟩ := h.k.str h.kk i (by simpa [keysOf] using hi)
  refine ⟨b, off, h1, by rw [h2]; simp [keysOf], h.ksz _ (by simp only [keysOf, List.mem_map]; exact ⟨es[i], List.getElem_mem hi, rfl⟩)⟩
theorem DocAt.val {w : World} {d : Dv} {es : List En} {ps : List ByteArray} (h : DocAt w d es ps) (i : Nat) (hi : i < es.length) : ∃ b off, d.v.ao = some ⟨b, off, none⟩ ∧ w.cell? ⟨b, off + i, none⟩ = some (.int .i64 es[i].2) := by
  obtain ⟨b, off, h1, h2⟩ := h.v.int h.vv i (by simpa [valsOf] using hi)
  exact ⟨b, off, h1, by rw [h2]; simp [valsOf]⟩

set_option maxRecDepth 100000 in
set_option maxHeartbeats 8000000 in
theorem refDiff_calls (da : Dv) (ea : List En) (pa : List ByteArray) (db : Dv) (eb : List En) (pb : List ByteArray) (w : World) (hA : DocAt w da ea pa) (hB : DocAt w db eb pb) (hN : ea.length + eb.length ≤ 4194304) :
    Calls Try.prog 17 #[.agg (da.cells ea.length pa.length), .agg (db.cells eb.length pb.length)] w fun e w' => ∃ v, e = .returned v ∧ Below w.heap.size w w' ∧ OwnG cgCells 50 2 w' w.heap.size v (mergeD ea eb) := by
  obtain ⟨i0, hi, hz0, hz1, hz2⟩ := infoOf infoCg
  obtain ⟨w1, HW1⟩ : ∃ w1, Hid (w1 = ((w.alloc (.cells (da.cells ea.length pa.length) 28)).alloc (.cells (db.cells eb.length pb.length) 28)).alloc (.cells #[] 50)) := ⟨_, rfl⟩
  have s0 : (w.alloc (.cells (da.cells ea.length pa.length) 28)).heap.size = w.heap.size + 1 := by simp [World.size_alloc]
  have s1 : ((w.alloc (.cells (da.cells ea.length pa.length) 28)).alloc (.cells (db.cells eb.length pb.length) 28)).heap.size = w.heap.size + 1 + 1 := by rw [World.size_alloc, s0]
  have hb1 : Below w.heap.size w w1 := by rw [HW1.out]; exact (((Below.refl _ _).alloc (Nat.le_refl _) _).alloc (by omega) _).alloc (by omega) _
  have q2 : w1.heap[w.heap.size]? = some (.cells (da.cells ea.length pa.length) 28) := by rw [HW1.out, Below.heap_alloc _ _ _ (by omega), Below.heap_alloc _ _ _ (by omega)]; exact heap_alloc_new _ _
  have q3 : w1.heap[w.heap.size + 1]? = some (.cells (db.cells eb.length pb.length) 28) := by rw [HW1.out, Below.heap_alloc _ _ _ (by omega), ← s0]; exact heap_alloc_new _ _
  have q4 : w1.heap[w.heap.size + 1 + 1]? = some (.cells #[] 50) := by rw [HW1.out, ← s1]; exact heap_alloc_new _ _
  have HI1 : Hid (RdI w (da.cells ea.length pa.length) (db.cells eb.length pb.length) [] (.slice (some ⟨w.heap.size + 1 + 1, 0, none⟩) 0 0) w1) := ⟨hb1, ⟨rfl, .inr ⟨_, 0, #[], rfl, by omega, q4, Nat.le_refl _, by decide, rfl, rfl⟩⟩, q2, q3⟩
  have HD : Hid (DocAt w da ea pa ∧ DocAt w db eb pb) := ⟨hA, hB⟩
  have hml := merge_len ea eb
  clear hb1 q2 q3 q4 s0 s1 hA hB
  unfold Dv.cells
  unfold Dv.cells at HW1
  go_enter Try.func17, Try.ntmps17
  go_wp2_with fail
  rw [← HW1.out]
  clear HW1
  go_loopw [5, 6, 7] (fun v i j wr => ∃ (p q : Nat) (out : List En), p ≤ ea.length ∧ q ≤ eb.length ∧ i = .int .i64 p ∧ j = .int .i64 q ∧ Hid (out ++ mergeD (ea.drop p) (eb.drop q) = mergeD ea eb) ∧ Hid (RdI w (da.cells ea.length pa.length) (db.cells eb.length pb.length) out v wr)) (fun _ i j _ => (ea.length - (intOf i).toNat) + (eb.length - (intOf j).toNat))
  case atStart => exact ⟨0, 0, [], Nat.zero_le _, Nat.zero_le _, rfl, rfl, by show _ = _; simp, HI1⟩
  case round =>
    obtain ⟨p, q, out, hp, hq, rfl, rfl, HM, HI⟩ := hrel
    clear HI1
    have ka : wr.cell? ⟨w.heap.size, 0, none⟩ = some (.slice da.k.ao ea.length da.k.cap) := by rw [cell_of_blk HI.out.bx2]; rfl
    have kb : wr.cell? ⟨w.heap.size + 1, 0, none⟩ = some (.slice db.k.ao eb.length db.k.cap) := by rw [cell_of_blk HI.out.bx3]; rfl
    -- ROUND
    have la : wr.cell? ⟨w.heap.size, 1, none⟩ = some (.slice da.v.ao ea.length da.v.cap) := by rw [cell_of_blk HI.out.bx2]; rfl
    have lb : wr.cell? ⟨w.heap.size + 1, 1, none⟩ = some (.slice db.v.ao eb.length db.v.cap) := by rw [cell_of_blk HI.out.bx3]; rfl
    have hol : out.length ≤ 4194304 := by have h1 := congrArg List.length HM.out; simp only [List.length_append] at h1; omega
    obtain ⟨v, hv⟩ : ∃ v, v = u5 := ⟨_, rfl⟩
    subst hv
    by_cases hqb : q < eb.length
    · by_cases hpa : p < ea.length
      · obtain ⟨ba, oa, hka, ca, sa⟩ := (HD.out.1.keep HI.out.below).key p hpa
        have HEA : Hid (ea.drop p = ea[p] :: ea.drop (p + 1)) := List.drop_eq_getElem_cons hpa
        obtain ⟨va, xa, hva, cva⟩ := (HD.out.1.keep HI.out.below).val p hpa
        obtain ⟨⟨ak, av⟩, hae⟩ : ∃ e, e = ea[p] := ⟨_, rfl⟩
        rw [← hae] at ca sa HEA cva
        clear hae
        simp only at ca sa cva
        rw [hka] at ka
        rw [hva] at la
        have i1 : (0 : Int) ≤ (p : Int) ∧ (p : Int) < (ea.length : Int) := by omega
        have dp : decide ((p : Int) < (ea.length : Int)) = true := decide_eq_true (by omega)
        have dp' : decide ((p : Int) ≥ (ea.length : Int)) = false := decide_eq_false (by omega)
        have dp2 : decide (ea.length ≤ p) = false := decide_eq_false (by omega)
        obtain ⟨bb, ob, hkb, cb, sb⟩ := (HD.out.2.keep HI.out.below).key q hqb
        have HEB : Hid (eb.drop q = eb[q] :: eb.drop (q + 1)) := List.drop_eq_getElem_cons hqb
        obtain ⟨vb, xb, hvb, cvb⟩ := (HD.out.2.keep HI.out.below).val q hqb
        obtain ⟨⟨bk, bv⟩, hbe⟩ : ∃ e, e = eb[q] := ⟨_, rfl⟩
        rw [← hbe] at cb sb HEB cvb
        clear hbe
        simp only at cb sb cvb
        rw [hkb] at kb
        rw [hvb] at lb
        have i2 : (0 : Int) ≤ (q : Int) ∧ (q : Int) < (eb.length : Int) := by omega
        have dq : decide ((q : Int) < (eb.length : Int)) = true := decide_eq_true (by omega)
        have dq' : decide ((q : Int) ≥ (eb.length : Int)) = false := decide_eq_false (by omega)
        have dq2 : decide (eb.length ≤ q) = false := decide_eq_false (by omega)
        have HL1 : ∀ n, _ := fun n : Nat => less_calls ak bk (wr.drewN n) sa sb
        rw [less_lt] at HL1
        by_cases h1 : Lt ak.data.toList bk.data.toList
        · rw [decide_eq_true h1] at HL1
          have HM' : Hid (out ++ [(ak, 2)] ++ mergeD (ea.drop (p + 1)) (eb.drop q) = mergeD ea eb) := by
            show _ = _
            have h2 := HM.out
            rw [HEA.out, HEB.out, merge_cons, if_pos (show Lt (kyb (ak, av).1) (kyb (bk, bv).1) from h1)] at h2
            rw [HEB.out, ← h2]; simp
          clear hka hva hkb hvb
          go_wp2_with fail
          go_quiet ((go_at_call 25; exact Calls.quiet_of (HL1 _)))
          obtain ⟨wy, hwy⟩ : ∃ y, y = wr.drewN nq := ⟨_, rfl⟩
          have hwyb : Below wr.heap.size wr wy := by rw [hwy]; exact drewN_below wr nq
          have HY : Hid (RdI w (da.cells ea.length pa.length) (db.cells eb.length pb.length) out v wy) := by rw [hwy]; exact HI.out.drew nq
          rw [← hwy]
          replace ka := (hwyb.cell (World.block_lt_of_cell? wr _ ka)).trans ka
          replace ca := (hwyb.cell (World.block_lt_of_cell? wr _ ca)).trans ca
          clear hwy hwyb HI
          have hbs := HY.out.below.size
          go_wp2_with (at_builtin; refine wpList_append_own _ rfl (.tmp 46) (.tmp 53) 47 rfl w.heap.size 50 i0 (.agg #[.string ⟨#[]⟩, .int .i64 0]) 2 24 Try.underlying47 hi hz0 hz1 hz2 rfl (by decide) _ out.length _ rfl (World.ownsRow.alloc HY.out.own _) ⟨wy.heap.size, 0, none⟩ 1 1 [.string ak, .int .i64 2] rfl rfl (cells_new wy [.string ak, .int .i64 2] 50) (by simp [Value.oneCell']) (by unfold maxLen; omega) (by omega) (by simp; omega) ?_)
          intro v8 w8 ho8 hg8 _
          have HI8 : Hid (RdI w (da.cells ea.length pa.length) (db.cells eb.length pb.length) (out ++ [(ak, 2)]) v8 w8) := HY.out.app (x := (ak, 2)) ho8 hg8
          clear ho8 hg8 HY ka ca kb cb la lb cva cvb HL1
          go_wp2_with fail
          go_roundw
          case rel => exact ⟨p + 1, q, out ++ [(ak, 2)], by omega, by omega, by first | rfl | go_num, by first | rfl | go_num, HM', HI8⟩
          case measure => simp [intOf]; omega
        · rw [decide_eq_false h1] at HL1
          clear hka hva hkb hvb
          go_wp2_with fail
          go_quiet ((go_at_call 25; exact Calls.quiet_of (HL1 _)))
          clear HL1
          obtain ⟨wy, hwy⟩ : ∃ y, y = wr.drewN nq := ⟨_, rfl⟩
          have hwyb : Below wr.heap.size wr wy := by rw [hwy]; exact drewN_below wr nq
          have HY : Hid (RdI w (da.cells ea.length pa.length) (db.cells eb.length pb.length) out v wy) := by rw [hwy]; exact HI.out.drew nq
          rw [← hwy]
          replace ka := (hwyb.cell (World.block_lt_of_cell? wr _ ka)).trans ka
          replace ca := (hwyb.cell (World.block_lt_of_cell? wr _ ca)).trans ca
          replace kb := (hwyb.cell (World.block_lt_of_cell? wr _ kb)).trans kb
          replace cb := (hwyb.cell (World.block_lt_of_cell? wr _ cb)).trans cb
          replace la := (hwyb.cell (World.block_lt_of_cell? wr _ la)).trans la
          replace lb := (hwyb.cell (World.block_lt_of_cell? wr _ lb)).trans lb
          replace cva := (hwyb.cell (World.block_lt_of_cell? wr _ cva)).trans cva
          replace cvb := (hwyb.cell (World.block_lt_of_cell? wr _ cvb)).trans cvb
          clear hwy hwyb HI
          have HL2 : ∀ n, _ := fun n : Nat => less_calls bk ak (wy.drewN n) sb sa
          rw [less_lt] at HL2
          by_cases h2 : Lt bk.data.toList ak.data.toList
          · rw [decide_eq_true h2] at HL2
            have HM' : Hid (out ++ [(bk, 1)] ++ mergeD (ea.drop p) (eb.drop (q + 1)) = mergeD ea eb) := by
              show _ = _
              have h3 := HM.out
              rw [HEA.out, HEB.out, merge_cons, if_neg (show ¬ Lt (kyb (ak, av).1) (kyb (bk, bv).1) from h1), if_pos (show Lt (kyb (bk, bv).1) (kyb (ak, av).1) from h2)] at h3
              rw [HEA.out, ← h3]; simp
            go_wp2_with fail
            go_quiet ((go_at_call 25; exact Calls.quiet_of (HL2 _)))
            obtain ⟨wz, hwz⟩ : ∃ y, y = wy.drewN nq := ⟨_, rfl⟩
            have hwzb : Below wy.heap.size wy wz := by rw [hwz]; exact drewN_below wy nq
            have HZ : Hid (RdI w (da.cells ea.length pa.length) (db.cells eb.length pb.length) out v wz) := by rw [hwz]; exact HY.out.drew nq
            rw [← hwz]
            replace kb := (hwzb.cell (World.block_lt_of_cell? wy _ kb)).trans kb
            replace cb := (hwzb.cell (World.block_lt_of_cell? wy _ cb)).trans cb
            clear hwz hwzb HY
            have hbs := HZ.out.below.size
            go_wp2_with (at_builtin; refine wpList_append_own _ rfl (.tmp 75) (.tmp 82) 47 rfl w.heap.size 50 i0 (.agg #[.string ⟨#[]⟩, .int .i64 0]) 2 24 Try.underlying47 hi hz0 hz1 hz2 rfl (by decide) _ out.length _ rfl (World.ownsRow.alloc HZ.out.own _) ⟨wz.heap.size, 0, none⟩ 1 1 [.string bk, .int .i64 1] rfl rfl (cells_new wz [.string bk, .int .i64 1] 50) (by simp [Value.oneCell']) (by unfold maxLen; omega) (by omega) (by simp; omega) ?_)
            intro v8 w8 ho8 hg8 _
            have HI8 : Hid (RdI w (da.cells ea.length pa.length) (db.cells eb.length pb.length) (out ++ [(bk, 1)]) v8 w8) := HZ.out.app (x := (bk, 1)) ho8 hg8
            clear ho8 hg8 HZ ka ca kb cb la lb cva cvb HL2
            go_wp2_with fail
            go_roundw
            case rel => exact ⟨p, q + 1, out ++ [(bk, 1)], by omega, by omega, by first | rfl | go_num, by first | rfl | go_num, HM', HI8⟩
            case measure => simp [intOf]; omega
          · rw [decide_eq_false h2] at HL2
            go_wp2_with fail
            go_quiet ((go_at_call 25; exact Calls.quiet_of (HL2 _)))
            clear HL2
            obtain ⟨wz, hwz⟩ : ∃ y, y = wy.drewN nq := ⟨_, rfl⟩
            have hwzb : Below wy.heap.size wy wz := by rw [hwz]; exact drewN_below wy nq
            have HZ : Hid (RdI w (da.cells ea.length pa.length) (db.cells eb.length pb.length) out v wz) := by rw [hwz]; exact HY.out.drew nq
            rw [← hwz]
            replace ka := (hwzb.cell (World.block_lt_of_cell? wy _ ka)).trans ka
            replace ca := (hwzb.cell (World.block_lt_of_cell? wy _ ca)).trans ca
            replace la := (hwzb.cell (World.block_lt_of_cell? wy _ la)).trans la
            replace lb := (hwzb.cell (World.block_lt_of_cell? wy _ lb)).trans lb
            replace cva := (hwzb.cell (World.block_lt_of_cell? wy _ cva)).trans cva
            replace cvb := (hwzb.cell (World.block_lt_of_cell? wy _ cvb)).trans cvb
            clear hwz hwzb HY
            have h3 := HM.out
            rw [HEA.out, HEB.out, merge_cons, if_neg (show ¬ Lt (kyb (ak, av).1) (kyb (bk, bv).1) from h1), if_neg (show ¬ Lt (kyb (bk, bv).1) (kyb (ak, av).1) from h2)] at h3
            by_cases hvv : av = bv
            · subst hvv
              have HM' : Hid (out ++ mergeD (ea.drop (p + 1)) (eb.drop (q + 1)) = mergeD ea eb) := by show _ = _; rw [if_pos rfl] at h3; exact h3
              clear h3
              go_wp2_with fail
              go_quiet (fail)
              obtain ⟨wu, hwu⟩ : ∃ y, y = wz.drewN nq := ⟨_, rfl⟩
              have HU : Hid (RdI w (da.cells ea.length pa.length) (db.cells eb.length pb.length) out v wu) := by rw [hwu]; exact HZ.out.drew nq
              rw [← hwu]
              clear hwu ka ca la lb cva cvb HZ
              go_wp2_with fail
              go_roundw
              case rel => exact ⟨p + 1, q + 1, out, by omega, by omega, by first | rfl | go_num, by first | rfl | go_num, HM', HU⟩
              case measure => simp [intOf]; omega
            · have hvb : (av != bv) = true := by simpa using hvv
              have HM' : Hid (out ++ [(ak, 3)] ++ mergeD (ea.drop (p + 1)) (eb.drop (q + 1)) = mergeD ea eb) := by
                show _ = _
                rw [if_neg (show ¬ (ak, av).2 = (bk, bv).2 from hvv)] at h3
                rw [← h3]; simp
              clear h3
              go_wp2_with fail
              go_quiet (fail)
              obtain ⟨wu, hwu⟩ : ∃ y, y = wz.drewN nq := ⟨_, rfl⟩
              have hwub : Below wz.heap.size wz wu := by rw [hwu]; exact drewN_below wz nq
              have HU : Hid (RdI w (da.cells ea.length pa.length) (db.cells eb.length pb.length) out v wu) := by rw [hwu]; exact HZ.out.drew nq
              rw [← hwu]
              replace ka := (hwub.cell (World.block_lt_of_cell? wz _ ka)).trans ka
              replace ca := (hwub.cell (World.block_lt_of_cell? wz _ ca)).trans ca
              clear hwu hwub HZ
              have hbs := HU.out.below.size
              go_wp2_with (at_builtin; refine wpList_append_own _ rfl (.tmp 97) (.tmp 104) 47 rfl w.heap.size 50 i0 (.agg #[.string ⟨#[]⟩, .int .i64 0]) 2 24 Try.underlying47 hi hz0 hz1 hz2 rfl (by decide) _ out.length _ rfl (World.ownsRow.alloc HU.out.own _) ⟨wu.heap.size, 0, none⟩ 1 1 [.string ak, .int .i64 3] rfl rfl (cells_new wu [.string ak, .int .i64 3] 50) (by simp [Value.oneCell']) (by unfold maxLen; omega) (by omega) (by simp; omega) ?_)
              intro v8 w8 ho8 hg8 _
              have HI8 : Hid (RdI w (da.cells ea.length pa.length) (db.cells eb.length pb.length) (out ++ [(ak, 3)]) v8 w8) := HU.out.app (x := (ak, 3)) ho8 hg8
              clear ho8 hg8 HU ka ca la lb cva cvb
              go_wp2_with fail
              go_roundw
              case rel => exact ⟨p + 1, q + 1, out ++ [(ak, 3)], by omega, by omega, by first | rfl | go_num, by first | rfl | go_num, HM', HI8⟩
              case measure => simp [intOf]; omega
      · have HPE : Hid (p = ea.length) := by show _ = _; omega
        obtain ⟨bb, ob, hkb, cb, sb⟩ := (HD.out.2.keep HI.out.below).key q hqb
        have HEB : Hid (eb.drop q = eb[q] :: eb.drop (q + 1)) := List.drop_eq_getElem_cons hqb
        obtain ⟨vb, xb, hvb, cvb⟩ := (HD.out.2.keep HI.out.below).val q hqb
        obtain ⟨⟨bk, bv⟩, hbe⟩ : ∃ e, e = eb[q] := ⟨_, rfl⟩
        rw [← hbe] at cb sb HEB cvb
        clear hbe
        simp only at cb sb cvb
        rw [hkb] at kb
        rw [hvb] at lb
        have i2 : (0 : Int) ≤ (q : Int) ∧ (q : Int) < (eb.length : Int) := by omega
        have dq : decide ((q : Int) < (eb.length : Int)) = true := decide_eq_true (by omega)
        have dq' : decide ((q : Int) ≥ (eb.length : Int)) = false := decide_eq_false (by omega)
        have dq2 : decide (eb.length ≤ q) = false := decide_eq_false (by omega)
        have dp : decide ((p : Int) < (ea.length : Int)) = false := decide_eq_false (by omega)
        have dp' : decide ((p : Int) ≥ (ea.length : Int)) = true := decide_eq_true (by omega)
        have dp2 : decide (ea.length ≤ p) = true := decide_eq_true (by omega)
        have dp3 : decide (p < ea.length) = false := decide_eq_false (by omega)
        have HM' : Hid (out ++ [(bk, 1)] ++ mergeD (ea.drop p) (eb.drop (q + 1)) = mergeD ea eb) := by
          show _ = _
          have h3 := HM.out
          rw [HEB.out, HPE.out, List.drop_length, merge_nil] at h3
          rw [HPE.out, List.drop_length, merge_nil, ← h3]; simp [newD]
        clear hkb hvb
        go_wp2_with fail
        go_quiet (fail)
        obtain ⟨wy, hwy⟩ : ∃ y, y = wr.drewN nq := ⟨_, rfl⟩
        have hwyb : Below wr.heap.size wr wy := by rw [hwy]; exact drewN_below wr nq
        have HY : Hid (RdI w (da.cells ea.length pa.length) (db.cells eb.length pb.length) out v wy) := by rw [hwy]; exact HI.out.drew nq
        rw [← hwy]
        replace ka := (hwyb.cell (World.block_lt_of_cell? wr _ ka)).trans ka
        replace kb := (hwyb.cell (World.block_lt_of_cell? wr _ kb)).trans kb
        replace cb := (hwyb.cell (World.block_lt_of_cell? wr _ cb)).trans cb
        clear hwy hwyb HI
        go_wp2_with fail
        go_quiet (fail)
        obtain ⟨wz, hwz⟩ : ∃ y, y = wy.drewN nq := ⟨_, rfl⟩
        have hwzb : Below wy.heap.size wy wz := by rw [hwz]; exact drewN_below wy nq
        have HZ : Hid (RdI w (da.cells ea.length pa.length) (db.cells eb.length pb.length) out v wz) := by rw [hwz]; exact HY.out.drew nq
        rw [← hwz]
        replace kb := (hwzb.cell (World.block_lt_of_cell? wy _ kb)).trans kb
        replace cb := (hwzb.cell (World.block_lt_of_cell? wy _ cb)).trans cb
        clear hwz hwzb HY
        have hbs := HZ.out.below.size
        go_wp2_with (at_builtin; refine wpList_append_own _ rfl (.tmp 75) (.tmp 82) 47 rfl w.heap.size 50 i0 (.agg #[.string ⟨#[]⟩, .int .i64 0]) 2 24 Try.underlying47 hi hz0 hz1 hz2 rfl (by decide) _ out.length _ rfl (World.ownsRow.alloc HZ.out.own _) ⟨wz.heap.size, 0, none⟩ 1 1 [.string bk, .int .i64 1] rfl rfl (cells_new wz [.string bk, .int .i64 1] 50) (by simp [Value.oneCell']) (by unfold maxLen; omega) (by omega) (by simp; omega) ?_)
        intro v8 w8 ho8 hg8 _
        have HI8 : Hid (RdI w (da.cells ea.length pa.length) (db.cells eb.length pb.length) (out ++ [(bk, 1)]) v8 w8) := HZ.out.app (x := (bk, 1)) ho8 hg8
        clear ho8 hg8 HZ ka kb cb la lb cvb
        go_wp2_with fail
        go_roundw
        case rel => exact ⟨p, q + 1, out ++ [(bk, 1)], by omega, by omega, by first | rfl | go_num, by first | rfl | go_num, HM', HI8⟩
        case measure => simp [intOf]; omega
    · have hqe : q = eb.length := by omega
      subst hqe
      have dq : decide ((eb.length : Int) < (eb.length : Int)) = false := decide_eq_false (by omega)
      have dq' : decide ((eb.length : Int) ≥ (eb.length : Int)) = true := decide_eq_true (by omega)
      by_cases hpa : p < ea.length
      · obtain ⟨ba, oa, hka, ca, sa⟩ := (HD.out.1.keep HI.out.below).key p hpa
        have HEA : Hid (ea.drop p = ea[p] :: ea.drop (p + 1)) := List.drop_eq_getElem_cons hpa
        obtain ⟨va, xa, hva, cva⟩ := (HD.out.1.keep HI.out.below).val p hpa
        obtain ⟨⟨ak, av⟩, hae⟩ : ∃ e, e = ea[p] := ⟨_, rfl⟩
        rw [← hae] at ca sa HEA cva
        clear hae
        simp only at ca sa cva
        rw [hka] at ka
        rw [hva] at la
        have i1 : (0 : Int) ≤ (p : Int) ∧ (p : Int) < (ea.length : Int) := by omega
        have dp : decide ((p : Int) < (ea.length : Int)) = true := decide_eq_true (by omega)
        have dp' : decide ((p : Int) ≥ (ea.length : Int)) = false := decide_eq_false (by omega)
        have dp2 : decide (ea.length ≤ p) = false := decide_eq_false (by omega)
        have HM' : Hid (out ++ [(ak, 2)] ++ mergeD (ea.drop (p + 1)) (eb.drop eb.length) = mergeD ea eb) := by
          show _ = _
          have h3 := HM.out
          rw [HEA.out, List.drop_length, merge_end] at h3
          rw [List.drop_length, ← h3]; simp
        clear hka hva
        go_wp2_with fail
        go_quiet (fail)
        obtain ⟨wy, hwy⟩ : ∃ y, y = wr.drewN nq := ⟨_, rfl⟩
        have hwyb : Below wr.heap.size wr wy := by rw [hwy]; exact drewN_below wr nq
        have HY : Hid (RdI w (da.cells ea.length pa.length) (db.cells eb.length pb.length) out v wy) := by rw [hwy]; exact HI.out.drew nq
        rw [← hwy]
        replace ka := (hwyb.cell (World.block_lt_of_cell? wr _ ka)).trans ka
        replace ca := (hwyb.cell (World.block_lt_of_cell? wr _ ca)).trans ca
        clear hwy hwyb HI
        have hbs := HY.out.below.size
        go_wp2_with (at_builtin; refine wpList_append_own _ rfl (.tmp 46) (.tmp 53) 47 rfl w.heap.size 50 i0 (.agg #[.string ⟨#[]⟩, .int .i64 0]) 2 24 Try.underlying47 hi hz0 hz1 hz2 rfl (by decide) _ out.length _ rfl (World.ownsRow.alloc HY.out.own _) ⟨wy.heap.size, 0, none⟩ 1 1 [.string ak, .int .i64 2] rfl rfl (cells_new wy [.string ak, .int .i64 2] 50) (by simp [Value.oneCell']) (by unfold maxLen; omega) (by omega) (by simp; omega) ?_)
        intro v8 w8 ho8 hg8 _
        have HI8 : Hid (RdI w (da.cells ea.length pa.length) (db.cells eb.length pb.length) (out ++ [(ak, 2)]) v8 w8) := HY.out.app (x := (ak, 2)) ho8 hg8
        clear ho8 hg8 HY ka ca kb la lb cva
        go_wp2_with fail
        go_roundw
        case rel => exact ⟨p + 1, eb.length, out ++ [(ak, 2)], by omega, by omega, by first | rfl | go_num, by first | rfl | go_num, HM', HI8⟩
        case measure => simp [intOf]; omega
      · have hpe : p = ea.length := by omega
        subst hpe
        have dp : decide ((ea.length : Int) < (ea.length : Int)) = false := decide_eq_false (by omega)
        have HF : Hid (Below w.heap.size w wr ∧ OwnG cgCells 50 2 wr w.heap.size v (mergeD ea eb)) := by
          have h3 := HM.out
          rw [List.drop_length, List.drop_length, merge_nil] at h3
          have h4 : out = mergeD ea eb := by rw [← h3]; simp [newD]
          rw [← h4]
          exact ⟨HI.out.below, HI.out.own⟩
        clear HI HM
        go_wp2
        go_ret
        exact ⟨_, rfl, HF.out⟩
end Go.Proofs.Ytnmndjplbcpglaa
