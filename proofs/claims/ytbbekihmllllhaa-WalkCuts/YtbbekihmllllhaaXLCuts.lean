/- Layer 4 (walk): the walk of WalkCuts. -/
import Derived.Test.YtbbekihmllllhaaXGot2
import Derived.Test.YtbbekihmllllhaaXCutM
import Derived.Test.YtbbekihmllllhaaXCutG
import Derived.Deep.RegionHeld3
import Derived.Lib.ConvBytes
namespace Go.Proofs.Ytbbekihmllllhaa
open Go.RowKit Go.Shelf
set_option linter.unusedVariables false
attribute [local go_sem] Oper.semAt_some

set_option maxRecDepth 100000 in
set_option maxHeartbeats 8000000 in
theorem walkCuts_walk (ao : Option Addr) (cap : Nat) (l : List En) (lo0 hi0 : ByteArray) (w : World) (hl : EntsAt w ao l) (hn : l.length ≤ 5864062014634) (hlo0 : lo0.size ≤ 140737488351232) (hhi0 : hi0.size ≤ 140737488351232) :
    Calls Try.prog 4 #[.slice ao l.length cap, .string lo0, .string hi0] w fun e w' => e = .returned (.bool true) ∧ Below w.heap.size w w' := by
  have HL : Hid (EntsAt w ao l) := hl
  have hnot : ∀ (x : Bool) (w : World), (Op.unary .not (.bool x)).run Try.prog w = .ok (.bool (!x)) w := fun _ _ => rfl
  have hdl := docOf_len l
  clear hl
  refine (callsIn_wide (n := 8)).1 ?_
  refine callsIn_of_wp_marks Try.func4 rfl trivial ?_ rfl
  refine wpIn_wide.2 ?_
  simp only [Try.ntmps4, List.size_toArray, List.length_cons, List.length_nil, Nat.reduceAdd, Nat.reduceSub, Array.replicate_succ, Array.replicate_zero, List.push_toArray, List.append_toArray, List.nil_append, List.cons_append]
  go_wp2_with fail
  refine (walkAlive_calls w).mono ?_
  rintro e w1 ⟨rfl, hb1⟩
  have HB1 : Hid (Below w.heap.size w w1) := hb1
  have HBU := built4_calls ao cap l w1 (HL.out.below hb1) hn
  clear hb1
  go_wp2_with fail
  refine HBU.mono ?_
  clear HBU
  rintro e w2 ⟨tb, T, ne, d, ps, rfl, hH, -⟩
  have HB2 : Hid (Below w.heap.size w w2) := HB1.out.trans (hH.good.below.mono HB1.out.size)
  have HH2 : Hid (Held w1 w2 tb T ne l.length (docOf l)) := hH
  clear hH HB1
  obtain ⟨es, hes⟩ : ∃ es, es = docOf l := ⟨_, rfl⟩
  rw [← hes] at HH2 hdl ⊢
  clear hes
  obtain ⟨w3, HW3⟩ : ∃ w3, Hid (w3 = w2.alloc (.cells (d.cells es.length ps.length) 28)) := ⟨_, rfl⟩
  have hb3 : Below w2.heap.size w2 w3 := by rw [HW3.out]; exact (Below.refl _ _).alloc (Nat.le_refl _) _
  have hs3 : w3.heap.size = w2.heap.size + 1 := by rw [HW3.out]; simp [World.size_alloc]
  have HB3 : Hid (Below w2.heap.size w2 w3) := hb3
  clear hb3
  unfold Dv.cells
  unfold Dv.cells at HW3
  go_upto_if 36 with fail
  rw [← HW3.out]
  clear HW3
  go_cut [1, 2] from 37 to 38 (fun s1 s2 wx => ∃ lo hi : ByteArray, s1 = .string lo ∧ s2 = .string hi ∧ Hid (lo.size ≤ 140737488351232 ∧ hi.size ≤ 140737488351232 ∧ ¬ Lt (kyb hi) (kyb lo)) ∧ w3 = wx)
  case first =>
    go_wp2_with fail
    all_goals (
      rename_i hc
      rw [less_lt] at hc
      go_meet
      first
        | exact ⟨hi0, lo0, rfl, rfl, ⟨hhi0, hlo0, lt_asy (of_decide_eq_true hc)⟩, rfl⟩
        | exact ⟨lo0, hi0, rfl, rfl, ⟨hlo0, hhi0, of_decide_eq_false hc⟩, rfl⟩)
  case rest =>
    obtain ⟨lo, hi, rfl, rfl, HLH, rfl⟩ := hcut
    obtain ⟨w5, HW5⟩ : ∃ w5, Hid (w5 = (w3.alloc (.cells #[.slice none 0 0] 22)).alloc (.cells #[.slice none 0 0] 22)) := ⟨_, rfl⟩
    have s4 : (w3.alloc (.cells #[.slice none 0 0] 22)).heap.size = w2.heap.size + 2 := by simp [World.size_alloc, hs3]
    have hb5 : Below w2.heap.size w2 w5 := by rw [HW5.out]; exact (HB3.out.alloc (by omega) _).alloc (by omega) _
    have hs5 : w5.heap.size = w2.heap.size + 3 := by rw [HW5.out]; simp [World.size_alloc, hs3]
    have q1 : w5.heap[w2.heap.size + 1]? = some (.cells #[.slice none 0 0] 22) := by rw [HW5.out, Below.heap_alloc _ _ _ (by omega)]; exact new_at hs3 _
    have q2 : w5.heap[w2.heap.size + 2]? = some (.cells #[.slice none 0 0] 22) := by rw [HW5.out]; exact new_at s4 _
    have HQ5 : Hid (Below w2.heap.size w2 w5 ∧ w5.heap[w2.heap.size + 1]? = some (.cells #[.slice none 0 0] 22) ∧ w5.heap[w2.heap.size + 2]? = some (.cells #[.slice none 0 0] 22)) := ⟨hb5, q1, q2⟩
    have HF := from_calls (some ⟨tb, 0, none⟩) lo w5
    clear hb5 q1 q2
    go_wp2_with fail
    try rw [hs3]
    try rw [show w2.heap.size + 1 + 1 = w2.heap.size + 2 from rfl]
    rw [← HW5.out]
    clear HW5 s4
    refine HF.mono ?_
    clear HF
    rintro e w6 ⟨rfl, hw6⟩
    obtain ⟨hb6, hs6, d1, d2⟩ := from_boxes hw6
    have hb26 : Below w2.heap.size w2 w6 := HQ5.out.1.trans (hb6.mono HQ5.out.1.size)
    have g6 : w6.heap[w2.heap.size + 1]? = some (.cells #[.slice none 0 0] 22) := (hb6.block _ (by omega)).trans HQ5.out.2.1
    have HP6 : Hid (w6.heap[w2.heap.size + 2]? = some (.cells #[.slice none 0 0] 22)) := (hb6.block _ (by omega)).trans HQ5.out.2.2
    rw [hs5] at d1 d2 hs6 ⊢
    have hTin := HH2.out.tin
    have hfl : ∀ q, (fil (l.length + 1) T q).length ≤ es.length := fun q => by rw [filOf HH2.out]; exact List.length_filter_le _ _
    have hef := eql_seq
    obtain ⟨i0, hi00, hz0, hz1, hz2⟩ := infoOf infoE
    clear hw6 hb6 HQ5
    go_wp2_with fail
    refine (wpIn_wide (n := 8)).1 ?_
    refine range_law (n := 8) (by omega) (gf := 34) (lb := #[.pointer (some ⟨w2.heap.size + 3, 0, none⟩), .pointer (some ⟨w2.heap.size + 3 + 1, 0, none⟩)]) rfl (enters_of Try.func34 (by kernel_rfl) rfl)
      (from_seq w2 tb T ne l.length hTin lo (Nat.le_trans HLH.out.1 (by decide)) (fun _ => False) (w2.heap.size + 3) (w2.heap.size + 3 + 1) w6 hb26 (fun b h => h.elim) d1 d2) (fun h1 h2 => h1.trans h2) (kp_put hb26.size) (Below.refl _ _) (fun _ => rfl)
      (fun pre W => Go2 w2 w6 (w2.heap.size + 1) (pre.map (·.1)) W)
      (fun _ _ _ => False) ?hI1 (fun _ _ _ _ _ h _ _ => h) ?h01 ?a11 ?assign1 ?body1 ?done1 ?stop1

    case assign1 =>
      intro l' m x W' K hK
      dsimp only [encE]
      gi_wp2
      exact hK
    case hI1 =>
      intro pre X C row hs hg hr
      exact Go2.ownFrom (by omega) (by omega) _ X C row hs hg hr
    case body1 =>
      rintro l' m pre x W' hsz' hI' hlen
      obtain ⟨gao, gn, gcap, hbox, hown⟩ := hI'.got
      have cc : W'.cell? ⟨w2.heap.size + 1, 0, none⟩ = some (.slice gao gn gcap) := by rw [cell_of_blk hbox]; rfl
      have hbs := hI'.below.size
      have HG : Hid (Below w2.heap.size w2 W' ∧ W'.heap[w2.heap.size + 1]? = some (.cells #[.slice gao gn gcap] 22) ∧ OwnE W' w6.heap.size (.slice gao gn gcap) (pre.map (·.1)) ∧ w6.heap.size ≤ W'.heap.size ∧ (∀ b, b < w6.heap.size → b ≠ w2.heap.size + 1 → W'.heap[b]? = w6.heap[b]?)) := ⟨hI'.below, hbox, hown, hI'.size, hI'.kept⟩
      have hpl : (pre.map (·.1)).length ≤ es.length ∧ pre.length ≤ es.length := by have := hfl lo; exact ⟨by rw [List.length_map]; omega, by omega⟩
      have hss := hI'.size
      clear hI' hbox hown
      gi_wp2_with (gi_at_builtin; refine wpListIn_append_own _ rfl (.tmp 47) (.tmp 51) 22 rfl w6.heap.size 35 i0 (.agg #[.string ⟨#[]⟩, .int .i64 0]) 2 24 Try.underlying22 hi00 hz0 hz1 hz2 rfl (by decide) _ (pre.map (·.1)).length _ rfl (World.ownsRow.alloc HG.out.2.2.1 _) ⟨W'.heap.size, 0, none⟩ 1 1 [.string x.1.1, .int .i64 x.1.2] rfl rfl (entry_new _ _ _) (by simp [Value.oneCell']) (by unfold maxLen; omega) (by omega) (by simp; omega) ?_)
      intro v8 w8 ho8 hg8 _
      obtain ⟨ag, cg, hv8, -, -⟩ := World.ownsRow.form ho8 (by omega)
      subst hv8
      obtain ⟨b8, ko8, kp8, go8⟩ := Go2.appended (A := w6) (m := pre.length + 1) (by simp) (by omega) (by omega) HG.out.1 HG.out.2.2.2.1 HG.out.2.2.2.2 HG.out.2.1 HG.out.2.2.1 (by rw [hs6]; exact ho8) hg8
      have c8 : w8.cell? ⟨w2.heap.size + 1, 0, none⟩ = some (.slice gao gn gcap) := by rw [cell_of_blk b8]; rfl
      have z8 : w8.frozen? ⟨w2.heap.size + 1, 0, none⟩ = false := frozen_of_blk b8
      have HR : Hid (_ ∧ _ ∧ _) := ⟨ko8, kp8, go8⟩
      clear ho8 hg8 b8 ko8 kp8 go8 cc
      gi_wp2
      refine ⟨HR.out.1.from _, HR.out.2.1, ?_⟩
      try dsimp only
      rw [List.map_append]
      exact HR.out.2.2
    case stop1 =>
      rintro D c xs W' _ _ h _
      exact h.elim
    case h01 => exact Go2.start hb26 g6
    case done1 =>
      rintro D1 xs W1 hD1 hS hI' hK1
      -- what loop 1 leaves
      have hS' : xs.map (·.1) = es.filter (notLt (kyb lo)) := by rw [hS, filOf HH2.out]
      rw [hS'] at hI'
      have hb21 := hI'.below
      have p1 : W1.heap[w2.heap.size + 2]? = some (.cells #[.slice none 0 0] 22) := (hI'.kept _ (by omega) (by omega)).trans HP6.out
      have h61 := hI'.size
      have HG1 : Hid (Go2 w2 w6 (w2.heap.size + 1) (es.filter (notLt (kyb lo))) W1) := hI'
      have HK1 : Hid (W1.heap[D1]? = some (.deferred (some []))) := hK1
      have hDl1 := lt_of_heap hK1
      have HF := between_calls (some ⟨tb, 0, none⟩) lo hi W1
      have HP1 : Hid (W1.heap[w2.heap.size + 2]? = some (.cells #[.slice none 0 0] 22)) := p1
      clear hI' hS hS' hK1 p1 d1 d2 g6 HP6
      go_wp2_with fail
      refine HF.mono ?_
      clear HF
      rintro e w7 ⟨rfl, hw7⟩
      obtain ⟨hb7, hs7, d1, d2, d3⟩ := box_blocks3 hw7
      have hb27 : Below w2.heap.size w2 w7 := hb21.trans (hb7.mono hb21.size)
      have HB7 : Hid (Below W1.heap.size W1 w7) := hb7
      have g7 : Go2 w2 W1 (w2.heap.size + 2) [] w7 := (Go2.start hb21 HP1.out).keep hb7
      clear hw7 hb7
      go_wp2_with fail
      refine (wpIn_wide (n := 8)).1 ?_
      refine range_law (n := 8) (by omega) (gf := 36) (lb := #[.pointer (some ⟨W1.heap.size, 0, none⟩), .pointer (some ⟨W1.heap.size + 1, 0, none⟩), .pointer (some ⟨W1.heap.size + 1 + 1, 0, none⟩)]) rfl (enters_of Try.func36 (by kernel_rfl) rfl)
        (between_seq w2 tb T ne l.length hTin lo hi (Nat.le_trans HLH.out.1 (by decide)) (fun _ => False) W1.heap.size (W1.heap.size + 1) (W1.heap.size + 1 + 1) w7 hb27 (fun b h => h.elim) d1 d2 d3 (fun h => h)) (fun h1 h2 => h1.trans h2) (kp_put hb27.size) (Below.refl _ _) (fun _ => rfl)
        (fun pre W => Go2 w2 W1 (w2.heap.size + 2) (pre.map (·.1)) W)
        (fun _ _ _ => False) ?hI2 (fun _ _ _ _ _ h _ _ => h) ?h02 ?a12 ?assign2 ?body2 ?done2 ?stop2

      case assign2 =>
        intro l' m x W' K hK
        dsimp only [encE]
        gi_wp2
        exact hK
      case hI2 =>
        intro pre X C row hs hg hr
        exact Go2.ownFrom (by omega) (by omega) _ X C row hs hg hr
      case body2 =>
        rintro l' m pre x W' hsz' hI' hlen
        obtain ⟨gao, gn, gcap, hbox, hown⟩ := hI'.got
        have cc : W'.cell? ⟨w2.heap.size + 2, 0, none⟩ = some (.slice gao gn gcap) := by rw [cell_of_blk hbox]; rfl
        have hbs := hI'.below.size
        have HG : Hid (Below w2.heap.size w2 W' ∧ W'.heap[w2.heap.size + 2]? = some (.cells #[.slice gao gn gcap] 22) ∧ OwnE W' W1.heap.size (.slice gao gn gcap) (pre.map (·.1)) ∧ W1.heap.size ≤ W'.heap.size ∧ (∀ b, b < W1.heap.size → b ≠ w2.heap.size + 2 → W'.heap[b]? = W1.heap[b]?)) := ⟨hI'.below, hbox, hown, hI'.size, hI'.kept⟩
        have hpl : (pre.map (·.1)).length ≤ es.length ∧ pre.length ≤ es.length := by have := hfl lo; exact ⟨by rw [List.length_map]; omega, by omega⟩
        have hss := hI'.size
        clear hI' hbox hown
        gi_wp2_with (gi_at_builtin; refine wpListIn_append_own _ rfl (.tmp 62) (.tmp 66) 22 rfl W1.heap.size 35 i0 (.agg #[.string ⟨#[]⟩, .int .i64 0]) 2 24 Try.underlying22 hi00 hz0 hz1 hz2 rfl (by decide) _ (pre.map (·.1)).length _ rfl (World.ownsRow.alloc HG.out.2.2.1 _) ⟨W'.heap.size, 0, none⟩ 1 1 [.string x.1.1, .int .i64 x.1.2] rfl rfl (entry_new _ _ _) (by simp [Value.oneCell']) (by unfold maxLen; omega) (by omega) (by simp; omega) ?_)
        intro v8 w8 ho8 hg8 _
        obtain ⟨ag, cg, hv8, -, -⟩ := World.ownsRow.form ho8 (by omega)
        subst hv8
        obtain ⟨b8, ko8, kp8, go8⟩ := Go2.appended (A := W1) (m := pre.length + 1) (by simp) (by omega) (by omega) HG.out.1 HG.out.2.2.2.1 HG.out.2.2.2.2 HG.out.2.1 HG.out.2.2.1 ho8 hg8
        have c8 : w8.cell? ⟨w2.heap.size + 2, 0, none⟩ = some (.slice gao gn gcap) := by rw [cell_of_blk b8]; rfl
        have z8 : w8.frozen? ⟨w2.heap.size + 2, 0, none⟩ = false := frozen_of_blk b8
        have HR : Hid (_ ∧ _ ∧ _) := ⟨ko8, kp8, go8⟩
        clear ho8 hg8 b8 ko8 kp8 go8 cc
        gi_wp2
        refine ⟨HR.out.1.from _, HR.out.2.1, ?_⟩
        try dsimp only
        rw [List.map_append]
        exact HR.out.2.2
      case stop2 =>
        rintro D c xs W' _ _ h _
        exact h.elim
      case h02 => exact g7
      case done2 =>
        rintro D2 xs W2 hD2 hS hI' hK2
        have hS' : xs.map (·.1) = es.filter (bwP lo hi) := by rw [hS, btwOf HH2.out]
        rw [hS'] at hI'
        have hb22 := hI'.below
        have h12 := hI'.size
        have HG2 : Hid (Go2 w2 W1 (w2.heap.size + 2) (es.filter (bwP lo hi)) W2) := hI'
        have HK2 : Hid (W2.heap[D2]? = some (.deferred (some []))) := hK2
        have hDl2 := lt_of_heap hK2
        have HF := from_calls (some ⟨tb, 0, none⟩) hi W2
        have hbl : (es.filter (bwP lo hi)).length ≤ es.length := List.length_filter_le _ _
        obtain ⟨Lb, hLb⟩ : ∃ Lb, Lb = es.filter (bwP lo hi) := ⟨_, rfl⟩
        rw [← hLb] at HG2 hbl
        have HLB : Hid (Lb = es.filter (bwP lo hi)) := hLb
        have HLL : Hid (Lb.length + (fil (l.length + 1) T hi).length ≤ es.length) := by
          show Lb.length + (fil (l.length + 1) T hi).length ≤ es.length
          rw [filOf HH2.out, hLb, ← List.length_append, ← cut_two HH2.out.sorted HLH.out.2.2]
          exact List.length_filter_le _ _
        clear hI' hS hS' hK2 hLb d1 d2 d3 g7
        go_wp2_with fail
        refine HF.mono ?_
        clear HF
        rintro e w8 ⟨rfl, hw8⟩
        obtain ⟨hb8, hs8, d1, d2⟩ := from_boxes hw8
        have hb28 : Below w2.heap.size w2 w8 := hb22.trans (hb8.mono hb22.size)
        have g8 : Go2 w2 W1 (w2.heap.size + 2) Lb w8 := HG2.out.keep hb8
        have k8 : w8.heap[D2]? = some (.deferred (some [])) := (hb8.block _ hDl2).trans HK2.out
        clear hw8 hb8 HG2 HK2
        go_wp2_with fail
        refine (wpIn_wide (n := 8)).1 ?_
        refine range_law (n := 8) (by omega) (gf := 34) (lb := #[.pointer (some ⟨W2.heap.size, 0, none⟩), .pointer (some ⟨W2.heap.size + 1, 0, none⟩)]) rfl (enters_of Try.func34 (by kernel_rfl) rfl)
          (from_seq w2 tb T ne l.length hTin hi (Nat.le_trans HLH.out.2.1 (by decide)) (fun _ => False) W2.heap.size (W2.heap.size + 1) w8 hb28 (fun b h => h.elim) d1 d2) (fun h1 h2 => h1.trans h2) (kp_put hb28.size) (Below.refl _ _) (fun _ => rfl)
          (fun pre W => Go2 w2 W1 (w2.heap.size + 2) (Lb ++ pre.map (·.1)) W ∧ W.heap[D2]? = some (.deferred (some [])))
          (fun _ _ _ => False) ?hI3 (fun _ _ _ _ _ h _ _ => h) ?h03 ?a13 ?assign3 ?body3 ?done3 ?stop3

        case assign3 =>
          intro l' m x W' K hK
          dsimp only [encE]
          gi_wp2
          exact hK
        case hI3 =>
          intro pre X C row hs hg hr
          exact ⟨Go2.ownFrom (by omega) (by omega) _ X C row hs.1 hg hr, (hg.block _ (lt_of_heap hs.2) (fun e => by have := (hr _ e.symm).1; omega)).trans hs.2⟩
        case body3 =>
          rintro l' m pre x W' hsz' ⟨hI', hD'⟩ hlen
          obtain ⟨gao, gn, gcap, hbox, hown⟩ := hI'.got
          have cc : W'.cell? ⟨w2.heap.size + 2, 0, none⟩ = some (.slice gao gn gcap) := by rw [cell_of_blk hbox]; rfl
          have hbs := hI'.below.size
          have HG : Hid (Below w2.heap.size w2 W' ∧ W'.heap[w2.heap.size + 2]? = some (.cells #[.slice gao gn gcap] 22) ∧ OwnE W' W1.heap.size (.slice gao gn gcap) (Lb ++ pre.map (·.1)) ∧ W1.heap.size ≤ W'.heap.size ∧ (∀ b, b < W1.heap.size → b ≠ w2.heap.size + 2 → W'.heap[b]? = W1.heap[b]?)) := ⟨hI'.below, hbox, hown, hI'.size, hI'.kept⟩
          have hpl : (Lb ++ pre.map (·.1)).length ≤ es.length ∧ pre.length ≤ es.length := by have := HLL.out; have := hfl hi; exact ⟨by rw [List.length_append, List.length_map]; omega, by omega⟩
          have hss := hI'.size
          clear hI' hbox hown
          gi_wp2_with (gi_at_builtin; refine wpListIn_append_own _ rfl (.tmp 76) (.tmp 80) 22 rfl W1.heap.size 35 i0 (.agg #[.string ⟨#[]⟩, .int .i64 0]) 2 24 Try.underlying22 hi00 hz0 hz1 hz2 rfl (by decide) _ (Lb ++ pre.map (·.1)).length _ rfl (World.ownsRow.alloc HG.out.2.2.1 _) ⟨W'.heap.size, 0, none⟩ 1 1 [.string x.1.1, .int .i64 x.1.2] rfl rfl (entry_new _ _ _) (by simp [Value.oneCell']) (by unfold maxLen; omega) (by omega) (by simp; omega) ?_)
          intro v8 w8 ho8 hg8 _
          obtain ⟨ag, cg, hv8, -, -⟩ := World.ownsRow.form ho8 (by omega)
          subst hv8
          obtain ⟨b8, ko8, kp8, go8⟩ := Go2.appended (A := W1) (m := Lb.length + pre.length + 1) (by simp) (by omega) (by omega) HG.out.1 HG.out.2.2.2.1 HG.out.2.2.2.2 HG.out.2.1 HG.out.2.2.1 ho8 hg8
          have c8 : w8.cell? ⟨w2.heap.size + 2, 0, none⟩ = some (.slice gao gn gcap) := by rw [cell_of_blk b8]; rfl
          have z8 : w8.frozen? ⟨w2.heap.size + 2, 0, none⟩ = false := frozen_of_blk b8
          have HR : Hid (_ ∧ _ ∧ _) := ⟨ko8, kp8, go8⟩
          clear ho8 hg8 b8 ko8 kp8 go8 cc
          gi_wp2
          refine ⟨HR.out.1.from _, HR.out.2.1, ?_, HR.out.1.same _ _ hD' rfl⟩
          try dsimp only
          rw [List.map_append]
          rw [← List.append_assoc]
          exact HR.out.2.2
        case stop3 =>
          rintro D c xs W' _ _ h _
          exact h.elim
        case h03 => exact ⟨by rw [List.map_nil, List.append_nil]; exact g8, k8⟩
        case done3 =>
          rintro D3 xs W3 hD3 hS ⟨hI', hK2⟩ hK3
          have hS' : xs.map (·.1) = es.filter (notLt (kyb hi)) := by rw [hS, filOf HH2.out]
          have hLL : Lb ++ xs.map (·.1) = es.filter (notLt (kyb lo)) := by rw [hS', HLB.out]; exact (cut_two HH2.out.sorted HLH.out.2.2).symm
          rw [hLL] at hI'
          obtain ⟨Lw, hLw⟩ : ∃ Lw, Lw = es.filter (notLt (kyb lo)) := ⟨_, rfl⟩
          rw [← hLw] at hI' HG1
          have hLwl : Lw.length ≤ es.length := by rw [hLw]; exact List.length_filter_le _ _
          have hents : ents (l.length + 1) T = es := HH2.out.ents
          have hsz : ∀ e ∈ Lw, e.1.size ≤ 140737488351232 := fun e he => ents_size (n := l.length + 1) hTin.tree.tat e (by rw [hents]; rw [hLw] at he; exact (List.mem_filter.1 he).1)
          obtain ⟨a1, n1, c1, b1, o1⟩ := HG1.out.got
          obtain ⟨a1', c1', hge, hE1⟩ := o1.ents hsz
          simp only [Value.slice.injEq] at hge
          obtain ⟨rfl, rfl, rfl⟩ := hge
          obtain ⟨a2, n2, c2, b2, o2⟩ := hI'.got
          obtain ⟨a2', c2', hge, hE2⟩ := o2.ents hsz
          simp only [Value.slice.injEq] at hge
          obtain ⟨rfl, rfl, rfl⟩ := hge
          have b1' : W3.heap[w2.heap.size + 1]? = some (.cells #[.slice a1 Lw.length c1] 22) := (hI'.kept _ (lt_of_heap b1) (by omega)).trans b1
          have hE1' : EntsAt W3 a1 Lw := hE1.but HP1.out hI'.kept
          have k1 : W3.heap[D1]? = some (.deferred (some [])) := (hI'.kept _ hDl1 (fun e => by have h1 := HK1.out; rw [e, HP1.out] at h1; cases h1)).trans HK1.out
          have g1 : W3.cell? ⟨w2.heap.size + 1, 0, none⟩ = some (.slice a1 Lw.length c1) := by rw [cell_of_blk b1']; rfl
          have g2 : W3.cell? ⟨w2.heap.size + 2, 0, none⟩ = some (.slice a2 Lw.length c2) := by rw [cell_of_blk b2]; rfl
          have HW : Hid (Below w2.heap.size w2 W3 ∧ W3.heap[D1]? = some (.deferred (some [])) ∧ W3.heap[D2]? = some (.deferred (some [])) ∧ W3.heap[D3]? = some (.deferred (some [])) ∧ EntsAt W3 a1 Lw ∧ EntsAt W3 a2 Lw ∧ W3.cell? ⟨w2.heap.size + 1, 0, none⟩ = some (.slice a1 Lw.length c1) ∧ W3.cell? ⟨w2.heap.size + 2, 0, none⟩ = some (.slice a2 Lw.length c2)) := ⟨hI'.below, k1, hK2, hK3, hE1', hE2, g1, g2⟩
          have l1 := lt_of_heap b1'
          have l2 := lt_of_heap b2
          have l3 := lt_of_heap k1
          have l4 := lt_of_heap hK2
          have l5 := lt_of_heap hK3
          have hDD : D1 < D2 ∧ D2 < D3 := ⟨by omega, by omega⟩
          clear hS hS' hLL hLw hI' hsz b1 o1 hE1 b2 o2 hE2 b1' hE1' k1 hK2 hK3 d1 d2 g8 k8 HG1 HK1 HP1 HLB HLL
          go_wp2_with fail
          clear g1 g2
          go_loopw [89] (fun i wr => ∃ j : Nat, j ≤ Lw.length ∧ i = .int .i64 j ∧ Hid (Below W3.heap.size W3 wr)) (fun i _ => Lw.length - (intOf i).toNat)
          case atStart => exact ⟨0, Nat.zero_le _, rfl, Below.refl _ _⟩
          case round =>
            obtain ⟨j, hj, rfl, HI⟩ := hrel
            by_cases hlt : j < Lw.length
            · obtain ⟨x1, f1, rfl, p1, p2, -⟩ := HW.out.2.2.2.2.1 j hlt
              obtain ⟨x2, f2, rfl, p3, p4, -⟩ := HW.out.2.2.2.2.2.1 j hlt
              have p1' : wr.cell? ⟨x1, f1 + j * 2, none⟩ = some (.string Lw[j].1) := by rw [HI.out.cell (World.block_lt_of_cell? W3 _ p1)]; exact p1
              have p2' : wr.cell? ⟨x1, f1 + j * 2 + 1, none⟩ = some (.int .i64 Lw[j].2) := by rw [HI.out.cell (World.block_lt_of_cell? W3 _ p2)]; exact p2
              have p3' : wr.cell? ⟨x2, f2 + j * 2, none⟩ = some (.string Lw[j].1) := by rw [HI.out.cell (World.block_lt_of_cell? W3 _ p3)]; exact p3
              have p4' : wr.cell? ⟨x2, f2 + j * 2 + 1, none⟩ = some (.int .i64 Lw[j].2) := by rw [HI.out.cell (World.block_lt_of_cell? W3 _ p4)]; exact p4
              have g1' : wr.cell? ⟨w2.heap.size + 1, 0, none⟩ = some (.slice (some ⟨x1, f1, none⟩) Lw.length c1) := by rw [HI.out.cell l1]; exact HW.out.2.2.2.2.2.2.1
              have g2' : wr.cell? ⟨w2.heap.size + 2, 0, none⟩ = some (.slice (some ⟨x2, f2, none⟩) Lw.length c2) := by rw [HI.out.cell l2]; exact HW.out.2.2.2.2.2.2.2
              have i1 : (0 : Int) ≤ (j : Int) ∧ (j : Int) < (Lw.length : Int) := by omega
              clear p1 p2 p3 p4
              go_wp2_with fail
              go_quiet (fail)
              have HI6 : Hid (Below W3.heap.size W3 (wr.drewN nq)) := below_drewN HI.out nq
              clear p1' p2' p3' p4' g1' g2' HI
              go_wp2_with fail
              go_roundw
              case rel => exact ⟨j + 1, by omega, by go_num, HI6⟩
              case measure => simp [intOf]; omega
            · have hjl : j = Lw.length := by omega
              subst hjl
              have hbr : Below w2.heap.size w2 wr := HW.out.1.trans (HI.out.mono HW.out.1.size)
              have HGE := getE_calls tb T ne l.length es w1 wr (HH2.out.keep hbr) lo HLH.out.1
              obtain ⟨bb, hbb⟩ : ∃ bb, bb = decide (lo ∈ keysOf es) := ⟨_, rfl⟩
              rw [← hbb] at HGE
              have HBB : Hid (bb = decide (lo ∈ keysOf es)) := hbb
              clear hbb hbr
              go_wp2_with fail
              refine HGE.mono ?_
              clear HGE
              rintro e w10 ⟨gv, rfl, hb10⟩
              have HI10 : Hid (Below W3.heap.size W3 w10) := HI.out.trans (hb10.mono HI.out.size)
              clear hb10 HI
              go_upto_if 108 with fail
              go_cut [21] from 108 to 108 (fun s21 wx => s21 = .int .i64 ((es.filter (partE lo 0)).length : Int) ∧ w10 = wx)
              case first =>
                have h0 := part_zero HH2.out.sorted lo
                cases bb with
                | true =>
                  have hm : lo ∈ keysOf es := of_decide_eq_true HBB.out.symm
                  rw [if_pos hm] at h0
                  go_wp2_with fail
                  go_meet
                  exact ⟨by rw [h0]; rfl, rfl⟩
                | false =>
                  have hm : ¬ lo ∈ keysOf es := of_decide_eq_false HBB.out.symm
                  rw [if_neg hm] at h0
                  go_wp2_with fail
                  go_meet
                  exact ⟨by rw [h0]; rfl, rfl⟩
              case rest =>
                obtain ⟨rfl, rfl⟩ := hcut
                go_wp2_with fail
                go_loopw [21, 24] (fun s b wr => ∃ j : Nat, j ≤ 256 ∧ b = .int .i64 j ∧ s = .int .i64 ((es.filter (partE lo j)).length : Int) ∧ Hid (Below W3.heap.size W3 wr)) (fun _ b _ => 256 - (intOf b).toNat)
                case atStart => exact ⟨0, by omega, rfl, rfl, HI10⟩
                case round =>
                  obtain ⟨j, hj, rfl, rfl, HI⟩ := hrel
                  have hpl := part_le lo j es
                  have hbr : Below w2.heap.size w2 wr := HW.out.1.trans (HI.out.mono HW.out.1.size)
                  by_cases hlt : j < 256
                  · have hu8 : (UInt8.ofNat j).toNat = j := by simp; omega
                    obtain ⟨w11, HW11⟩ : ∃ w11, Hid (w11 = wr.alloc (.cells #[.int .u8 (j : Int)] 5)) := ⟨_, rfl⟩
                    have hb11 : Below wr.heap.size wr w11 := by rw [HW11.out]; exact (Below.refl _ _).alloc (Nat.le_refl _) _
                    have hcv : (convert 44 9 (.slice (some ⟨wr.heap.size, 0, none⟩) 1 1)).run Try.prog w11 = .ok (.string ⟨[UInt8.ofNat j].toArray⟩) w11 := by
                      refine run_convert_bytes_back (P := Try.prog) w11 44 9 5 ⟨wr.heap.size, 0, none⟩ 1 [UInt8.ofNat j] Try.underlying44 Try.underlying5 Try.underlying9 ?_
                      intro i hi
                      have hi0 : i = 0 := by simpa using hi
                      subst hi0
                      rw [HW11.out]
                      show World.cell? _ ⟨wr.heap.size, 0, none⟩ = _
                      rw [cell_of_blk (heap_alloc_new _ _)]
                      simp only [List.getElem_cons_zero, hu8]
                      rfl
                    obtain ⟨px, hpx⟩ : ∃ px : ByteArray, px = lo ++ ⟨[UInt8.ofNat j].toArray⟩ := ⟨_, rfl⟩
                    have hkp : kyb px = kyb lo ++ [UInt8.ofNat j] := by rw [hpx]; simp [kyb]
                    have hps : px.size ≤ 140737488355328 := by
                      have := HLH.out.1
                      rw [← kyb_len, hkp, List.length_append, kyb_len]
                      simp; omega
                    have hb211 : Below w2.heap.size w2 w11 := hbr.trans (hb11.mono hbr.size)
                    have HCO := count_calls tb T ne l.length w11 ⟨hTin.tree.keep hb211, hTin.wf, hTin.dep, hTin.root⟩ px hps (by rw [hents]; omega)
                    rw [undOf HH2.out] at HCO
                    have hlosz : (lo.size : Int) ≤ 140737488351232 := by have := HLH.out.1; omega
                    have hlosz' : ¬ (9223372036854775807 : Int) < (lo.size : Int) + 1 := by omega
                    have hsum := part_succ hlt hkp es
                    have hsl := part_le lo (j + 1) es
                    have hss : (es.filter (partE lo j)).length + (es.filter (beg px)).length ≤ 5864062014634 := by omega
                    have HSU : Hid ((es.filter (partE lo (j + 1))).length = (es.filter (partE lo j)).length + (es.filter (beg px)).length) := hsum
                    have HI11 : Hid (Below W3.heap.size W3 w11) := HI.out.trans (hb11.mono HI.out.size)
                    clear hsum hsl hkp hps hb211 hb11 hbr HI
                    go_wp2_with fail
                    rw [← HW11.out, hcv]
                    clear HW11 hcv
                    go_wp2_with fail
                    rw [← hpx]
                    clear hpx
                    refine HCO.mono ?_
                    clear HCO
                    rintro e w12 ⟨rfl, hb12⟩
                    have HI12 : Hid (Below W3.heap.size W3 w12) := HI11.out.trans (hb12.mono HI11.out.size)
                    clear hb12 HI11
                    go_wp2_with fail
                    go_roundw
                    case rel => exact ⟨j + 1, by omega, by go_num, congrArg (Value.int .i64) (by rw [HSU.out]; push_cast; rfl), HI12⟩
                    case measure => simp [intOf]; omega
                  · have hj256 : j = 256 := by omega
                    subst hj256
                    rw [part_all lo es]
                    have HCO := count_calls tb T ne l.length wr ⟨hTin.tree.keep hbr, hTin.wf, hTin.dep, hTin.root⟩ lo (Nat.le_trans HLH.out.1 (by decide)) (by rw [hents]; omega)
                    rw [undOf HH2.out] at HCO
                    clear hbr
                    go_wp2_with fail
                    refine HCO.mono ?_
                    clear HCO
                    rintro e w12 ⟨rfl, hb12⟩
                    have HI12 : Hid (Below W3.heap.size W3 w12) := HI.out.trans (hb12.mono HI.out.size)
                    clear hb12
                    go_wp2_with fail
                    have r3 : w12.heap[D3]? = some (.deferred (some [])) := (HI12.out.block _ l5).trans HW.out.2.2.2.1
                    have r2 : (w12.putObj D3 (.deferred none)).heap[D2]? = some (.deferred (some [])) := (World.putObj_heap_other (by omega)).trans ((HI12.out.block _ l4).trans HW.out.2.2.1)
                    have r1 : ((w12.putObj D3 (.deferred none)).putObj D2 (.deferred none)).heap[D1]? = some (.deferred (some [])) := (World.putObj_heap_other (by omega)).trans ((World.putObj_heap_other (by omega)).trans ((HI12.out.block _ l3).trans HW.out.2.1))
                    refine ⟨by simp, .inl ⟨_, _, rfl, run_takeDeferred r3, ?_⟩⟩
                    refine ⟨by simp, .inl ⟨_, _, rfl, run_takeDeferred r2, ?_⟩⟩
                    refine ⟨by simp, .inl ⟨_, _, rfl, run_takeDeferred r1, ?_⟩⟩
                    refine ⟨_, results_tmp rfl _ _ _, rfl, ?_⟩
                    have hbw : Below w.heap.size w W3 := HB2.out.trans (HW.out.1.mono HB2.out.size)
                    have hbz : Below w.heap.size w w12 := hbw.trans (HI12.out.mono hbw.size)
                    have h1 := HB2.out.size
                    have z1 := hbz.grown (grownBy_putObj' w12 D3 (.deferred none)) hbz.size (fun k e => by cases e; omega)
                    have z2 := z1.grown (grownBy_putObj' _ D2 (.deferred none)) z1.size (fun k e => by cases e; omega)
                    exact z2.grown (grownBy_putObj' _ D1 (.deferred none)) z2.size (fun k e => by cases e; omega)
end Go.Proofs.Ytbbekihmllllhaa
