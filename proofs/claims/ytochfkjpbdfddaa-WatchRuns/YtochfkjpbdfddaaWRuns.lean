/- The walk of WatchRuns. -/
import Derived.Test.YtochfkjpbdfddaaWAlive
import Derived.Test.YtochfkjpbdfddaaWRRg
import Derived.Deep.DeepCutAuto
import Derived.Deep.CutRange
import Derived.Lib.QuietBelow
namespace Go.Proofs.Ytochfkjpbdfddaa
open Go.RowKit Go.Sort Go.BigFrame
set_option linter.unusedVariables false

theorem infoBool : (Try.prog.info? 4).map (fun i => (i.zero, i.size, i.bytes)) = some (some (.bool false), 1, 1) := by kernel_rfl



/-- What the operations of the two shows leave. -/
def showV (s5 s6 s4 : Value) (g5 g6 sb hn ch b : Nat) (mst pos : Int) (ah : Option Addr) : Nat → Value
  | 0 => s5
  | 1 => .int .i64 b
  | 2 => .pointer (some ⟨g5, b, none⟩)
  | 3 => .pointer (some ⟨sb, 0, none⟩)
  | 4 => .int .i64 pos
  | 5 => s6
  | 6 => .int .i64 b
  | 7 => .pointer (some ⟨g6, b * 2, none⟩)
  | 8 => .agg #[.int .i64 mst, .slice ah hn ch]
  | 9 => s4
  | 10 => .int .i64 pos
  | 11 => .bool false
  | 12 => .bool false
  | 13 => s5
  | 14 => .int .i64 b
  | 15 => .pointer (some ⟨g5, b, none⟩)
  | 16 => .pointer (some ⟨sb, 0, none⟩)
  | 17 => .int .i64 hn
  | 18 => s6
  | 19 => .int .i64 b
  | 20 => .pointer (some ⟨g6, b * 2, none⟩)
  | 21 => .pointer (some ⟨g6, b * 2 + 1, none⟩)
  | 22 => .slice ah hn ch
  | 23 => .int .i64 hn
  | _ => .bool false

theorem tmod_place {x : Int} {n : Nat} (hn : 0 < n) (hx : 0 ≤ x) : (x.tmod n).toNat < n ∧ ((x.tmod n).toNat : Int) = x.tmod n ∧ x % n = x.tmod n := by
  have h1 : 0 ≤ x.tmod n := Int.tmod_nonneg _ hx
  have h2 : x.tmod n < (n : Int) := Int.tmod_lt_of_pos _ (by omega)
  exact ⟨by omega, by omega, (Int.tmod_eq_emod_of_nonneg hx).symm⟩
/-- One call of a script. -/
structure Opx where
  k : Int
  a : Int
  b : Int
def Opx.wf (o : Opx) : Prop := (-9223372036854775808 ≤ o.a ∧ o.a ≤ 9223372036854775807) ∧ (-9223372036854775808 ≤ o.b ∧ o.b ≤ 9223372036854775807)

def OpsAt (w : World) (ao : Option Addr) (os : List Opx) : Prop :=
  ∀ i (h : i < os.length), ∃ b off, ao = some ⟨b, off, none⟩ ∧ w.cell? ⟨b, off + i * 3, none⟩ = some (.int .i64 os[i].k) ∧ w.cell? ⟨b, off + i * 3 + 1, none⟩ = some (.int .i64 os[i].a) ∧ w.cell? ⟨b, off + i * 3 + 2, none⟩ = some (.int .i64 os[i].b) ∧ os[i].wf
theorem OpsAt.below {w w' : World} {ao : Option Addr} {os : List Opx} (h : OpsAt w ao os) (hb : Below w.heap.size w w') : OpsAt w' ao os := by
  intro i hi
  obtain ⟨b, off, ha, h0, h1, h2, hw⟩ := h i hi
  have hl : b < w.heap.size := World.block_lt_of_cell? w _ h0
  exact ⟨b, off, ha, by rw [hb.cell (by exact hl)]; exact h0, by rw [hb.cell (by exact hl)]; exact h1, by rw [hb.cell (by exact hl)]; exact h2, hw⟩

set_option maxRecDepth 100000 in
set_option maxHeartbeats 64000000 in
theorem runs_walk (ao : Option Addr) (cap : Nat) (os : List Opx) (w : World) (hl : os.length ≤ 5864062014805) (hp : OpsAt w ao os) :
    Calls Try.prog 3 #[.slice ao os.length cap] w fun e w' => e = .returned (.bool true) ∧ Below w.heap.size w w' := by
  have hnot : ∀ (x : Bool) (w : World), (Op.unary .not (.bool x)).run Try.prog w = .ok (.bool (!x)) w := fun _ _ => rfl
  go_enter Try.func3, Try.ntmps3
  go_wp2_with fail
  refine (alive_calls w).mono ?_
  rintro e w1 ⟨rfl, hb1⟩
  have HB1 : Hid (Below w.heap.size w w1) := hb1
  clear hb1
  go_wp2
  go_loopw [3, 4, 5, 6, 23] (fun x3 x4 x5 x6 i wr => ∃ (k : Nat) (wl : List (Nat × Nat)) (fs : List Bool) (sl : List Sx) (a3 a4 a5 a6 : Option Addr) (c3 c4 c5 c6 : Nat),
      k ≤ os.length ∧ i = .int .i64 k ∧ x3 = .slice a3 wl.length c3 ∧ x4 = .slice a4 wl.length c4 ∧ x5 = .slice a5 sl.length c5 ∧ x6 = .slice a6 sl.length c6 ∧
      Hid (RAll w wr (.slice a3 wl.length c3) (.slice a4 wl.length c4) (.slice a5 sl.length c5) (.slice a6 sl.length c6) wl fs sl k)) (fun _ _ _ _ i _ => os.length - (intOf i).toNat)
  case atStart => exact ⟨0, [], [], [], none, none, none, none, 0, 0, 0, 0, Nat.zero_le _, rfl, rfl, rfl, rfl, rfl, RAll.start HB1.out⟩
  case round =>
    obtain ⟨k, wl, fs, sl, a3, a4, a5, a6, c3, c4, c5, c6, hk, rfl, rfl, rfl, rfl, rfl, HR⟩ := hrel
    clear HB1
    by_cases hlt : k < os.length
    · obtain ⟨b, off, rfl, h0, h1, h2, hwf⟩ := (hp.below HR.out.core.below) k hlt
      clear hp
      revert h0 h1 h2 hwf
      generalize os[k] = o
      intro h0 h1 h2 hwf
      have HWF : Hid o.wf := hwf
      have hwk : Hid (wl.length ≤ k) := HR.out.core.wlen
      have hsk : Hid (sl.length ≤ k) := HR.out.core.slen
      clear hwf
      obtain ⟨wb, HWB⟩ : ∃ wb, Hid (wb = wr.alloc (.cells #[.int .i64 o.k, .int .i64 o.a, .int .i64 o.b] 29)) := ⟨_, rfl⟩
      have HO : Hid (wb.heap[wr.heap.size]? = some (.cells #[.int .i64 o.k, .int .i64 o.a, .int .i64 o.b] 29)) := by show _ = _; rw [HWB.out]; exact heap_alloc_new wr _
      have o0 : wb.cell? ⟨wr.heap.size, 0, none⟩ = some (.int .i64 o.k) := by rw [cell_of_blk HO.out]; rfl
      have o1 : wb.cell? ⟨wr.heap.size, 1, none⟩ = some (.int .i64 o.a) := by rw [cell_of_blk HO.out]; rfl
      have o2 : wb.cell? ⟨wr.heap.size, 2, none⟩ = some (.int .i64 o.b) := by rw [cell_of_blk HO.out]; rfl
      have HRB : Hid (RAll w wb (.slice a3 wl.length c3) (.slice a4 wl.length c4) (.slice a5 sl.length c5) (.slice a6 sl.length c6) wl fs sl k) := HR.out.later (by rw [HWB.out]; exact (Below.refl _ wr).alloc (Nat.le_refl _) _)
      go_upto_region 11 with fail
      rw [← HWB.out]
      clear h0 h1 h2 HWB HR
      revert HO o0 o1 o2
      generalize wr.heap.size = ob
      intro HO o0 o1 o2
      go_cut [34, 23] (fun s34 s23 wx => s23 = .int .i64 k ∧ s34 = .bool (decide (0 < wl.length) && decide (0 ≤ o.a)) ∧ wx = wb)
      case first =>
        by_cases hw0 : 0 < wl.length
        · have hd : decide ((wl.length : Int) > 0) = true := decide_eq_true (by omega)
          go_wp2
          go_meet
          exact ⟨rfl, by simp [hw0], rfl⟩
        · have hd : decide ((wl.length : Int) > 0) = false := decide_eq_false (by omega)
          go_wp2
          go_meet
          exact ⟨rfl, by simp [hw0], rfl⟩
      case rest =>
        obtain ⟨rfl, rfl, rfl⟩ := hcut
        go_upto_if 34 with fail
        go_cut [9, 23] (fun s9 s23 wx => s23 = .int .i64 k ∧ ((s9 = .int .i64 (-1)) ∨ ∃ a : Nat, a < wl.length ∧ s9 = .int .i64 a) ∧ wx = wc)
        case first =>
          by_cases hA : 0 < wl.length ∧ 0 ≤ o.a
          · have hb : (decide (0 < wl.length) && decide (0 ≤ o.a)) = true := by simp [hA.1, hA.2]
            rw [hb]
            have hn0 : ¬ (wl.length : Int) = 0 := by omega
            have hn1 : ¬ (wl.length : Int) = -1 := by omega
            have HT1 : Hid (0 ≤ o.a.tmod wl.length) := Int.tmod_nonneg _ hA.2
            have HP : Hid ((o.a.tmod wl.length).toNat < wl.length ∧ ((o.a.tmod wl.length).toNat : Int) = o.a.tmod wl.length ∧ o.a % wl.length = o.a.tmod wl.length) := tmod_place hA.1 hA.2
            have ht1 := HT1.out
            go_wp2
            go_meet
            exact ⟨rfl, .inr ⟨(o.a.tmod wl.length).toNat, HP.out.1, by rw [HP.out.2.1, HP.out.2.2]⟩, rfl⟩
          · have hb : (decide (0 < wl.length) && decide (0 ≤ o.a)) = false := by
              rw [Bool.and_eq_false_iff]
              by_cases h1 : 0 < wl.length
              · exact .inr (decide_eq_false (fun h2 => hA ⟨h1, h2⟩))
              · exact .inl (decide_eq_false h1)
            rw [hb]
            go_wp2
            go_meet
            exact ⟨rfl, .inl rfl, rfl⟩
        case rest =>
          obtain ⟨rfl, h9, rfl⟩ := hcut
          have H9 : Hid (_ ∨ _) := h9
          clear h9
          go_upto_if 42 with fail
          go_cut [10, 23] (fun s10 s23 wx => s23 = .int .i64 k ∧ ((s10 = .int .i64 (-1)) ∨ ∃ a : Nat, a < sl.length ∧ s10 = .int .i64 a) ∧ wx = wc)
          case first =>
            by_cases hS : 0 < sl.length
            · have hb : decide ((sl.length : Int) > 0) = true := decide_eq_true (by omega)
              go_wp2_with fail
              refine (place_calls o.b sl.length _ hS (by have := hsk.out; omega) HWF.out.2).mono ?_
              rintro e wq ⟨⟨i, hi, rfl⟩, rfl⟩
              go_wp2
              go_meet
              exact ⟨rfl, .inr ⟨i, hi, rfl⟩, rfl⟩
            · have hb : decide ((sl.length : Int) > 0) = false := decide_eq_false (by omega)
              go_wp2
              go_meet
              exact ⟨rfl, .inl rfl, rfl⟩
          case rest =>
            obtain ⟨rfl, h10, rfl⟩ := hcut
            have H10 : Hid (_ ∨ _) := h10
            clear h10
            by_cases hk0 : o.k = 0
            · -- BEGIN k0
              as_aux_lemma =>
                rw [hk0] at o0
                have HK0 : Hid (o.k = 0) := hk0
                clear hk0
                go_wp2_with fail
                refine (new_calls wc).mono ?_
                rintro e w2 ⟨rfl, hb2, hs2, hw2⟩
                have HR2 : Hid (RAll w w2 (.slice a3 wl.length c3) (.slice a4 wl.length c4) (.slice a5 sl.length c5) (.slice a6 sl.length c6) wl fs sl k) := HRB.out.later hb2
                have HNB : Hid (wc.heap.size + 1 ∉ wl.map (·.1)) := fun hm => by
                  obtain ⟨p, hp, he⟩ := List.mem_map.1 hm
                  obtain ⟨j, hj, rfl⟩ := List.getElem_of_mem hp
                  have := (HRB.out.core.wat j hj).1.ltb
                  simp [List.getD, hj] at this; omega
                have HNC : Hid (wc.heap.size ∉ wl.map (·.2)) := fun hm => by
                  obtain ⟨p, hp, he⟩ := List.mem_map.1 hm
                  obtain ⟨j, hj, rfl⟩ := List.getElem_of_mem hp
                  have := (HRB.out.core.wat j hj).1.ltc
                  simp [List.getD, hj] at this; omega
                have HW2 : Hid (WAt w2 (wc.heap.size + 1) wc.heap.size false) := hw2
                have HC1 : Hid (w.heap.size ≤ wc.heap.size) := HRB.out.core.below.size
                have hx3 := HR2.out.ws
                have hB2 : w.heap.size ≤ w2.heap.size := HR2.out.core.below.size
                have hlen3 : (ptrs (wl.map (·.1))).length = wl.length := by rw [ptrs_length, List.length_map]
                have HL3 : Hid ((ptrs (wl.map (·.1))).length = wl.length) := hlen3
                have HL4 : Hid ((bls fs).length = wl.length) := by show _ = _; rw [bls_length]; exact HRB.out.core.flen
                clear hb2 hs2 hw2 hlen3 o0 o1 o2 HO
                revert HW2 HNB HNC
                generalize hbb : wc.heap.size + 1 = bn
                intro HNB HNC HW2
                have HBN : Hid (w.heap.size ≤ bn) := by have := HC1.out; show _ ≤ _; omega
                clear hbb
                go_wp2_with (at_builtin; refine append_val _ rfl (.tmp 55) (.tmp 57) 24 31 (.pointer none) 8 Try.underlying24 infoPW rfl rfl w.heap.size (.slice a3 wl.length c3) (ptrs (wl.map (·.1))) rfl (ptr bn) rfl _ rfl (by simp) hx3 (by rw [HL3.out]; have := hwk.out; omega) (by rw [HL3.out]; have := hwk.out; omega) hB2 ?_)
                intro x3 w3 ho3 hg3
                have hf3 := HR2.out.fz_kept hg3
                have hB3 : w.heap.size ≤ w3.heap.size := Nat.le_trans hB2 hg3.size
                obtain ⟨b3, d3, hx3'⟩ := ho3.shape
                have e3 : (ptrs (wl.map (·.1)) ++ [ptr bn]).length = (wl ++ [(bn, wc.heap.size)]).length := by simp [HL3.out]
                rw [e3] at hx3'
                have HX3 : Hid (x3 = .slice b3 (wl ++ [(bn, wc.heap.size)]).length d3) := hx3'
                have HO3 : Hid (OwnV w3 w.heap.size 31 x3 (ptrs (wl.map (·.1)) ++ [ptr bn])) := ho3
                have HG3 : Hid (Grew w2 w3 (.slice a3 wl.length c3) x3) := hg3
                clear hx3' e3 ho3 hg3 hx3
                go_wp2_with (at_builtin; refine append_val _ rfl (.tmp 59) (.tmp 60) 25 4 (.bool false) 1 Try.underlying25 infoBool rfl rfl w.heap.size (.slice a4 wl.length c4) (bls fs) rfl (.bool false) rfl _ rfl (by simp) hf3 (by rw [HL4.out]; have := hwk.out; omega) (by rw [HL4.out]; have := hwk.out; omega) hB3 ?_)
                intro x4 w4 ho4 hg4
                have HN := HR2.out.newWatch HW2.out HBN.out HC1.out HNB.out HNC.out HO3.out HG3.out ho4 hg4
                obtain ⟨b4, d4, hx4'⟩ := ho4.shape
                have e4 : (bls fs ++ [Value.bool false]).length = (wl ++ [(bn, wc.heap.size)]).length := by simp [HL4.out]
                rw [e4] at hx4'
                have hx3' := HX3.out
                clear HX3 HO3 HG3 ho4 hg4 hf3 e4
                subst hx3' hx4'
                have HN' : Hid (RAll _ _ _ _ _ _ _ _ _ _) := HN
                clear HN
                go_wp2
                go_roundw
                case rel => exact ⟨k + 1, _, _, _, _, _, _, _, _, _, _, _, by omega, by go_num, rfl, rfl, rfl, rfl, HN'⟩
                case measure => simp [intOf]; omega
              -- END k0
            have e0 : (o.k == 0) = false := by simp [hk0]
            by_cases hk1 : o.k = 1
            · -- BEGIN k1
              as_aux_lemma =>
                rw [hk1] at o0
                clear hk0 e0 hk1
                rcases H9.out with h9 | ⟨a, ha, h9⟩
                · subst h9
                  clear H9
                  have HE : Hid (RAll w wc (.slice a3 wl.length c3) (.slice a4 wl.length c4) (.slice a5 sl.length c5) (.slice a6 sl.length c6) wl fs sl (k + 1)) := HRB.out.more (Nat.le_succ k)
                  go_wp2
                  go_roundw
                  case rel => exact ⟨k + 1, _, _, _, _, _, _, _, _, _, _, _, by omega, by go_num, rfl, rfl, rfl, rfl, HE⟩
                  case measure => simp [intOf]; omega
                · subst h9
                  clear H9
                  obtain ⟨g3, g4, bw, cw, fa, rfl, rfl, k3, k4, hwa, htt⟩ := HRB.out.fireAt ha
                  have HWA : Hid (WAt wc bw cw fa) := hwa
                  have HTT : Hid (∀ w5, _ → _ → _) := htt
                  clear hwa htt HRB HO o1 o2
                  cases fa
                  · go_wp2_with fail
                    go_region_held3 (fun w' => w'.cell? ⟨g3, a, none⟩ = some (.pointer (some ⟨bw, 0, none⟩)) ∧ w'.cell? ⟨g4, a, none⟩ = some (.bool false)) (first | (exact ⟨k3, k4⟩) | (exact q3))
                      (first
                        | (go_at_call 7
                           refine (fire_calls bw cw false wc.drew ⟨HWA.out.blk, HWA.out.chn⟩).mono ?_
                           rintro e w5 ⟨rfl, ht5, hw5⟩
                           have HQ := HTT.out w5 ht5 hw5
                           have q3 := HQ.1
                           have q4 := HQ.1.2
                           have q5 := HQ.2.1
                           have HE : Hid (RAll _ _ _ _ _ _ _ _ _ _) := HQ.2.2
                           clear ht5 hw5 HQ))
                    go_wp2
                    go_roundw
                    case rel => exact ⟨k + 1, _, _, _, _, _, _, _, _, _, _, _, by omega, by go_num, rfl, rfl, rfl, rfl, HE⟩
                    case measure => simp [intOf]; omega
                  · go_wp2_with fail
                    go_region_held3 (fun w' => w'.cell? ⟨g3, a, none⟩ = some (.pointer (some ⟨bw, 0, none⟩)) ∧ w'.cell? ⟨g4, a, none⟩ = some (.bool true)) (first | (exact ⟨k3, k4⟩) | (exact q3))
                      (first
                        | (go_at_call 7
                           refine (fire_calls bw cw true wc.drew ⟨HWA.out.blk, HWA.out.chn⟩).mono ?_
                           rintro e w5 ⟨rfl, ht5, hw5⟩
                           have HQ := HTT.out w5 ht5 hw5
                           have q3 := HQ.1
                           have q4 := HQ.1.2
                           have q5 := HQ.2.1
                           have HE : Hid (RAll _ _ _ _ _ _ _ _ _ _) := HQ.2.2
                           clear ht5 hw5 HQ))
                    go_wp2
                    go_roundw
                    case rel => exact ⟨k + 1, _, _, _, _, _, _, _, _, _, _, _, by omega, by go_num, rfl, rfl, rfl, rfl, HE⟩
                    case measure => simp [intOf]; omega
              -- END k1
            have e1 : (o.k == 1) = false := by simp [hk1]
            by_cases hk2 : o.k = 2
            · -- BEGIN k2
              as_aux_lemma =>
                rw [hk2] at o0
                clear hk0 e0 hk1 e1 hk2
                rcases H9.out with h9 | ⟨a, ha, h9⟩
                · subst h9
                  clear H9
                  have HE : Hid (RAll w wc (.slice a3 wl.length c3) (.slice a4 wl.length c4) (.slice a5 sl.length c5) (.slice a6 sl.length c6) wl fs sl (k + 1)) := HRB.out.more (Nat.le_succ k)
                  go_wp2
                  go_roundw
                  case rel => exact ⟨k + 1, _, _, _, _, _, _, _, _, _, _, _, by omega, by go_num, rfl, rfl, rfl, rfl, HE⟩
                  case measure => simp [intOf]; omega
                · subst h9
                  clear H9
                  obtain ⟨g3, g4, bw, cw, fa, rfl, rfl, k3, k4, hwa⟩ := HRB.out.firedAt ha
                  have HWA : Hid (WAt wc bw cw fa) := hwa
                  have hq : (fa != fa) = false := by cases fa <;> rfl
                  clear hwa HO o1 o2
                  go_wp2_with fail
                  go_quiet ((go_at_call 8; exact Calls.quiet_of_same (fired_calls bw cw fa _ ⟨HWA.out.blk, HWA.out.chn⟩)))
                  have HE : Hid (RAll w (wc.drewN nq) (.slice (some ⟨g3, 0, none⟩) wl.length c3) (.slice (some ⟨g4, 0, none⟩) wl.length c4) (.slice a5 sl.length c5) (.slice a6 sl.length c6) wl fs sl (k + 1)) := (RAll.later (w' := wc.drewN nq) HRB.out ⟨rfl, rfl, rfl, Nat.le_refl _, fun _ _ => rfl⟩).more (Nat.le_succ k)
                  go_wp2
                  go_roundw
                  case rel => exact ⟨k + 1, _, _, _, _, _, _, _, _, _, _, _, by omega, by go_num, rfl, rfl, rfl, rfl, HE⟩
                  case measure => simp [intOf]; omega
              -- END k2
            have e2 : (o.k == 2) = false := by simp [hk2]
            by_cases hk3 : o.k = 3
            · -- BEGIN k3
              as_aux_lemma =>
                rw [hk3] at o0
                clear hk0 e0 hk1 e1 hk2 e2 hk3
                by_cases hob : o.b < 0
                · have hmax : max o.b 0 = 0 := by omega
                  have hmm : 0 ≤ (0 : Int) := by omega
                  go_wp2_with fail
                  refine (newSet_calls o.b wc).mono ?_
                  rintro e w2 ⟨rfl, hb2, hs2, hset⟩
                  have hset := hset w.heap.size
                  rw [hmax] at hset
                  have HR2 : Hid (RAll w w2 (.slice a3 wl.length c3) (.slice a4 wl.length c4) (.slice a5 sl.length c5) (.slice a6 sl.length c6) wl fs sl k) := HRB.out.later hb2
                  have HBO : Hid (w2.heap[ob]? = some (.cells #[.int .i64 o.k, .int .i64 o.a, .int .i64 o.b] 29)) := (hb2.block ob (lt_of_heap HO.out)).trans HO.out
                  have HSB : Hid (∀ s ∈ sl, s.sb ≠ wc.heap.size) := fun s hs e => by have := (HRB.out.core.sat s hs).set.lt; omega
                  have HC1 : Hid (w.heap.size ≤ wc.heap.size) := HRB.out.core.below.size
                  have HMM : Hid (0 ≤ (0 : Int)) := hmm
                  have HLN := setLen_calls w.heap.size wc.heap.size 0 (.slice none 0 0) [] w2 hset
                  have HFN := setFirst_calls w.heap.size wc.heap.size 0 (.slice none 0 0) [] (fun _ => false) w2 hset (by simp) (by simp)
                  have hz1 : (([] : List Nat).length : Int) = 0 := rfl
                  rw [hz1] at HLN
                  have hz2 : posOf (fun _ => false) [] = -1 := rfl
                  rw [hz2] at HFN
                  have HS2 : Hid (SAt w2 w.heap.size wc.heap.size 0 (.slice none 0 0) []) := hset
                  have hx5 := HR2.out.ss
                  have hB2 : w.heap.size ≤ w2.heap.size := HR2.out.core.below.size
                  have HL5 : Hid ((ptrs (sl.map (·.sb))).length = sl.length) := by show _ = _; rw [ptrs_length, List.length_map]
                  clear hs2 hset hb2 hmax hmm hz1 hz2 HRB HO o1 o2
                  revert HSB HC1 HLN HFN HS2
                  generalize wc.heap.size = sb
                  intro HSB HC1 HLN HFN HS2
                  go_wp2_with fail
                  refine HLN.mono ?_
                  clear HLN
                  rintro e w3 ⟨rfl, rfl⟩
                  go_wp2_with fail
                  refine HFN.mono ?_
                  clear HFN
                  rintro e w4 ⟨rfl, rfl⟩
                  go_wp2_with (at_builtin; refine append_val _ rfl (.tmp 120) (.tmp 122) 26 33 (.pointer none) 8 Try.underlying26 infoPS rfl rfl w.heap.size (.slice a5 sl.length c5) (ptrs (sl.map (·.sb))) rfl (ptr sb) rfl _ rfl (by simp) hx5 (by rw [HL5.out]; have := hsk.out; omega) (by rw [HL5.out]; have := hsk.out; omega) hB2 ?_)
                  intro x5 w5 ho5 hg5
                  have hms := HR2.out.ms_kept hg5
                  have hB5 : w.heap.size ≤ w5.heap.size := Nat.le_trans hB2 hg5.size
                  have hob : w5.heap[ob]? = some (.cells #[.int .i64 o.k, .int .i64 o.a, .int .i64 o.b] 29) := (hg5.grown.block ob (lt_of_heap HBO.out) (fun e => own_ne (HR2.out.ss.typed ob e.symm) HBO.out (by decide) rfl)).trans HBO.out
                  have p2 : w5.cell? ⟨ob, 2, none⟩ = some (.int .i64 o.b) := by rw [cell_of_blk hob]; rfl
                  obtain ⟨b5, d5, hx5'⟩ := ho5.shape
                  rw [List.length_append, HL5.out, List.length_singleton] at hx5'
                  have HX5 : Hid (x5 = .slice b5 (sl.length + 1) d5) := hx5'
                  have HO5 : Hid (OwnV w5 w.heap.size 33 x5 (ptrs (sl.map (·.sb)) ++ [ptr sb])) := ho5
                  have HG5 : Hid (Grew _ w5 (.slice a5 sl.length c5) x5) := hg5
                  clear hx5' ho5 hg5 hx5 hob HBO o0 hB2
                  go_wp2_with (at_builtin; refine append_mset _ rfl (.tmp 128) (.tmp 131) rfl w.heap.size (.slice a6 sl.length c6) sl.length (mcs sl) rfl 0 _ rfl (by simp) hms (by have := hsk.out; omega) hB5 ?_)
                  intro x6 w6 ho6 hg6
                  have HN := HR2.out.newSet HS2.out HC1.out HMM.out HSB.out HO5.out HG5.out ho6 hg6
                  obtain ⟨b6, d6, hx6'⟩ := ownsRow_shape ho6
                  have hx5' := HX5.out
                  have hln : (sl ++ [(⟨sb, 0, .slice none 0 0, [], .slice none 0 0⟩ : Sx)]).length = sl.length + 1 := by simp
                  rw [hx5', hx6', ← hln] at HN
                  have HE : Hid (RAll _ _ _ _ _ _ _ _ _ _) := HN
                  rw [← hln] at hx5' hx6'
                  clear HN HX5 HO5 HG5 ho6 hg6 hms hln
                  subst hx5' hx6'
                  go_wp2
                  go_roundw
                  case rel => exact ⟨k + 1, _, _, _, _, _, _, _, _, _, _, _, by omega, by go_num, rfl, rfl, rfl, rfl, HE⟩
                  case measure => simp [intOf]; omega
                · have hmax : max o.b 0 = o.b := by omega
                  have hmm : 0 ≤ (o.b : Int) := by omega
                  go_wp2_with fail
                  refine (newSet_calls o.b wc).mono ?_
                  rintro e w2 ⟨rfl, hb2, hs2, hset⟩
                  have hset := hset w.heap.size
                  rw [hmax] at hset
                  have HR2 : Hid (RAll w w2 (.slice a3 wl.length c3) (.slice a4 wl.length c4) (.slice a5 sl.length c5) (.slice a6 sl.length c6) wl fs sl k) := HRB.out.later hb2
                  have HBO : Hid (w2.heap[ob]? = some (.cells #[.int .i64 o.k, .int .i64 o.a, .int .i64 o.b] 29)) := (hb2.block ob (lt_of_heap HO.out)).trans HO.out
                  have HSB : Hid (∀ s ∈ sl, s.sb ≠ wc.heap.size) := fun s hs e => by have := (HRB.out.core.sat s hs).set.lt; omega
                  have HC1 : Hid (w.heap.size ≤ wc.heap.size) := HRB.out.core.below.size
                  have HMM : Hid (0 ≤ (o.b : Int)) := hmm
                  have HLN := setLen_calls w.heap.size wc.heap.size o.b (.slice none 0 0) [] w2 hset
                  have HFN := setFirst_calls w.heap.size wc.heap.size o.b (.slice none 0 0) [] (fun _ => false) w2 hset (by simp) (by simp)
                  have hz1 : (([] : List Nat).length : Int) = 0 := rfl
                  rw [hz1] at HLN
                  have hz2 : posOf (fun _ => false) [] = -1 := rfl
                  rw [hz2] at HFN
                  have HS2 : Hid (SAt w2 w.heap.size wc.heap.size o.b (.slice none 0 0) []) := hset
                  have hx5 := HR2.out.ss
                  have hB2 : w.heap.size ≤ w2.heap.size := HR2.out.core.below.size
                  have HL5 : Hid ((ptrs (sl.map (·.sb))).length = sl.length) := by show _ = _; rw [ptrs_length, List.length_map]
                  clear hs2 hset hb2 hmax hmm hz1 hz2 HRB HO o1 o2
                  revert HSB HC1 HLN HFN HS2
                  generalize wc.heap.size = sb
                  intro HSB HC1 HLN HFN HS2
                  go_wp2_with fail
                  refine HLN.mono ?_
                  clear HLN
                  rintro e w3 ⟨rfl, rfl⟩
                  go_wp2_with fail
                  refine HFN.mono ?_
                  clear HFN
                  rintro e w4 ⟨rfl, rfl⟩
                  go_wp2_with (at_builtin; refine append_val _ rfl (.tmp 120) (.tmp 122) 26 33 (.pointer none) 8 Try.underlying26 infoPS rfl rfl w.heap.size (.slice a5 sl.length c5) (ptrs (sl.map (·.sb))) rfl (ptr sb) rfl _ rfl (by simp) hx5 (by rw [HL5.out]; have := hsk.out; omega) (by rw [HL5.out]; have := hsk.out; omega) hB2 ?_)
                  intro x5 w5 ho5 hg5
                  have hms := HR2.out.ms_kept hg5
                  have hB5 : w.heap.size ≤ w5.heap.size := Nat.le_trans hB2 hg5.size
                  have hob : w5.heap[ob]? = some (.cells #[.int .i64 o.k, .int .i64 o.a, .int .i64 o.b] 29) := (hg5.grown.block ob (lt_of_heap HBO.out) (fun e => own_ne (HR2.out.ss.typed ob e.symm) HBO.out (by decide) rfl)).trans HBO.out
                  have p2 : w5.cell? ⟨ob, 2, none⟩ = some (.int .i64 o.b) := by rw [cell_of_blk hob]; rfl
                  obtain ⟨b5, d5, hx5'⟩ := ho5.shape
                  rw [List.length_append, HL5.out, List.length_singleton] at hx5'
                  have HX5 : Hid (x5 = .slice b5 (sl.length + 1) d5) := hx5'
                  have HO5 : Hid (OwnV w5 w.heap.size 33 x5 (ptrs (sl.map (·.sb)) ++ [ptr sb])) := ho5
                  have HG5 : Hid (Grew _ w5 (.slice a5 sl.length c5) x5) := hg5
                  clear hx5' ho5 hg5 hx5 hob HBO o0 hB2
                  go_wp2_with (at_builtin; refine append_mset _ rfl (.tmp 128) (.tmp 131) rfl w.heap.size (.slice a6 sl.length c6) sl.length (mcs sl) rfl o.b _ rfl (by simp) hms (by have := hsk.out; omega) hB5 ?_)
                  intro x6 w6 ho6 hg6
                  have HN := HR2.out.newSet HS2.out HC1.out HMM.out HSB.out HO5.out HG5.out ho6 hg6
                  obtain ⟨b6, d6, hx6'⟩ := ownsRow_shape ho6
                  have hx5' := HX5.out
                  have hln : (sl ++ [(⟨sb, o.b, .slice none 0 0, [], .slice none 0 0⟩ : Sx)]).length = sl.length + 1 := by simp
                  rw [hx5', hx6', ← hln] at HN
                  have HE : Hid (RAll _ _ _ _ _ _ _ _ _ _) := HN
                  rw [← hln] at hx5' hx6'
                  clear HN HX5 HO5 HG5 ho6 hg6 hms hln
                  subst hx5' hx6'
                  go_wp2
                  go_roundw
                  case rel => exact ⟨k + 1, _, _, _, _, _, _, _, _, _, _, _, by omega, by go_num, rfl, rfl, rfl, rfl, HE⟩
                  case measure => simp [intOf]; omega
              -- END k3
            have e3 : (o.k == 3) = false := by simp [hk3]
            by_cases hk4 : o.k = 4
            · -- BEGIN k4
              as_aux_lemma =>
                rw [hk4] at o0
                clear hk0 e0 hk1 e1 hk2 e2 hk3 e3 hk4
                rcases H10.out with h10 | ⟨b, hb, h10⟩
                · subst h10
                  clear H10
                  have HE : Hid (RAll w wc (.slice a3 wl.length c3) (.slice a4 wl.length c4) (.slice a5 sl.length c5) (.slice a6 sl.length c6) wl fs sl (k + 1)) := HRB.out.more (Nat.le_succ k)
                  go_wp2
                  go_roundw
                  case rel => exact ⟨k + 1, _, _, _, _, _, _, _, _, _, _, _, by omega, by go_num, rfl, rfl, rfl, rfl, HE⟩
                  case measure => simp [intOf]; omega
                · subst h10
                  clear H10
                  rcases H9.out with h9 | ⟨a, ha, h9⟩
                  · subst h9
                    clear H9
                    obtain ⟨g5, g6, sb, hn, ch, mst, ah, res, rfl, rfl, i5, i6, i7, hA⟩ := HRB.out.addAt (none) hb (by omega) (fun a e => by cases e)
                    obtain ⟨cur, hcur⟩ := ownsRow_typed HRB.out.ms g6 (by simp [Value.ownBlock])
                    have HCUR : Hid (wc.heap[g6]? = some (.cells cur 38)) := hcur
                    have hA : Calls Try.prog 12 #[.agg #[.int .i64 mst, .slice ah hn ch], .int .i64 (-1)] wc _ := hA
                    simp only [ptrA] at hA
                    have hq : (res != res) = false := by cases res <;> rfl
                    have HI5 : Hid (wc.cell? ⟨g5, b, none⟩ = some (.pointer (some ⟨sb, 0, none⟩))) := i5
                    have HI6 : Hid (wc.cell? ⟨g6, b * 2, none⟩ = some (.int .i64 mst)) := i6
                    have HI7 : Hid (wc.cell? ⟨g6, b * 2 + 1, none⟩ = some (.slice ah hn ch)) := i7
                    clear HRB HO o1 o2 hcur
                    go_wp2_with fail
                    refine hA.mono ?_
                    clear hA
                    rintro e w2 ⟨ah', hn', ch', rfl, hb2, hS⟩
                    have hb3 : Below w2.heap.size w2 (w2.alloc (.cells #[.int .i64 mst, .slice ah' hn' ch'] 38)) := (Below.refl _ w2).alloc (Nat.le_refl _) _
                    have HA2 := hS _ hb3
                    have n5 : (w2.alloc (.cells #[.int .i64 mst, .slice ah' hn' ch'] 38)).cell? ⟨g5, b, none⟩ = some (.pointer (some ⟨sb, 0, none⟩)) := (hb3.cell (Nat.lt_of_lt_of_le (World.block_lt_of_cell? wc _ HI5.out) hb2.size)).trans ((hb2.cell (World.block_lt_of_cell? wc _ HI5.out)).trans HI5.out)
                    have HCU3 : Hid ((w2.alloc (.cells #[.int .i64 mst, .slice ah' hn' ch'] 38)).heap[g6]? = some (.cells cur 38)) := (hb3.block g6 (Nat.lt_of_lt_of_le (lt_of_heap HCUR.out) hb2.size)).trans ((hb2.block g6 (lt_of_heap HCUR.out)).trans HCUR.out)
                    have HBX : Hid ((w2.alloc (.cells #[.int .i64 mst, .slice ah' hn' ch'] 38)).heap[w2.heap.size]? = some (.cells #[.int .i64 mst, .slice ah' hn' ch'] 38)) := heap_alloc_new w2 _
                    clear hS hb3 hb2 i5 i6 i7 o0
                    go_wp2_with fail
                    refine HA2.mono ?_
                    clear HA2
                    rintro e w4 ⟨rfl, hty, sl', hsl', hRA⟩
                    have hbx := hty _ _ HBX.out
                    have hc4 := hty _ _ HCU3.out
                    have m0 : w4.cell? ⟨w2.heap.size, 0, none⟩ = some (.int .i64 mst) := by rw [cell_of_blk hbx]; rfl
                    have m1 : w4.cell? ⟨w2.heap.size, 1, none⟩ = some (.slice ah' hn' ch') := by rw [cell_of_blk hbx]; rfl
                    have n6 : w4.cell? ⟨g6, b * 2, none⟩ = some (.int .i64 mst) := (World.cell?_of_block (hc4.trans HCUR.out.symm)).trans HI6.out
                    have n7 : w4.cell? ⟨g6, b * 2 + 1, none⟩ = some (.slice ah hn ch) := (World.cell?_of_block (hc4.trans HCUR.out.symm)).trans HI7.out
                    have z6 : w4.frozen? ⟨g6, b * 2, none⟩ = false := frozen_of_blk hc4
                    have z7 : w4.frozen? ⟨g6, b * 2 + 1, none⟩ = false := frozen_of_blk hc4
                    have HE : Hid (RAll _ _ _ _ _ _ _ _ _ _) := hRA
                    rw [← hsl'] at HE
                    have HSL' : Hid (sl'.length = sl.length) := hsl'
                    clear hty hRA hsl' hbx hc4 n5 HBX HCU3 HCUR HI5 HI6 HI7
                    go_wp2
                    go_roundw
                    case rel => exact ⟨k + 1, _, _, sl', _, _, some ⟨g5, 0, none⟩, some ⟨g6, 0, none⟩, _, _, c5, c6, by omega, by go_num, rfl, rfl, by rw [HSL'.out], by rw [HSL'.out], HE⟩
                    case measure => simp [intOf]; omega
                  · subst h9
                    clear H9
                    obtain ⟨g5, g6, sb, hn, ch, mst, ah, res, rfl, rfl, i5, i6, i7, hA⟩ := HRB.out.addAt (some a) hb (by omega) (fun a' e => by cases e; exact ha)
                    obtain ⟨cur, hcur⟩ := ownsRow_typed HRB.out.ms g6 (by simp [Value.ownBlock])
                    have HCUR : Hid (wc.heap[g6]? = some (.cells cur 38)) := hcur
                    have hA : Calls Try.prog 12 #[.agg #[.int .i64 mst, .slice ah hn ch], .int .i64 (a : Int)] wc _ := hA
                    obtain ⟨g3, hg3, hc3⟩ := HRB.out.ws.at a (by rw [ptrs_length, List.length_map]; exact ha)
                    subst hg3
                    have k3 : wc.cell? ⟨g3, a, none⟩ = some (.pointer (some ⟨(wl.getD a (0, 0)).1, 0, none⟩)) := by rw [hc3]; simp [ptrs, ptr, List.getD, ha]
                    clear hc3
                    simp only [ptrA] at hA
                    obtain ⟨pw, hpw⟩ : ∃ pw, pw = (wl.getD a (0, 0)).1 := ⟨_, rfl⟩
                    rw [← hpw] at hA k3
                    clear hpw
                    have hq : (res != res) = false := by cases res <;> rfl
                    have HI5 : Hid (wc.cell? ⟨g5, b, none⟩ = some (.pointer (some ⟨sb, 0, none⟩))) := i5
                    have HI6 : Hid (wc.cell? ⟨g6, b * 2, none⟩ = some (.int .i64 mst)) := i6
                    have HI7 : Hid (wc.cell? ⟨g6, b * 2 + 1, none⟩ = some (.slice ah hn ch)) := i7
                    clear HRB HO o1 o2 hcur
                    go_wp2_with fail
                    refine hA.mono ?_
                    clear hA
                    rintro e w2 ⟨ah', hn', ch', rfl, hb2, hS⟩
                    have hb3 : Below w2.heap.size w2 (w2.alloc (.cells #[.int .i64 mst, .slice ah' hn' ch'] 38)) := (Below.refl _ w2).alloc (Nat.le_refl _) _
                    have HA2 := hS _ hb3
                    have n5 : (w2.alloc (.cells #[.int .i64 mst, .slice ah' hn' ch'] 38)).cell? ⟨g5, b, none⟩ = some (.pointer (some ⟨sb, 0, none⟩)) := (hb3.cell (Nat.lt_of_lt_of_le (World.block_lt_of_cell? wc _ HI5.out) hb2.size)).trans ((hb2.cell (World.block_lt_of_cell? wc _ HI5.out)).trans HI5.out)
                    have HCU3 : Hid ((w2.alloc (.cells #[.int .i64 mst, .slice ah' hn' ch'] 38)).heap[g6]? = some (.cells cur 38)) := (hb3.block g6 (Nat.lt_of_lt_of_le (lt_of_heap HCUR.out) hb2.size)).trans ((hb2.block g6 (lt_of_heap HCUR.out)).trans HCUR.out)
                    have HBX : Hid ((w2.alloc (.cells #[.int .i64 mst, .slice ah' hn' ch'] 38)).heap[w2.heap.size]? = some (.cells #[.int .i64 mst, .slice ah' hn' ch'] 38)) := heap_alloc_new w2 _
                    clear hS hb3 hb2 i5 i6 i7 o0
                    go_wp2_with fail
                    refine HA2.mono ?_
                    clear HA2
                    rintro e w4 ⟨rfl, hty, sl', hsl', hRA⟩
                    have hbx := hty _ _ HBX.out
                    have hc4 := hty _ _ HCU3.out
                    have m0 : w4.cell? ⟨w2.heap.size, 0, none⟩ = some (.int .i64 mst) := by rw [cell_of_blk hbx]; rfl
                    have m1 : w4.cell? ⟨w2.heap.size, 1, none⟩ = some (.slice ah' hn' ch') := by rw [cell_of_blk hbx]; rfl
                    have n6 : w4.cell? ⟨g6, b * 2, none⟩ = some (.int .i64 mst) := (World.cell?_of_block (hc4.trans HCUR.out.symm)).trans HI6.out
                    have n7 : w4.cell? ⟨g6, b * 2 + 1, none⟩ = some (.slice ah hn ch) := (World.cell?_of_block (hc4.trans HCUR.out.symm)).trans HI7.out
                    have z6 : w4.frozen? ⟨g6, b * 2, none⟩ = false := frozen_of_blk hc4
                    have z7 : w4.frozen? ⟨g6, b * 2 + 1, none⟩ = false := frozen_of_blk hc4
                    have HE : Hid (RAll _ _ _ _ _ _ _ _ _ _) := hRA
                    rw [← hsl'] at HE
                    have HSL' : Hid (sl'.length = sl.length) := hsl'
                    clear hty hRA hsl' hbx hc4 n5 HBX HCU3 HCUR HI5 HI6 HI7
                    go_wp2
                    go_roundw
                    case rel => exact ⟨k + 1, _, _, sl', _, _, some ⟨g5, 0, none⟩, some ⟨g6, 0, none⟩, _, _, c5, c6, by omega, by go_num, rfl, rfl, by rw [HSL'.out], by rw [HSL'.out], HE⟩
                    case measure => simp [intOf]; omega
              -- END k4
            have e4 : (o.k == 4) = false := by simp [hk4]
            by_cases hk5 : o.k = 5
            · -- BEGIN k5
              as_aux_lemma =>
                rw [hk5] at o0
                clear hk0 e0 hk1 e1 hk2 e2 hk3 e3 hk4 e4 hk5
                rcases H10.out with h10 | ⟨b, hb, h10⟩
                · subst h10
                  clear H10
                  have HE : Hid (RAll w wc (.slice a3 wl.length c3) (.slice a4 wl.length c4) (.slice a5 sl.length c5) (.slice a6 sl.length c6) wl fs sl (k + 1)) := HRB.out.more (Nat.le_succ k)
                  go_wp2
                  go_roundw
                  case rel => exact ⟨k + 1, _, _, _, _, _, _, _, _, _, _, _, by omega, by go_num, rfl, rfl, rfl, rfl, HE⟩
                  case measure => simp [intOf]; omega
                · subst h10
                  clear H10
                  obtain ⟨g5, g6, sb, hn, ch, mst, pos, ah, rfl, rfl, i5, i6, i7, hF, hL, hR⟩ := HRB.out.showAt hb (by omega)
                  clear HO o1 o2
                  -- REG a
                  have L5 : Hid (∀ W, Below wc.heap.size wc W → W.cell? ⟨g5, b, none⟩ = some (.pointer (some ⟨sb, 0, none⟩))) := fun W h => (h.cell (World.block_lt_of_cell? wc _ i5)).trans i5
                  have L6 : Hid (∀ W, Below wc.heap.size wc W → W.cell? ⟨g6, b * 2, none⟩ = some (.int .i64 mst)) := fun W h => (h.cell (World.block_lt_of_cell? wc _ i6)).trans i6
                  have L7 : Hid (∀ W, Below wc.heap.size wc W → W.cell? ⟨g6, b * 2 + 1, none⟩ = some (.slice ah hn ch)) := fun W h => (h.cell (World.block_lt_of_cell? wc _ i7)).trans i7
                  have HF : Hid (∀ w1, _ → _) := hF
                  have HL : Hid (∀ w1, _ → _) := hL
                  have HRf : Hid (∀ w1, _ → _) := hR
                  clear hF hL hR i5 i6 i7
                  go_wp2_with fail
                  refine wp_region_invG 25 (fun i v _ => v = showV (.slice (some ⟨g5, 0, none⟩) sl.length c5) (.slice (some ⟨g6, 0, none⟩) sl.length c6) (.slice a4 wl.length c4) g5 g6 sb hn ch b mst pos ah i) (fun _ => false) (by kernel_rfl) (by kernel_rfl) (by kernel_rfl) [some 176, some 177, some 178, some 179, some 180, some 181, some 182, some 183, some 184, some 185, some 186, some 187, some 188, some 189, some 190, some 191, some 192, some 193, some 194, some 195, some 196, some 197, some 198, some 199, some 200] (by kernel_rfl) ?monoA ?hopA ?tailA
                  case monoA => exact fun i v W W' h _ => h
                  case hopA =>
                    intro i o hi ho a W hB hs hd
                    match i, hi, ho, hd with
                    | 0, _, ho, hd =>
                      obtain rfl := Option.some.inj ho
                      exact ⟨.inl rfl, f_move rfl ((hs 5 (by kernel_rfl)).trans rfl) ⟨_, rfl, rfl, Below.refl _ _, fun e => by cases e⟩⟩
                    | 1, _, ho, hd =>
                      obtain rfl := Option.some.inj ho
                      exact ⟨.inl rfl, f_move rfl ((hs 10 (by kernel_rfl)).trans rfl) ⟨_, rfl, rfl, Below.refl _ _, fun e => by cases e⟩⟩
                    | 2, _, ho, hd =>
                      obtain rfl := Option.some.inj ho
                      exact ⟨.inl rfl, f_idxS rfl (hd 0 176 (by kernel_rfl) (by kernel_rfl)) (hd 1 177 (by kernel_rfl) (by kernel_rfl)) hb ⟨_, rfl, rfl, Below.refl _ _, fun e => by cases e⟩⟩
                    | 3, _, ho, hd =>
                      obtain rfl := Option.some.inj ho
                      exact ⟨.inl rfl, f_loadPS rfl (hd 2 178 (by kernel_rfl) (by kernel_rfl)) (L5.out W hB) ⟨_, rfl, rfl, Below.refl _ _, fun e => by cases e⟩⟩
                    | 4, _, ho, hd =>
                      obtain rfl := Option.some.inj ho
                      refine ⟨.inl rfl, wp_callF (f := 11) (vals := #[.pointer (some ⟨sb, 0, none⟩)]) rfl (map1 (hd 3 179 (by kernel_rfl) (by kernel_rfl))) (by go_simp) ?_⟩
                      refine (HF.out W hB).mono ?_
                      rintro e w9 ⟨rfl, hb9⟩
                      exact ⟨_, rfl, _, rfl, rfl, hb9, fun e => by cases e⟩
                    | 5, _, ho, hd =>
                      obtain rfl := Option.some.inj ho
                      exact ⟨.inl rfl, f_move rfl ((hs 6 (by kernel_rfl)).trans rfl) ⟨_, rfl, rfl, Below.refl _ _, fun e => by cases e⟩⟩
                    | 6, _, ho, hd =>
                      obtain rfl := Option.some.inj ho
                      exact ⟨.inl rfl, f_move rfl ((hs 10 (by kernel_rfl)).trans rfl) ⟨_, rfl, rfl, Below.refl _ _, fun e => by cases e⟩⟩
                    | 7, _, ho, hd =>
                      obtain rfl := Option.some.inj ho
                      exact ⟨.inl rfl, f_idxM rfl (hd 5 181 (by kernel_rfl) (by kernel_rfl)) (hd 6 182 (by kernel_rfl) (by kernel_rfl)) hb ⟨_, rfl, rfl, Below.refl _ _, fun e => by cases e⟩⟩
                    | 8, _, ho, hd =>
                      obtain rfl := Option.some.inj ho
                      exact ⟨.inl rfl, f_loadM rfl (hd 7 183 (by kernel_rfl) (by kernel_rfl)) (L6.out W hB) (L7.out W hB) ⟨_, rfl, rfl, Below.refl _ _, fun e => by cases e⟩⟩
                    | 9, _, ho, hd =>
                      obtain rfl := Option.some.inj ho
                      exact ⟨.inl rfl, f_move rfl ((hs 4 (by kernel_rfl)).trans rfl) ⟨_, rfl, rfl, Below.refl _ _, fun e => by cases e⟩⟩
                    | 10, _, ho, hd =>
                      obtain rfl := Option.some.inj ho
                      refine ⟨.inl rfl, wp_callF (f := 14) (vals := #[.agg #[.int .i64 mst, .slice ah hn ch], .slice a4 wl.length c4]) rfl (map2 (hd 8 184 (by kernel_rfl) (by kernel_rfl)) (hd 9 185 (by kernel_rfl) (by kernel_rfl))) (by go_simp) ?_⟩
                      refine (HRf.out W hB).mono ?_
                      rintro e w9 ⟨rfl, hb9⟩
                      exact ⟨_, rfl, _, rfl, rfl, hb9, fun e => by cases e⟩
                    | 11, _, ho, hd =>
                      obtain rfl := Option.some.inj ho
                      exact ⟨.inl rfl, f_neqI rfl (hd 4 180 (by kernel_rfl) (by kernel_rfl)) (hd 10 186 (by kernel_rfl) (by kernel_rfl)) ⟨_, rfl, rfl, Below.refl _ _, fun e => by cases e⟩⟩
                    | 12, _, ho, hd =>
                      obtain rfl := Option.some.inj ho
                      exact ⟨.inl rfl, f_move rfl (hd 11 187 (by kernel_rfl) (by kernel_rfl)) ⟨_, rfl, rfl, Below.refl _ _, fun e => by cases e⟩⟩
                    | 13, _, ho, hd =>
                      obtain rfl := Option.some.inj ho
                      exact ⟨.inr ⟨12, false, 188, rfl, by kernel_rfl, (hd 12 188 (by kernel_rfl) (by kernel_rfl))⟩, f_move rfl ((hs 5 (by kernel_rfl)).trans rfl) ⟨_, rfl, rfl, Below.refl _ _, fun e => by cases e⟩⟩
                    | 14, _, ho, hd =>
                      obtain rfl := Option.some.inj ho
                      exact ⟨.inr ⟨12, false, 188, rfl, by kernel_rfl, (hd 12 188 (by kernel_rfl) (by kernel_rfl))⟩, f_move rfl ((hs 10 (by kernel_rfl)).trans rfl) ⟨_, rfl, rfl, Below.refl _ _, fun e => by cases e⟩⟩
                    | 15, _, ho, hd =>
                      obtain rfl := Option.some.inj ho
                      exact ⟨.inr ⟨12, false, 188, rfl, by kernel_rfl, (hd 12 188 (by kernel_rfl) (by kernel_rfl))⟩, f_idxS rfl (hd 13 189 (by kernel_rfl) (by kernel_rfl)) (hd 14 190 (by kernel_rfl) (by kernel_rfl)) hb ⟨_, rfl, rfl, Below.refl _ _, fun e => by cases e⟩⟩
                    | 16, _, ho, hd =>
                      obtain rfl := Option.some.inj ho
                      exact ⟨.inr ⟨12, false, 188, rfl, by kernel_rfl, (hd 12 188 (by kernel_rfl) (by kernel_rfl))⟩, f_loadPS rfl (hd 15 191 (by kernel_rfl) (by kernel_rfl)) (L5.out W hB) ⟨_, rfl, rfl, Below.refl _ _, fun e => by cases e⟩⟩
                    | 17, _, ho, hd =>
                      obtain rfl := Option.some.inj ho
                      refine ⟨.inr ⟨12, false, 188, rfl, by kernel_rfl, (hd 12 188 (by kernel_rfl) (by kernel_rfl))⟩, wp_callF (f := 10) (vals := #[.pointer (some ⟨sb, 0, none⟩)]) rfl (map1 (hd 16 192 (by kernel_rfl) (by kernel_rfl))) (by go_simp) ?_⟩
                      refine (HL.out W hB).mono ?_
                      rintro e w9 ⟨rfl, hb9⟩
                      exact ⟨_, rfl, _, rfl, rfl, hb9, fun e => by cases e⟩
                    | 18, _, ho, hd =>
                      obtain rfl := Option.some.inj ho
                      exact ⟨.inr ⟨12, false, 188, rfl, by kernel_rfl, (hd 12 188 (by kernel_rfl) (by kernel_rfl))⟩, f_move rfl ((hs 6 (by kernel_rfl)).trans rfl) ⟨_, rfl, rfl, Below.refl _ _, fun e => by cases e⟩⟩
                    | 19, _, ho, hd =>
                      obtain rfl := Option.some.inj ho
                      exact ⟨.inr ⟨12, false, 188, rfl, by kernel_rfl, (hd 12 188 (by kernel_rfl) (by kernel_rfl))⟩, f_move rfl ((hs 10 (by kernel_rfl)).trans rfl) ⟨_, rfl, rfl, Below.refl _ _, fun e => by cases e⟩⟩
                    | 20, _, ho, hd =>
                      obtain rfl := Option.some.inj ho
                      exact ⟨.inr ⟨12, false, 188, rfl, by kernel_rfl, (hd 12 188 (by kernel_rfl) (by kernel_rfl))⟩, f_idxM rfl (hd 18 194 (by kernel_rfl) (by kernel_rfl)) (hd 19 195 (by kernel_rfl) (by kernel_rfl)) hb ⟨_, rfl, rfl, Below.refl _ _, fun e => by cases e⟩⟩
                    | 21, _, ho, hd =>
                      obtain rfl := Option.some.inj ho
                      exact ⟨.inr ⟨12, false, 188, rfl, by kernel_rfl, (hd 12 188 (by kernel_rfl) (by kernel_rfl))⟩, f_fldM rfl (hd 20 196 (by kernel_rfl) (by kernel_rfl)) ⟨_, rfl, rfl, Below.refl _ _, fun e => by cases e⟩⟩
                    | 22, _, ho, hd =>
                      obtain rfl := Option.some.inj ho
                      exact ⟨.inr ⟨12, false, 188, rfl, by kernel_rfl, (hd 12 188 (by kernel_rfl) (by kernel_rfl))⟩, f_loadLI rfl (hd 21 197 (by kernel_rfl) (by kernel_rfl)) (L7.out W hB) ⟨_, rfl, rfl, Below.refl _ _, fun e => by cases e⟩⟩
                    | 23, _, ho, hd =>
                      obtain rfl := Option.some.inj ho
                      exact ⟨.inr ⟨12, false, 188, rfl, by kernel_rfl, (hd 12 188 (by kernel_rfl) (by kernel_rfl))⟩, f_lenI rfl (hd 22 198 (by kernel_rfl) (by kernel_rfl)) ⟨_, rfl, rfl, Below.refl _ _, fun e => by cases e⟩⟩
                    | 24, _, ho, hd =>
                      obtain rfl := Option.some.inj ho
                      exact ⟨.inr ⟨12, false, 188, rfl, by kernel_rfl, (hd 12 188 (by kernel_rfl) (by kernel_rfl))⟩, f_neqI rfl (hd 17 193 (by kernel_rfl) (by kernel_rfl)) (hd 23 199 (by kernel_rfl) (by kernel_rfl)) ⟨_, rfl, rfl, Below.refl _ _, fun e => by cases e⟩⟩
                    | k + 25, hi, _, _ => exact absurd hi (by omega)
                  case tailA =>
                    intro vs W hB hR hF9
                    have r12 : vs 12 = .bool false := hR 12 (by decide)
                    have r24 : vs 24 = .bool false := hR 24 (by decide)
                    have HE : Hid (RAll w W (.slice a3 wl.length c3) (.slice a4 wl.length c4) (.slice (some ⟨g5, 0, none⟩) sl.length c5) (.slice (some ⟨g6, 0, none⟩) sl.length c6) wl fs sl (k + 1)) := (HRB.out.later hB).more (Nat.le_succ k)
                    clear hB hR hF9 HF HL HRf L5 L6 L7 HRB
                    simp only [putL, put_lit, List.setIfInBounds_toArray, List.set_cons_succ, List.set_cons_zero, List.drop_succ_cons, List.drop_zero]
                    rw [r12, r24]
                    clear r12 r24
                    go_wp2
                    go_roundw
                    case rel => exact ⟨k + 1, _, _, _, _, _, _, _, _, _, _, _, by omega, by go_num, rfl, rfl, rfl, rfl, HE⟩
                    case measure => simp [intOf]; omega
                  -- REGEND
              -- END k5
            -- BEGIN k6
            as_aux_lemma =>
              have e5 : (o.k == 5) = false := by simp [hk5]
              clear hk0 hk1 hk2 hk3 hk4 hk5
              have HE : Hid (RAll w wc (.slice a3 wl.length c3) (.slice a4 wl.length c4) (.slice a5 sl.length c5) (.slice a6 sl.length c6) wl fs sl (k + 1)) := HRB.out.more (Nat.le_succ k)
              go_wp2
              go_roundw
              case rel => exact ⟨k + 1, _, _, _, _, _, _, _, _, _, _, _, by omega, by go_num, rfl, rfl, rfl, rfl, HE⟩
              case measure => simp [intOf]; omega
            -- END k6
    · -- BEGIN tail
      as_aux_lemma =>
        clear hp
        obtain ⟨w0, hw0⟩ : ∃ w0, w0 = wr := ⟨_, rfl⟩
        subst hw0
        have HWL : Hid (wl.length ≤ 5864062014805) := Nat.le_trans HR.out.core.wlen (Nat.le_trans hk hl)
        have HSL : Hid (sl.length ≤ 5864062014805) := Nat.le_trans HR.out.core.slen (Nat.le_trans hk hl)
        have HK : Hid (k ≤ 5864062014805) := Nat.le_trans hk hl
        go_wp2
        go_loopw [205] (fun i wj => ∃ j : Nat, j ≤ wl.length ∧ i = .int .i64 j ∧ Hid (RAll w wj (.slice a3 wl.length c3) (.slice a4 wl.length c4) (.slice a5 sl.length c5) (.slice a6 sl.length c6) wl fs sl k)) (fun i _ => wl.length - (intOf i).toNat)
        case atStart => exact ⟨0, Nat.zero_le _, rfl, HR⟩
        case round =>
          obtain ⟨j, hj, rfl, HJ⟩ := hrel
          clear HR
          have hwl := HWL.out
          by_cases hjl : j < wl.length
          · obtain ⟨g3, g4, bw, cw, fa, rfl, rfl, k3, k4, hwa⟩ := HJ.out.firedAt hjl
            have HWA : Hid (WAt wr bw cw fa) := hwa
            have hq : (fa != fa) = false := by cases fa <;> rfl
            clear hwa
            go_wp2_with fail
            go_quiet ((go_at_call 8; exact Calls.quiet_of_same (fired_calls bw cw fa _ ⟨HWA.out.blk, HWA.out.chn⟩)))
            have HE : Hid (RAll w (wr.drewN nq) (.slice (some ⟨g3, 0, none⟩) wl.length c3) (.slice (some ⟨g4, 0, none⟩) wl.length c4) (.slice a5 sl.length c5) (.slice a6 sl.length c6) wl fs sl k) := RAll.later (w' := wr.drewN nq) HJ.out ⟨rfl, rfl, rfl, Nat.le_refl _, fun _ _ => rfl⟩
            go_wp2
            go_roundw
            case rel => exact ⟨j + 1, by omega, by go_num, HE⟩
            case measure => simp [intOf]; omega
          · obtain ⟨w9, hw9⟩ : ∃ w9, w9 = wr := ⟨_, rfl⟩
            subst hw9
            go_wp2
            go_loopw [221] (fun i wj => ∃ j : Nat, j ≤ sl.length ∧ i = .int .i64 j ∧ Hid (RAll w wj (.slice a3 wl.length c3) (.slice a4 wl.length c4) (.slice a5 sl.length c5) (.slice a6 sl.length c6) wl fs sl k)) (fun i _ => sl.length - (intOf i).toNat)
            case atStart => exact ⟨0, Nat.zero_le _, rfl, HJ⟩
            case round =>
              obtain ⟨b, hbl, rfl, HB⟩ := hrel
              clear HJ
              have hsl := HSL.out
              by_cases hb : b < sl.length
              · obtain ⟨g5, g6, sb, hn, ch, mst, pos, ah, rfl, rfl, i5, i6, i7, hF, hL, hR⟩ := HB.out.showAt hb HK.out
                -- REG b
                have L5 : Hid (∀ W, Below wr.heap.size wr W → W.cell? ⟨g5, b, none⟩ = some (.pointer (some ⟨sb, 0, none⟩))) := fun W h => (h.cell (World.block_lt_of_cell? wr _ i5)).trans i5
                have L6 : Hid (∀ W, Below wr.heap.size wr W → W.cell? ⟨g6, b * 2, none⟩ = some (.int .i64 mst)) := fun W h => (h.cell (World.block_lt_of_cell? wr _ i6)).trans i6
                have L7 : Hid (∀ W, Below wr.heap.size wr W → W.cell? ⟨g6, b * 2 + 1, none⟩ = some (.slice ah hn ch)) := fun W h => (h.cell (World.block_lt_of_cell? wr _ i7)).trans i7
                have HF : Hid (∀ w1, _ → _) := hF
                have HL : Hid (∀ w1, _ → _) := hL
                have HRf : Hid (∀ w1, _ → _) := hR
                clear hF hL hR i5 i6 i7
                go_wp2_with fail
                refine wp_region_invG 25 (fun i v _ => v = showV (.slice (some ⟨g5, 0, none⟩) sl.length c5) (.slice (some ⟨g6, 0, none⟩) sl.length c6) (.slice a4 wl.length c4) g5 g6 sb hn ch b mst pos ah i) (fun _ => false) (by kernel_rfl) (by kernel_rfl) (by kernel_rfl) [some 224, some 225, some 226, some 227, some 228, some 229, some 230, some 231, some 232, some 233, some 234, some 235, some 236, some 237, some 238, some 239, some 240, some 241, some 242, some 243, some 244, some 245, some 246, some 247, some 248] (by kernel_rfl) ?monoB ?hopB ?tailB
                case monoB => exact fun i v W W' h _ => h
                case hopB =>
                  intro i o hi ho a W hB hs hd
                  match i, hi, ho, hd with
                  | 0, _, ho, hd =>
                    obtain rfl := Option.some.inj ho
                    exact ⟨.inl rfl, f_move rfl ((hs 5 (by kernel_rfl)).trans rfl) ⟨_, rfl, rfl, Below.refl _ _, fun e => by cases e⟩⟩
                  | 1, _, ho, hd =>
                    obtain rfl := Option.some.inj ho
                    exact ⟨.inl rfl, f_move rfl ((hs 18 (by kernel_rfl)).trans rfl) ⟨_, rfl, rfl, Below.refl _ _, fun e => by cases e⟩⟩
                  | 2, _, ho, hd =>
                    obtain rfl := Option.some.inj ho
                    exact ⟨.inl rfl, f_idxS rfl (hd 0 224 (by kernel_rfl) (by kernel_rfl)) (hd 1 225 (by kernel_rfl) (by kernel_rfl)) hb ⟨_, rfl, rfl, Below.refl _ _, fun e => by cases e⟩⟩
                  | 3, _, ho, hd =>
                    obtain rfl := Option.some.inj ho
                    exact ⟨.inl rfl, f_loadPS rfl (hd 2 226 (by kernel_rfl) (by kernel_rfl)) (L5.out W hB) ⟨_, rfl, rfl, Below.refl _ _, fun e => by cases e⟩⟩
                  | 4, _, ho, hd =>
                    obtain rfl := Option.some.inj ho
                    refine ⟨.inl rfl, wp_callF (f := 11) (vals := #[.pointer (some ⟨sb, 0, none⟩)]) rfl (map1 (hd 3 227 (by kernel_rfl) (by kernel_rfl))) (by go_simp) ?_⟩
                    refine (HF.out W hB).mono ?_
                    rintro e w9 ⟨rfl, hb9⟩
                    exact ⟨_, rfl, _, rfl, rfl, hb9, fun e => by cases e⟩
                  | 5, _, ho, hd =>
                    obtain rfl := Option.some.inj ho
                    exact ⟨.inl rfl, f_move rfl ((hs 6 (by kernel_rfl)).trans rfl) ⟨_, rfl, rfl, Below.refl _ _, fun e => by cases e⟩⟩
                  | 6, _, ho, hd =>
                    obtain rfl := Option.some.inj ho
                    exact ⟨.inl rfl, f_move rfl ((hs 18 (by kernel_rfl)).trans rfl) ⟨_, rfl, rfl, Below.refl _ _, fun e => by cases e⟩⟩
                  | 7, _, ho, hd =>
                    obtain rfl := Option.some.inj ho
                    exact ⟨.inl rfl, f_idxM rfl (hd 5 229 (by kernel_rfl) (by kernel_rfl)) (hd 6 230 (by kernel_rfl) (by kernel_rfl)) hb ⟨_, rfl, rfl, Below.refl _ _, fun e => by cases e⟩⟩
                  | 8, _, ho, hd =>
                    obtain rfl := Option.some.inj ho
                    exact ⟨.inl rfl, f_loadM rfl (hd 7 231 (by kernel_rfl) (by kernel_rfl)) (L6.out W hB) (L7.out W hB) ⟨_, rfl, rfl, Below.refl _ _, fun e => by cases e⟩⟩
                  | 9, _, ho, hd =>
                    obtain rfl := Option.some.inj ho
                    exact ⟨.inl rfl, f_move rfl ((hs 4 (by kernel_rfl)).trans rfl) ⟨_, rfl, rfl, Below.refl _ _, fun e => by cases e⟩⟩
                  | 10, _, ho, hd =>
                    obtain rfl := Option.some.inj ho
                    refine ⟨.inl rfl, wp_callF (f := 14) (vals := #[.agg #[.int .i64 mst, .slice ah hn ch], .slice a4 wl.length c4]) rfl (map2 (hd 8 232 (by kernel_rfl) (by kernel_rfl)) (hd 9 233 (by kernel_rfl) (by kernel_rfl))) (by go_simp) ?_⟩
                    refine (HRf.out W hB).mono ?_
                    rintro e w9 ⟨rfl, hb9⟩
                    exact ⟨_, rfl, _, rfl, rfl, hb9, fun e => by cases e⟩
                  | 11, _, ho, hd =>
                    obtain rfl := Option.some.inj ho
                    exact ⟨.inl rfl, f_neqI rfl (hd 4 228 (by kernel_rfl) (by kernel_rfl)) (hd 10 234 (by kernel_rfl) (by kernel_rfl)) ⟨_, rfl, rfl, Below.refl _ _, fun e => by cases e⟩⟩
                  | 12, _, ho, hd =>
                    obtain rfl := Option.some.inj ho
                    exact ⟨.inl rfl, f_move rfl (hd 11 235 (by kernel_rfl) (by kernel_rfl)) ⟨_, rfl, rfl, Below.refl _ _, fun e => by cases e⟩⟩
                  | 13, _, ho, hd =>
                    obtain rfl := Option.some.inj ho
                    exact ⟨.inr ⟨12, false, 236, rfl, by kernel_rfl, (hd 12 236 (by kernel_rfl) (by kernel_rfl))⟩, f_move rfl ((hs 5 (by kernel_rfl)).trans rfl) ⟨_, rfl, rfl, Below.refl _ _, fun e => by cases e⟩⟩
                  | 14, _, ho, hd =>
                    obtain rfl := Option.some.inj ho
                    exact ⟨.inr ⟨12, false, 236, rfl, by kernel_rfl, (hd 12 236 (by kernel_rfl) (by kernel_rfl))⟩, f_move rfl ((hs 18 (by kernel_rfl)).trans rfl) ⟨_, rfl, rfl, Below.refl _ _, fun e => by cases e⟩⟩
                  | 15, _, ho, hd =>
                    obtain rfl := Option.some.inj ho
                    exact ⟨.inr ⟨12, false, 236, rfl, by kernel_rfl, (hd 12 236 (by kernel_rfl) (by kernel_rfl))⟩, f_idxS rfl (hd 13 237 (by kernel_rfl) (by kernel_rfl)) (hd 14 238 (by kernel_rfl) (by kernel_rfl)) hb ⟨_, rfl, rfl, Below.refl _ _, fun e => by cases e⟩⟩
                  | 16, _, ho, hd =>
                    obtain rfl := Option.some.inj ho
                    exact ⟨.inr ⟨12, false, 236, rfl, by kernel_rfl, (hd 12 236 (by kernel_rfl) (by kernel_rfl))⟩, f_loadPS rfl (hd 15 239 (by kernel_rfl) (by kernel_rfl)) (L5.out W hB) ⟨_, rfl, rfl, Below.refl _ _, fun e => by cases e⟩⟩
                  | 17, _, ho, hd =>
                    obtain rfl := Option.some.inj ho
                    refine ⟨.inr ⟨12, false, 236, rfl, by kernel_rfl, (hd 12 236 (by kernel_rfl) (by kernel_rfl))⟩, wp_callF (f := 10) (vals := #[.pointer (some ⟨sb, 0, none⟩)]) rfl (map1 (hd 16 240 (by kernel_rfl) (by kernel_rfl))) (by go_simp) ?_⟩
                    refine (HL.out W hB).mono ?_
                    rintro e w9 ⟨rfl, hb9⟩
                    exact ⟨_, rfl, _, rfl, rfl, hb9, fun e => by cases e⟩
                  | 18, _, ho, hd =>
                    obtain rfl := Option.some.inj ho
                    exact ⟨.inr ⟨12, false, 236, rfl, by kernel_rfl, (hd 12 236 (by kernel_rfl) (by kernel_rfl))⟩, f_move rfl ((hs 6 (by kernel_rfl)).trans rfl) ⟨_, rfl, rfl, Below.refl _ _, fun e => by cases e⟩⟩
                  | 19, _, ho, hd =>
                    obtain rfl := Option.some.inj ho
                    exact ⟨.inr ⟨12, false, 236, rfl, by kernel_rfl, (hd 12 236 (by kernel_rfl) (by kernel_rfl))⟩, f_move rfl ((hs 18 (by kernel_rfl)).trans rfl) ⟨_, rfl, rfl, Below.refl _ _, fun e => by cases e⟩⟩
                  | 20, _, ho, hd =>
                    obtain rfl := Option.some.inj ho
                    exact ⟨.inr ⟨12, false, 236, rfl, by kernel_rfl, (hd 12 236 (by kernel_rfl) (by kernel_rfl))⟩, f_idxM rfl (hd 18 242 (by kernel_rfl) (by kernel_rfl)) (hd 19 243 (by kernel_rfl) (by kernel_rfl)) hb ⟨_, rfl, rfl, Below.refl _ _, fun e => by cases e⟩⟩
                  | 21, _, ho, hd =>
                    obtain rfl := Option.some.inj ho
                    exact ⟨.inr ⟨12, false, 236, rfl, by kernel_rfl, (hd 12 236 (by kernel_rfl) (by kernel_rfl))⟩, f_fldM rfl (hd 20 244 (by kernel_rfl) (by kernel_rfl)) ⟨_, rfl, rfl, Below.refl _ _, fun e => by cases e⟩⟩
                  | 22, _, ho, hd =>
                    obtain rfl := Option.some.inj ho
                    exact ⟨.inr ⟨12, false, 236, rfl, by kernel_rfl, (hd 12 236 (by kernel_rfl) (by kernel_rfl))⟩, f_loadLI rfl (hd 21 245 (by kernel_rfl) (by kernel_rfl)) (L7.out W hB) ⟨_, rfl, rfl, Below.refl _ _, fun e => by cases e⟩⟩
                  | 23, _, ho, hd =>
                    obtain rfl := Option.some.inj ho
                    exact ⟨.inr ⟨12, false, 236, rfl, by kernel_rfl, (hd 12 236 (by kernel_rfl) (by kernel_rfl))⟩, f_lenI rfl (hd 22 246 (by kernel_rfl) (by kernel_rfl)) ⟨_, rfl, rfl, Below.refl _ _, fun e => by cases e⟩⟩
                  | 24, _, ho, hd =>
                    obtain rfl := Option.some.inj ho
                    exact ⟨.inr ⟨12, false, 236, rfl, by kernel_rfl, (hd 12 236 (by kernel_rfl) (by kernel_rfl))⟩, f_neqI rfl (hd 17 241 (by kernel_rfl) (by kernel_rfl)) (hd 23 247 (by kernel_rfl) (by kernel_rfl)) ⟨_, rfl, rfl, Below.refl _ _, fun e => by cases e⟩⟩
                  | k + 25, hi, _, _ => exact absurd hi (by omega)
                case tailB =>
                  intro vs W hB hR hF9
                  have r12 : vs 12 = .bool false := hR 12 (by decide)
                  have r24 : vs 24 = .bool false := hR 24 (by decide)
                  have HE : Hid (RAll w W (.slice a3 wl.length c3) (.slice a4 wl.length c4) (.slice (some ⟨g5, 0, none⟩) sl.length c5) (.slice (some ⟨g6, 0, none⟩) sl.length c6) wl fs sl k) := HB.out.later hB
                  clear hB hR hF9 HF HL HRf L5 L6 L7 HB
                  simp only [putL, put_lit, List.setIfInBounds_toArray, List.set_cons_succ, List.set_cons_zero, List.drop_succ_cons, List.drop_zero]
                  rw [r12, r24]
                  clear r12 r24
                  go_wp2
                  go_roundw
                  case rel => exact ⟨b + 1, by omega, by go_num, HE⟩
                  case measure => simp [intOf]; omega
                -- REGEND
              · go_wp2
                go_ret
                exact ⟨rfl, HB.out.core.below⟩
      -- END tail
end Go.Proofs.Ytochfkjpbdfddaa
