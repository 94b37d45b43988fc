/- Layer 6 (schema): the document's Parse. -/
import Derived.Test.YtbpmahchinblhaaDoorSRLineT
import Derived.Test.YtbpmahchinblhaaDoorSRLineF
import Derived.Test.YtbpmahchinblhaaDoorSRLineI
namespace Go.Proofs.YtbpmahchinblhaaDoor
open Go.RowKit
set_option linter.unusedVariables false

theorem formP_range (ws : List ByteArray) : formP ws = 0 ∨ formP ws = 61 ∨ formP ws = 62 := by
  unfold formP
  repeat' split
  all_goals simp
theorem rTable_out (ln : Int) (ws : List ByteArray) (st : St) : (∀ l c, rTable ln ws st = .error (l, c) → c ≠ 0 ∧ ((c = 68 ∧ l = st.2) ∨ (c ≠ 68 ∧ l = ln))) ∧ (∀ st', rTable ln ws st = .ok st' → st'.2 = ln) := by
  unfold rTable
  refine ⟨fun l c h => ?_, fun st' h => ?_⟩
  · repeat' split at h
    all_goals first | (simp only [Except.error.injEq, Prod.mk.injEq] at h; obtain ⟨rfl, rfl⟩ := h; simp) | cases h
  · repeat' split at h
    all_goals first | (simp only [Except.ok.injEq] at h; subst h; rfl) | cases h
theorem rField_out (ln : Int) (ws : List ByteArray) (st : St) : (∀ l c, rField ln ws st = .error (l, c) → c ≠ 0 ∧ ((c = 68 ∧ l = st.2) ∨ (c ≠ 68 ∧ l = ln))) ∧ (∀ st', rField ln ws st = .ok st' → st'.2 = st.2) := by
  unfold rField
  refine ⟨fun l c h => ?_, fun st' h => ?_⟩
  · repeat' split at h
    all_goals first | (simp only [Except.error.injEq, Prod.mk.injEq] at h; obtain ⟨rfl, rfl⟩ := h; simp) | cases h
  · repeat' split at h
    all_goals first | (simp only [Except.ok.injEq] at h; subst h; rfl) | cases h
theorem rIndex_out (ln : Int) (ws : List ByteArray) (st : St) : (∀ l c, rIndex ln ws st = .error (l, c) → c ≠ 0 ∧ ((c = 68 ∧ l = st.2) ∨ (c ≠ 68 ∧ l = ln))) ∧ (∀ st', rIndex ln ws st = .ok st' → st'.2 = st.2) := by
  unfold rIndex
  refine ⟨fun l c h => ?_, fun st' h => ?_⟩
  · repeat' split at h
    all_goals first | (simp only [Except.error.injEq, Prod.mk.injEq] at h; obtain ⟨rfl, rfl⟩ := h; simp) | cases h
  · repeat' split at h
    all_goals first | (simp only [Except.ok.injEq] at h; subst h; rfl) | cases h
theorem rLine_err {ln : Int} {ws : List ByteArray} {st : St} {l c : Int} (h : rLine ln ws st = .error (l, c)) : c ≠ 0 ∧ ((c = 68 ∧ l = st.2) ∨ (c ≠ 68 ∧ l = ln)) := by
  unfold rLine at h
  split at h
  · exact (rTable_out ln ws st).1 l c h
  · split at h
    · exact (rField_out ln ws st).1 l c h
    · split at h
      · exact (rIndex_out ln ws st).1 l c h
      · simp only [Except.error.injEq, Prod.mk.injEq] at h
        obtain ⟨rfl, rfl⟩ := h
        simp
theorem rLine_ok {ln : Int} {ws : List ByteArray} {st st' : St} (h : rLine ln ws st = .ok st') : st'.2 = if ws.getD 0 ⟨#[]⟩ = tableW then ln else st.2 := by
  unfold rLine at h
  split at h
  · next h0 => rw [if_pos h0]; exact (rTable_out ln ws st).2 st' h
  · next h0 =>
    rw [if_neg h0]
    split at h
    · exact (rField_out ln ws st).2 st' h
    · split at h
      · exact (rIndex_out ln ws st).2 st' h
      · cases h

theorem rform_calls (g cap : Nat) (ws : List ByteArray) (w : World) (h0 : 0 < ws.length) (hcap : ws.length ≤ cap) (hl : ws.length ≤ 100000) (hc : CellsAt w (some ⟨g, 0, none⟩) (ws.map Value.string)) (hs : ∀ x ∈ ws, x.size ≤ 8192) :
    Calls Tryd.prog 10 #[.slice (some ⟨g, 0, none⟩) ws.length cap] w fun e w' => e = .returned (.int .i64 (formP ws)) ∧ Below w.heap.size w w' := by
  by_cases h1 : ws[0] = tableW
  · exact (rform_table g cap ws w h0 hl hc hs h1).mono fun e w' h => ⟨h.1, h.2 ▸ Below.refl _ _⟩
  by_cases h2 : ws[0] = fieldW
  · exact (rform_field g cap ws w h0 hl hc hs h2).mono fun e w' h => ⟨h.1, h.2 ▸ Below.refl _ _⟩
  by_cases h3 : ws[0] = indexW
  · exact rform_index g cap ws w h0 hcap hl hc hs h3
  · exact (rform_none g cap ws w h0 hl hc h1 h2 h3).mono fun e w' h => ⟨h.1, h.2 ▸ Below.refl _ _⟩
theorem rline_calls (B g cap : Nat) (v : Value) (ts : List TV) (ln bg : Int) (ws : List ByteArray) (w : World) (h0 : 0 < ws.length) (hcap : ws.length ≤ cap) (hl : ws.length ≤ 100000) (hc : CellsAt w (some ⟨g, 0, none⟩) (ws.map Value.string)) (hs : ∀ x ∈ ws, x.size ≤ 8192)
    (hf : formP ws = 0) (ht : Tabs w B v ts) (hB : B ≤ w.heap.size) (hgt' : ∃ cs, w.heap[g]? = some (.cells cs 9)) :
    Calls Tryd.prog 11 #[v, .slice (some ⟨g, 0, none⟩) ws.length cap] w fun e w' => LineR B w (rLine ln ws (tbs ts, bg)) e w' := by
  by_cases h1 : ws[0] = tableW
  · exact rline_table B g cap v ts ln bg ws w h0 hcap hc hs h1 hf ht hB
  by_cases h2 : ws[0] = fieldW
  · exact rline_field B g cap v ts ln bg ws w h0 hcap hc hs h2 hf ht hB hgt'
  by_cases h3 : ws[0] = indexW
  · exact rline_index B g cap v ts ln bg ws w h0 hcap hl hc hs h3 hf ht hB
  · exfalso
    unfold formP at hf
    rw [word_at h0, if_neg h1, if_neg h2, if_neg h3] at hf
    cases hf

theorem rbare_calls {w : World} {B : Nat} {ao : Option Addr} {tc : Nat} {ts : List TV} (h : Tabs w B (.slice ao ts.length tc) ts) :
    Calls Tryd.prog 12 #[.slice ao ts.length tc] w fun e w' => e = .returned (.bool (bareB (tbs ts))) ∧ w' = w := by
  rcases nil_or_snoc ts with rfl | ⟨us, t, rfl⟩
  · exact rbare_none ao tc w
  · obtain ⟨g', rfl, hcap', t0, t1, t2, cs, hgb⟩ := h.lastAt
    have h16 : us.length < 100 := by have := h.most; simp at this; omega
    have := rbare_some g' us.length tc t.xa t.xs.length t.xc w h16 t2
    rw [bare_snoc, show (us ++ [t]).length = us.length + 1 by simp]
    refine this.mono ?_
    rintro e w' ⟨rfl, rfl⟩
    refine ⟨ret_bool ?_, rfl⟩
    by_cases h : t.xs.length = 0 <;> simp [h]

/-- The document's Parse ahead of line k + 1. -/
structure PaI (w : World) (lb lc : Nat) (ls : List ByteArray) (k : Nat) (v : Value) (ts : List TV) (bg : Int) (wr : World) : Prop where
  run : rLines 1 ls ([], 0) = rLines (k + 1) (ls.drop k) (tbs ts, bg)
  tb : Tabs wr (w.heap.size + 1) v ts
  nr : wr.ownsRow w.heap.size 9 1 (.slice (some ⟨lb, 0, none⟩) ls.length lc) ls.length (ls.map Value.string)
  rs : wr.heap[w.heap.size]? = some (.cells #[.slice none 0 0] 25)
  be : Below w.heap.size w wr
theorem PaI.cell {w : World} {lb lc : Nat} {ls : List ByteArray} {k : Nat} {v : Value} {ts : List TV} {bg : Int} {wr : World} (h : PaI w lb lc ls k v ts bg wr) (j : Nat) (hj : j < ls.length) : wr.cell? ⟨lb, j, none⟩ = some (.string ls[j]) := words_cell (row_cells h.nr) j hj
def PParsed (w : World) (o : Except (Int × Int) (List Tb)) (e : Ending) (w' : World) : Prop :=
  match o with
  | .error (l, c) => e = .returned (.tuple #[.agg #[.slice none 0 0], .int .i64 l, .int .i64 c]) ∧ Below w.heap.size w w'
  | .ok us => Below w.heap.size w w' ∧ ∃ ao cap ts, e = .returned (.tuple #[.agg #[.slice ao ts.length cap], .int .i64 0, .int .i64 0]) ∧ tbs ts = us ∧ Tabs w' w.heap.size (.slice ao ts.length cap) ts
theorem parse_results {W : World} {b : Nat} {v : Value} {c d : Int} {tmps : Array Value} (h : W.cell? ⟨b, 0, none⟩ = some v) (h2 : tmps[2]?.getD undef = .pointer (some ⟨b, 0, none⟩)) (h3 : tmps[3]?.getD undef = .int .i64 c) (h4 : tmps[4]?.getD undef = .int .i64 d) :
    (results Tryd.f5 tmps).run Tryd.prog W = .ok (.tuple #[.agg #[v], .int .i64 c, .int .i64 d]) W := by
  simp [results, Tryd.results5, go_sem, h2, h3, h4, h]

set_option maxRecDepth 100000 in
set_option maxHeartbeats 4000000 in
theorem rparse_calls (text : ByteArray) (w : World) (hs : text.size ≤ 140737488351296) :
    Calls Tryd.prog 5 #[.string text] w fun e w' => PParsed w (parseP text) e w' := by
  by_cases h1 : text.size > 8192
  · have HO : Hid (parseP text = .error (0, 60)) := by unfold parseP; rw [Hid, if_pos h1]
    have q1 : (8192 : Int) < (text.size : Int) := by omega
    clear h1
    go_enter Tryd.func5, Tryd.ntmps5
    go_wp2
    refine bodyPost_ret (parse_results (b := w.heap.size) (v := .slice none 0 0) (c := 0) (d := 60) ?_ rfl rfl rfl) rfl ?_
    · rw [cell_blk (new_blk _ _)]; rfl
    · rw [HO.out]
      exact ⟨rfl, (Below.refl _ _).alloc (Nat.le_refl _) _⟩
  have q1 : ¬ ((8192 : Int) < (text.size : Int)) := by omega
  have hz : text.size ≤ 8192 := by omega
  have HO1 : Hid (parseP text = match rLines 1 (wsOf text 10) ([], 0) with
    | .error e => .error e
    | .ok st => if bareB st.1 then .error (st.2, 68) else .ok st.1) := by unfold parseP; rw [Hid, if_neg h1]; rfl
  have HSp : Hid (∀ W, Calls Tryd.prog 9 #[.string text, .int .u8 10] W fun e w' => ∃ v, e = .returned v ∧ w'.ownsRow W.heap.size 9 1 v (wsOf text 10).length ((wsOf text 10).map Value.string) ∧ Below W.heap.size W w') := fun W => rsplit_calls text 10 W hz
  clear h1
  go_enter Tryd.func5, Tryd.ntmps5
  go_wp2_with fail
  refine (HSp.out _).mono ?_
  clear HSp
  rintro e w2 ⟨v, rfl, hr, hb⟩
  obtain ⟨ls, hls⟩ : ∃ ls, ls = wsOf text 10 := ⟨_, rfl⟩
  have hll : ls.length ≤ 9000 := by rw [hls]; have := wsOf_most text 10; omega
  have hl0 : 0 < ls.length := by rw [hls, wsOf_length]; omega
  have HLS : Hid (∀ x ∈ ls, x.size ≤ 8192) := by intro x hx; rw [hls] at hx; have := wsOf_size text 10 x hx; omega
  rw [← hls] at hr HO1
  obtain ⟨ao, lc, rfl, hao⟩ := row_forms hr
  obtain ⟨lb, rfl⟩ := hao hl0
  have HI0 : Hid (PaI w lb lc ls 0 (.slice (some ⟨w.heap.size + 1, 0, none⟩) 0 0) [] 0 w2) := by
    refine ⟨rfl, ?_, row_mono hr (by simp only [World.size_alloc]; omega), ?_, ?_⟩
    · have h0 : Tabs ((w.alloc (.cells #[.slice none 0 0] 25)).alloc (.cells #[] 35)) (w.heap.size + 1) (.slice (some ⟨w.heap.size + 1, 0, none⟩) 0 0) [] := by
        refine ⟨?_, fun t ht => by simp at ht, by simp [ApartV], by simp [ApartV], by simp [ApartV], by simp, fun t ht => by simp at ht⟩
        have := World.ownsRow_lit (base := w.heap.size + 1) (e := 35) (size := 3) (w.alloc (.cells #[.slice none 0 0] 25)) #[] 0 (by simp only [World.size_alloc]; omega) (by unfold maxLen; omega) rfl
        rw [World.size_alloc] at this
        exact this
      exact h0.below hb
    · refine (hb.block _ (by simp only [World.size_alloc]; omega)).trans ?_
      exact old_blk (new_blk _ _) _
    · exact (((Below.refl _ _).alloc (Nat.le_refl _) _).alloc (by simp only [World.size_alloc]; omega) _).trans (hb.mono (by simp only [World.size_alloc]; omega))
  clear hr hb hls hao
  go_wp2
  go_loopw [5, 6, 7, 8, 9, 10, 19] (fun a5 a6 a7 a8 a9 a10 x wr => ∃ (k : Nat) (ao : Option Addr) (tc : Nat) (ts : List TV) (bg : Int), k ≤ ls.length ∧ x = .int .i64 k ∧ a5 = .slice ao ts.length tc ∧ a6 = .int .i64 bg ∧ Hid (PaI w lb lc ls k (.slice ao ts.length tc) ts bg wr)) (fun _ _ _ _ _ _ x _ => ls.length - (intOf x).toNat)
  case atStart => exact ⟨0, _, _, [], 0, Nat.zero_le _, rfl, rfl, rfl, HI0⟩
  case round =>
    obtain ⟨k, ao, tc, ts, bg, hk, rfl, rfl, rfl, HI⟩ := hrel
    clear HI0
    by_cases hlt : k < ls.length
    · have c0 := HI.out.cell k hlt
      have HZ : Hid (ls[k].size ≤ 8192) := HLS.out _ (List.getElem_mem hlt)
      by_cases he : ls[k] = ⟨#[]⟩
      · have HRun : Hid (rLines 1 ls ([], 0) = rLines ((k + 1 : Nat) + 1) (ls.drop (k + 1)) (tbs ts, bg)) := HI.out.run.trans (rLines_skip hlt he)
        have q2 : ls[k].toList = [] := by rw [he, ByteArray.toList_eq]
        clear he
        go_wp2
        go_roundw
        case rel => exact ⟨k + 1, _, _, ts, bg, by omega, by go_num, rfl, rfl, ⟨HRun.out, HI.out.tb, HI.out.nr, HI.out.rs, HI.out.be⟩⟩
        case measure => simp [intOf]; omega
      · have q2 : ls[k].toList.isEmpty = false := by
          rw [ByteArray.toList_eq]
          cases hc : ls[k].data.toList.isEmpty with
          | false => rfl
          | true => exact absurd (Go.WideShapes.bytes_inj (b := ⟨#[]⟩) (List.isEmpty_iff.1 hc)) he
        have HE : Hid (¬ ls[k] = ⟨#[]⟩) := he
        clear he
        obtain ⟨line, hline⟩ : ∃ z, z = ls[k] := ⟨_, rfl⟩
        rw [← hline] at HZ q2 c0
        have HLn : Hid (line = ls[k]) := hline
        clear hline
        obtain ⟨ws, hws⟩ : ∃ ws, ws = wsOf line 32 := ⟨_, rfl⟩
        have HWS : Hid (ws = wsOf line 32) := hws
        have hw0 : 0 < ws.length := by rw [hws, wsOf_length]; omega
        have hwl : ws.length ≤ 9000 := by rw [hws]; have := wsOf_most line 32; have := HZ.out; omega
        have HWZ : Hid (∀ x ∈ ws, x.size ≤ 8192) := by intro x hx; rw [hws] at hx; have := wsOf_size line 32 x hx; have := HZ.out; omega
        have HSp : Hid (Calls Tryd.prog 9 #[.string line, .int .u8 32] wr fun e w' => ∃ v, e = .returned v ∧ w'.ownsRow wr.heap.size 9 1 v ws.length (ws.map Value.string) ∧ Below wr.heap.size wr w') := by rw [hws]; exact rsplit_calls line 32 wr HZ.out
        clear hws
        go_wp2_with fail
        refine HSp.out.mono ?_
        clear HSp
        rintro e w3 ⟨v3, rfl, hr3, hb3⟩
        obtain ⟨ao3, wc, rfl, hao3⟩ := row_forms hr3
        obtain ⟨g, rfl⟩ := hao3 hw0
        have HR3 : Hid (w3.ownsRow w.heap.size 9 1 (.slice (some ⟨g, 0, none⟩) ws.length wc) ws.length (ws.map Value.string)) := row_mono hr3 HI.out.be.size
        have hwc : ws.length ≤ wc := by
          rcases hr3.2 with ⟨he, h0⟩ | ⟨g', cap', cur, he, _, _, hc, _⟩
          · omega
          · simp only [Value.slice.injEq] at he
            obtain ⟨_, _, rfl⟩ := he
            exact hc
        have HI3 : Hid (PaI w lb lc ls k (.slice ao ts.length tc) ts bg w3) := ⟨HI.out.run, HI.out.tb.below hb3, row_below HI.out.nr hb3, (hb3.block _ (lt_blk HI.out.rs)).trans HI.out.rs, HI.out.be.trans (hb3.mono HI.out.be.size)⟩
        have HFm : Hid (Calls Tryd.prog 10 #[.slice (some ⟨g, 0, none⟩) ws.length wc] w3 fun e w' => e = .returned (.int .i64 (formP ws)) ∧ Below w3.heap.size w3 w') := rform_calls g wc ws w3 hw0 hwc (by omega) (row_cells HR3.out) HWZ.out
        clear hr3 hb3 hao3 HI c0 HZ
        go_wp2_with fail
        refine HFm.out.mono ?_
        clear HFm
        rintro e w4 ⟨rfl, hb4⟩
        have HR4 : Hid (w4.ownsRow w.heap.size 9 1 (.slice (some ⟨g, 0, none⟩) ws.length wc) ws.length (ws.map Value.string)) := row_below HR3.out hb4
        have HI4 : Hid (PaI w lb lc ls k (.slice ao ts.length tc) ts bg w4) := ⟨HI3.out.run, HI3.out.tb.below hb4, row_below HI3.out.nr hb4, (hb4.block _ (lt_blk HI3.out.rs)).trans HI3.out.rs, HI3.out.be.trans (hb4.mono HI3.out.be.size)⟩
        clear hb4 HR3 HI3
        by_cases hF : formP ws = 0
        · have HC : Hid (Calls Tryd.prog 11 #[.slice ao ts.length tc, .slice (some ⟨g, 0, none⟩) ws.length wc] w4 fun e w' => LineR (w.heap.size + 1) w4 (rLine ((k : Int) + 1) ws (tbs ts, bg)) e w') :=
            rline_calls (w.heap.size + 1) g wc _ ts ((k : Int) + 1) bg ws w4 hw0 hwc (by omega) (row_cells HR4.out) HWZ.out hF HI4.out.tb (lt_blk HI4.out.rs) (row_typed HR4.out g rfl)
          rw [hF]
          clear hF
          go_wp2_with fail
          refine HC.out.mono ?_
          clear HC
          rintro e w5 hbe
          cases h : rLine ((k : Int) + 1) ws (tbs ts, bg) with
          | error lc' =>
            obtain ⟨l, c⟩ := lc'
            rw [h] at hbe
            obtain ⟨hF5, v5, rfl⟩ := hbe
            have hrs5 : w5.heap[w.heap.size]? = some (.cells #[.slice none 0 0] 25) := (hF5.below.block _ (by omega)).trans HI4.out.rs
            have HRun : Hid (rLines 1 ls ([], 0) = .error (l, c)) := HI4.out.run.trans (rLines_bad hlt HE.out (by rw [← HLn.out, ← HWS.out]; exact h))
            have HL : Hid (parseP text = .error (l, c)) := by rw [Hid, HO1.out, HRun.out]
            have HB5 : Hid (Below w.heap.size w w5) := HI4.out.be.trans (hF5.below.mono (by omega))
            have s0 : w5.cell? ⟨w.heap.size, 0, none⟩ = some (.slice none 0 0) := by rw [cell_blk hrs5]; rfl
            have z0 : w5.frozen? ⟨w.heap.size, 0, none⟩ = false := frozen_blk hrs5
            have HRS : Hid (w5.heap[w.heap.size]? = some (.cells #[.slice none 0 0] 25)) := hrs5
            obtain ⟨hc0, hcl⟩ := rLine_err h
            clear hrs5 HRun hF5 h
            dsimp only at hcl
            rcases hcl with ⟨rfl, hl'⟩ | ⟨h68, rfl⟩
            · subst hl'
              clear hc0
              go_wp2
              refine bodyPost_ret (parse_results (b := w.heap.size) (v := .slice none 0 0) (c := l) (d := 68) ?_ rfl rfl rfl) rfl ?_
              · rw [cell_blk (set_blk (i := 0) HRS.out _)]; rfl
              · rw [HL.out]
                exact ⟨rfl, HB5.out.setCell (Nat.le_refl _) _⟩
            · have q3 : (c == 68) = false := by simpa using h68
              have q4 : (c == 0) = false := by simpa using hc0
              clear h68 hc0
              go_wp2
              refine bodyPost_ret (parse_results (b := w.heap.size) (v := .slice none 0 0) (c := (k : Int) + 1) (d := c) ?_ rfl rfl rfl) rfl ?_
              · rw [cell_blk (set_blk (i := 0) HRS.out _)]; rfl
              · rw [HL.out]
                exact ⟨rfl, HB5.out.setCell (Nat.le_refl _) _⟩
          | ok st =>
            rw [h] at hbe
            obtain ⟨hF5, v5, ts5, rfl, ht5, htb5⟩ := hbe
            have hst := rLine_ok h
            rw [word_at hw0] at hst
            obtain ⟨us5, bg5⟩ := st
            dsimp only at ht5 hst
            subst ht5
            have HN : Hid (PaI w lb lc ls (k + 1) v5 ts5 bg5 w5) :=
              ⟨HI4.out.run.trans (rLines_next hlt HE.out (by rw [← HLn.out, ← HWS.out]; exact h)), htb5, row_fr HI4.out.nr hF5, (hF5.below.block _ (by omega)).trans HI4.out.rs, HI4.out.be.trans (hF5.below.mono (by omega))⟩
            have d0 : w5.cell? ⟨g, 0, none⟩ = some (.string ws[0]) := words_cell (row_cells (row_fr HR4.out hF5)) 0 hw0
            obtain ⟨ao5, tc5, rfl, -⟩ := htb5.form
            clear hF5 h htb5
            have qt : (ws[0].toList == [116, 97, 98, 108, 101]) = decide (ws[0] = tableW) := beq_lit ws[0] [116, 97, 98, 108, 101]
            by_cases h0 : ws[0] = tableW
            · rw [if_pos h0] at hst
              rw [decide_eq_true h0] at qt
              subst hst
              clear h0
              go_wp2
              go_roundw
              case rel => exact ⟨k + 1, _, _, ts5, _, by omega, by go_num, rfl, by go_num, HN⟩
              case measure => simp [intOf]; omega
            · rw [if_neg h0] at hst
              rw [decide_eq_false h0] at qt
              subst hst
              clear h0
              go_wp2
              go_roundw
              case rel => exact ⟨k + 1, _, _, ts5, _, by omega, by go_num, rfl, rfl, HN⟩
              case measure => simp [intOf]; omega
        · have HL : Hid (parseP text = .error ((k : Int) + 1, formP ws)) := by
            rw [Hid, HO1.out, HI4.out.run.trans (rLines_bad hlt HE.out (by rw [← HLn.out, ← HWS.out]; exact form_bad hF _ _))]
          have s0 : w4.cell? ⟨w.heap.size, 0, none⟩ = some (.slice none 0 0) := by rw [cell_blk HI4.out.rs]; rfl
          have z0 : w4.frozen? ⟨w.heap.size, 0, none⟩ = false := frozen_blk HI4.out.rs
          rcases formP_range ws with h | h | h
          · exact absurd h hF
          · rw [h] at HL ⊢
            clear hF h
            go_wp2
            refine bodyPost_ret (parse_results (b := w.heap.size) (v := .slice none 0 0) (c := (k : Int) + 1) (d := 61) ?_ rfl rfl rfl) rfl ?_
            · rw [cell_blk (set_blk (i := 0) HI4.out.rs _)]; rfl
            · rw [HL.out]
              exact ⟨rfl, HI4.out.be.setCell (Nat.le_refl _) _⟩
          · rw [h] at HL ⊢
            clear hF h
            go_wp2
            refine bodyPost_ret (parse_results (b := w.heap.size) (v := .slice none 0 0) (c := (k : Int) + 1) (d := 62) ?_ rfl rfl rfl) rfl ?_
            · rw [cell_blk (set_blk (i := 0) HI4.out.rs _)]; rfl
            · rw [HL.out]
              exact ⟨rfl, HI4.out.be.setCell (Nat.le_refl _) _⟩
    · obtain rfl : k = ls.length := by omega
      have HRun : Hid (rLines 1 ls ([], 0) = .ok (tbs ts, bg)) := by
        have := HI.out.run
        rw [List.drop_length] at this
        exact this
      have HBare : Hid (Calls Tryd.prog 12 #[.slice ao ts.length tc] wr fun e w' => e = .returned (.bool (bareB (tbs ts))) ∧ w' = wr) := rbare_calls HI.out.tb
      have s0 : wr.cell? ⟨w.heap.size, 0, none⟩ = some (.slice none 0 0) := by rw [cell_blk HI.out.rs]; rfl
      have z0 : wr.frozen? ⟨w.heap.size, 0, none⟩ = false := frozen_blk HI.out.rs
      cases hb : bareB (tbs ts) with
      | true =>
        have HL : Hid (parseP text = .error (bg, 68)) := by rw [Hid, HO1.out, HRun.out]; simp only [hb, if_true]
        rw [hb] at HBare
        clear hb
        go_wp2_with fail
        refine HBare.out.mono ?_
        clear HBare
        rintro e w6 ⟨rfl, hw6⟩
        rw [hw6]
        clear hw6
        go_wp2
        refine bodyPost_ret (parse_results (b := w.heap.size) (v := .slice none 0 0) (c := bg) (d := 68) ?_ rfl rfl rfl) rfl ?_
        · rw [cell_blk (set_blk (i := 0) HI.out.rs _)]; rfl
        · rw [HL.out]
          exact ⟨rfl, HI.out.be.setCell (Nat.le_refl _) _⟩
      | false =>
        have HL : Hid (parseP text = .ok (tbs ts)) := by rw [Hid, HO1.out, HRun.out]; simp only [hb]; rfl
        rw [hb] at HBare
        clear hb
        go_wp2_with fail
        refine HBare.out.mono ?_
        clear HBare
        rintro e w6 ⟨rfl, hw6⟩
        rw [hw6]
        clear hw6
        go_wp2
        refine bodyPost_ret (parse_results (b := w.heap.size) (v := .slice ao ts.length tc) (c := 0) (d := 0) ?_ rfl rfl rfl) rfl ?_
        · rw [cell_blk (set_blk (i := 0) HI.out.rs _)]; rfl
        · rw [HL.out]
          exact ⟨HI.out.be.setCell (Nat.le_refl _) _, ao, tc, ts, rfl, rfl, (HI.out.tb.set HI.out.rs (by decide) (by decide) (by decide) (by decide) _).mono (by omega)⟩
end Go.Proofs.YtbpmahchinblhaaDoor
