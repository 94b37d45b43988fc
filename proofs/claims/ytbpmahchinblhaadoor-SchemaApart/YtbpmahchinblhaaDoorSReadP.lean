/- Layer 6 (schema): read. -/
import Derived.Test.YtbpmahchinblhaaDoorSParse
namespace Go.Proofs.YtbpmahchinblhaaDoor
open Go.RowKit
set_option linter.unusedVariables false

/-- The reader ahead of line k + 1. -/
structure RdI (B : Nat) (w : World) (rb lb : Nat) (ls : List ByteArray) (k : Nat) (v : Value) (ts : List TV) (ln bg : Int) (wr : World) : Prop where
  run : rLines 1 ls ([], 0) = rLines (k + 1) (ls.drop k) (tbs ts, bg)
  rd : RdAt wr rb v ln bg
  tb : Tabs wr B v ts
  st : StrsAt wr lb ls
  fr : Fr B w wr

theorem rLines_skip {k : Nat} {ls : List ByteArray} {st : St} (hk : k < ls.length) (h : ls[k] = ⟨#[]⟩) : rLines (k + 1) (ls.drop k) st = rLines ((k + 1 : Nat) + 1) (ls.drop (k + 1)) st := by
  rw [List.drop_eq_getElem_cons hk, rLines, if_pos h]
  rfl
theorem rLines_bad {k : Nat} {ls : List ByteArray} {st : St} {e : Int × Int} (hk : k < ls.length) (h : ¬ ls[k] = ⟨#[]⟩) (hr : rLine (k + 1) (wsOf ls[k] 32) st = .error e) : rLines (k + 1) (ls.drop k) st = .error e := by
  rw [List.drop_eq_getElem_cons hk, rLines, if_neg h, hr]
theorem rLines_next {k : Nat} {ls : List ByteArray} {st st' : St} (hk : k < ls.length) (h : ¬ ls[k] = ⟨#[]⟩) (hr : rLine (k + 1) (wsOf ls[k] 32) st = .ok st') : rLines (k + 1) (ls.drop k) st = rLines ((k + 1 : Nat) + 1) (ls.drop (k + 1)) st' := by
  rw [List.drop_eq_getElem_cons hk, rLines, if_neg h, hr]
  rfl

theorem Tabs.mono {w : World} {B B' : Nat} {v : Value} {ts : List TV} (h : Tabs w B v ts) (hB : B' ≤ B) : Tabs w B' v ts :=
  ⟨row_mono h.row hB, fun t ht => ⟨row_mono (h.tab t ht).fs hB, row_mono (h.tab t ht).xs hB, fun x hx => row_mono ((h.tab t ht).ov x hx) hB⟩, h.afs, h.axs, h.aov, h.most, h.ok⟩
def Read (w : World) (o : Except (Int × Int) (List Tb)) (e : Ending) (w' : World) : Prop :=
  match o with
  | .error (l, c) => e = .panicked [{ v := faultV l c, recovered := false }] ∧ Below w.heap.size w w'
  | .ok us => Below w.heap.size w w' ∧ ∃ ao cap ts, e = .returned (.agg #[.slice ao ts.length cap]) ∧ tbs ts = us ∧ Tabs w' w.heap.size (.slice ao ts.length cap) ts

/-- strings.Clone: the same text. -/
theorem tclone_calls (s : ByteArray) (w : World) (hs : s.size ≤ 8192) : Calls Tryd.prog 27 #[.string s] w fun e w' => e = .returned (.string s) ∧ Below w.heap.size w w' := by
  go_enter Tryd.func27, Tryd.ntmps27
  go_wp2_with fail
  refine (Tryd.stringslite_Clone s w (by omega)).mono ?_
  rintro e w1 ⟨rfl, hb⟩
  go_wp2
  go_ret
  exact ⟨rfl, hb⟩

set_option maxRecDepth 100000 in
set_option maxHeartbeats 4000000 in
theorem read_calls (text : ByteArray) (w : World) (mx : Int) (hmx : w.cell? ⟨1, 0, none⟩ = some (.int .i64 mx)) (hk : KindsAt w) :
    Calls Tryd.prog 14 #[.string text] w fun e w' => Read w (parseP text) e w' := by
  have h1w : 1 < w.heap.size := World.block_lt_of_cell? w _ hmx
  have HMX : Hid (w.cell? ⟨1, 0, none⟩ = some (.int .i64 mx)) := hmx
  have HK : Hid (KindsAt w) := hk
  clear hmx hk
  by_cases h1 : text.size > 8192
  · have HO : Hid (parseP text = .error (0, 60)) := by unfold parseP; rw [Hid, if_pos h1]
    have q1 : decide ((8192 : Int) < (text.size : Int)) = true := by rw [decide_eq_true_eq]; omega
    clear h1
    go_enter Tryd.func14, Tryd.ntmps14
    go_wp2_with fail
    refine (refuse_do (w.heap.size + 1) (.slice none 0 0) 0 0 60 _ ?_).mono ?_
    · exact by have := new_blk (w.alloc (.cells #[.slice none 0 0] 25)) (.cells #[.slice none 0 0, .int .i64 0, .int .i64 0] 68); rw [World.size_alloc] at this; exact this
    rintro e w1 ⟨rfl, rfl⟩
    go_wp2
    rw [HO.out]
    exact ⟨rfl, rfl, ((Below.refl _ _).alloc (Nat.le_refl _) _).alloc (by simp) _⟩
  have q1 : decide ((8192 : Int) < (text.size : Int)) = false := by rw [decide_eq_false_iff_not]; omega
  have HO1 : Hid (parseP text = match rLines 1 (wsOf text 10) ([], 0) with
    | .error e => .error e
    | .ok st => if bareB st.1 then .error (st.2, 68) else .ok st.1) := by unfold parseP; rw [Hid, if_neg h1]; rfl
  obtain ⟨ls, hls⟩ : ∃ ls, ls = wsOf text 10 := ⟨_, rfl⟩
  rw [← hls] at HO1
  have hll : ls.length ≤ 9000 := by rw [hls]; have := wsOf_most text 10; omega
  have HLS : Hid (∀ x ∈ ls, x.size ≤ 8192) := by intro x hx; rw [hls] at hx; have := wsOf_size text 10 x hx; omega
  have HLE : Hid (ls = wsOf text 10) := hls
  clear hls
  go_enter Tryd.func14, Tryd.ntmps14
  go_wp2_with fail
  refine (refuse_not _ 60 _).mono ?_
  rintro e w0 ⟨rfl, hw0⟩
  have hb0 : Below w.heap.size w w0 := by rw [hw0]; exact ((Below.refl _ _).alloc (Nat.le_refl _) _).alloc (by simp) _
  have HR0 : Hid (RdAt w0 (w.heap.size + 1) (.slice none 0 0) 0 0) := by
    rw [Hid, hw0]
    have := new_blk (w.alloc (.cells #[.slice none 0 0] 25)) (.cells #[.slice none 0 0, .int .i64 0, .int .i64 0] 68)
    rw [World.size_alloc] at this
    exact this
  have HB0 : Hid (w0.heap[w.heap.size]? = some (.cells #[.slice none 0 0] 25)) := by rw [Hid, hw0]; exact old_blk (new_blk _ _) _
  clear hw0
  go_wp2_with fail
  refine (tclone_calls text w0 (by omega)).mono ?_
  rintro e w1 ⟨rfl, hbc⟩
  have hb1 : Below w.heap.size w w1 := hb0.trans (hbc.mono hb0.size)
  have HR1 : Hid (RdAt w1 (w.heap.size + 1) (.slice none 0 0) 0 0) := HR0.out.below hbc
  have HB1 : Hid (w1.heap[w.heap.size]? = some (.cells #[.slice none 0 0] 25)) := (hbc.block _ (lt_blk HB0.out)).trans HB0.out
  clear hbc HR0 HB0 hb0
  go_wp2_with fail
  refine (split_calls text 10 mx _ (by omega) (by rw [hb1.cell (by exact h1w)]; exact HMX.out)).mono ?_
  rintro e w2 ⟨rfl, hS2, hbS⟩
  obtain ⟨lb, hlb⟩ : ∃ lb, lb = w1.heap.size := ⟨_, rfl⟩
  rw [← hlb, ← HLE.out] at hS2
  rw [← hlb, ← HLE.out]
  have hb2 : Below w.heap.size w w2 := hb1.trans (hbS.mono hb1.size)
  have HI0 : Hid (RdI (w.heap.size + 1) w2 (w.heap.size + 1) lb ls 0 (.slice none 0 0) [] 0 0 w2) := ⟨rfl, HR1.out.below hbS, Tabs.nil _ _, hS2, Fr.refl _ _⟩
  have HB2 : Hid (w2.heap[w.heap.size]? = some (.cells #[.slice none 0 0] 25)) := (hbS.block _ (lt_blk HB1.out)).trans HB1.out
  have H2 : Hid (Below w.heap.size w w2) := hb2
  have HMX2 : Hid (w2.cell? ⟨1, 0, none⟩ = some (.int .i64 mx)) := by rw [Hid, hb2.cell (by exact h1w)]; exact HMX.out
  have HK2 : Hid (KindsAt w2) := HK.out.fr (Fr.ofBelow hb2 (Nat.le_refl _)) (by omega)
  have hw2s : w.heap.size + 1 < w2.heap.size := Nat.lt_of_lt_of_le (lt_blk HR1.out) hbS.size
  clear hS2 hbS hb2 HR1 HB1 hb1 hlb HLE HMX HK
  have hbt : w.heap.size + 1 ≤ w.heap.size + 1 := Nat.le_refl _
  go_wp2_with fail
  go_loopw [4, 5, 14] (fun s4 s5 i wr => ∃ (k : Nat) (v : Value) (ts : List TV) (ln bg : Int), k ≤ ls.length ∧ i = .int .i64 k ∧ Hid (RdI (w.heap.size + 1) w2 (w.heap.size + 1) lb ls k v ts ln bg wr)) (fun _ _ i _ => ls.length - (intOf i).toNat)
  case atStart => exact ⟨0, _, _, _, _, Nat.zero_le _, rfl, HI0.out⟩
  case round =>
    obtain ⟨k, v, ts, ln, bg, hk, rfl, HI⟩ := hrel
    by_cases hlt : k < ls.length
    · have c0 := HI.out.st.cell k hlt
      have HZ : Hid (ls[k].size ≤ 8192) := HLS.out _ (List.getElem_mem hlt)
      have r1 : wr.cell? ⟨w.heap.size + 1, 1, none⟩ = some (.int .i64 ln) := by rw [cell_blk HI.out.rd]; rfl
      have z1 : wr.frozen? ⟨w.heap.size + 1, 1, none⟩ = false := frozen_blk HI.out.rd
      have HS : Hid (Fr (w.heap.size + 1) w2 (wr.setCell ⟨w.heap.size + 1, 1, none⟩ (.int .i64 ((k : Int) + 1)))) := HI.out.fr.trans (Fr.set HI.out.rd hbt (by decide) _)
      have HR3 : Hid (RdAt (wr.setCell ⟨w.heap.size + 1, 1, none⟩ (.int .i64 ((k : Int) + 1))) (w.heap.size + 1) v ((k : Int) + 1) bg) := set_blk (i := 1) HI.out.rd _
      have HT3 : Hid (Tabs (wr.setCell ⟨w.heap.size + 1, 1, none⟩ (.int .i64 ((k : Int) + 1))) (w.heap.size + 1) v ts) := HI.out.tb.set HI.out.rd (by decide) (by decide) (by decide) (by decide) _
      have HL3 : Hid (StrsAt (wr.setCell ⟨w.heap.size + 1, 1, none⟩ (.int .i64 ((k : Int) + 1))) lb ls) := HI.out.st.fr (B := w.heap.size + 1) (Fr.set HI.out.rd hbt (by decide) _)
      by_cases he : ls[k] = ⟨#[]⟩
      · have HRun : Hid (rLines 1 ls ([], 0) = rLines ((k + 1 : Nat) + 1) (ls.drop (k + 1)) (tbs ts, bg)) := HI.out.run.trans (rLines_skip hlt he)
        have q2 : ls[k].toList = [] := by rw [he, ByteArray.toList_eq]
        clear he
        go_wp2
        go_roundw
        case rel => exact ⟨k + 1, v, ts, (k : Int) + 1, bg, by omega, by go_num, ⟨HRun.out, HR3.out, HT3.out, HL3.out, HS.out⟩⟩
        case measure => simp [intOf]; omega
      · have q2 : ls[k].toList.isEmpty = false := by
          rw [ByteArray.toList_eq]
          cases hc : ls[k].data.toList.isEmpty with
          | false => rfl
          | true => exact absurd (Go.WideShapes.bytes_inj (b := ⟨#[]⟩) (List.isEmpty_iff.1 hc)) he
        have HE : Hid (¬ ls[k] = ⟨#[]⟩) := he
        clear he
        go_upto_region 7 with fail
        obtain ⟨w3, hw3⟩ : ∃ w3, w3 = wr.setCell ⟨w.heap.size + 1, 1, none⟩ (.int .i64 ((k : Int) + 1)) := ⟨_, rfl⟩
        rw [← hw3] at HS HR3 HT3 HL3
        rw [← hw3]
        clear hw3 r1 z1
        have h1w3 : w3.cell? ⟨1, 0, none⟩ = some (.int .i64 mx) := by rw [HS.out.below.cell (by show 1 < w.heap.size + 1; omega)]; exact HMX2.out
        have HM3 : Hid (w3.cell? ⟨1, 0, none⟩ = some (.int .i64 mx)) := h1w3
        have HK3 : Hid (KindsAt w3) := HK2.out.fr HS.out (by omega)
        clear h1w3
        obtain ⟨line, hline⟩ : ∃ z, z = ls[k] := ⟨_, rfl⟩
        rw [← hline] at HZ q2 c0
        have HLn : Hid (line = ls[k]) := hline
        have hz := HZ.out
        rw [← hline]
        clear hline
        go_wp2_with fail
        refine (split_calls line 32 mx _ (by omega) HM3.out).mono ?_
        rintro e w4 ⟨rfl, hS4, hb4⟩
        obtain ⟨wb, hwb⟩ : ∃ wb, wb = w3.heap.size := ⟨_, rfl⟩
        rw [← hwb] at hS4
        rw [← hwb]
        have HR4 := HR3.out.below hb4
        have HT4 := HT3.out.below hb4
        have hb4' : Below w3.heap.size w3 w4 := hb4
        have HC := readLine_calls (w.heap.size + 1) wb (wsOf line 32).length (w.heap.size + 1) v ts ((k : Int) + 1) bg (wsOf line 32) w4 mx hbt HR4 HT4 hS4 (by rw [hb4.cell (by exact World.block_lt_of_cell? w3 _ HM3.out)]; exact HM3.out) (HK3.out.below hb4) (by omega) (Nat.le_refl _) (by rw [wsOf_length]; omega) (by have := wsOf_most line 32; omega) (fun x hx => by have := wsOf_size line 32 x hx; omega)
        have HF4 : Hid (Fr (w.heap.size + 1) w2 w4) := HS.out.trans (Fr.ofBelow hb4 (by have := HS.out.below.size; omega))
        have HL4 : Hid (StrsAt w4 lb ls) := HL3.out.below hb4
        have HCC : Hid (Calls Tryd.prog 28 #[.pointer (some ⟨w.heap.size + 1, 0, none⟩), .slice (some ⟨wb, 0, none⟩) (wsOf line 32).length (wsOf line 32).length] w4 fun e w' => Behind (w.heap.size + 1) w4 (w.heap.size + 1) ((k : Int) + 1) (rLine ((k : Int) + 1) (wsOf line 32) (tbs ts, bg)) e w') := HC
        clear HC HR4 HT4 hS4 hb4 hb4' HR3 HT3 HL3 HS HK3 HM3 hwb
        go_wp2_with fail
        refine HCC.out.mono ?_
        rintro e w5 hbe
        cases h : rLine ((k : Int) + 1) (wsOf line 32) (tbs ts, bg) with
        | error lc =>
          rw [h] at hbe
          obtain ⟨rfl, hF⟩ := hbe
          have HRun : Hid (rLines 1 ls ([], 0) = .error lc) := HI.out.run.trans (rLines_bad hlt HE.out (by rw [← HLn.out]; exact h))
          have HL : Hid (parseP text = .error lc) := by rw [Hid, HO1.out, HRun.out]
          have HF : Hid (Below w.heap.size w w5) := H2.out.trans ((HF4.out.trans hF).below.mono (by omega))
          clear hF h
          go_wp2
          rw [HL.out]
          exact ⟨rfl, rfl, HF.out⟩
        | ok st =>
          rw [h] at hbe
          obtain ⟨rfl, hF, v5, ts5, ht5, hr5, htb5⟩ := hbe
          obtain ⟨us5, bg5⟩ := st
          subst ht5
          have HN : Hid (RdI (w.heap.size + 1) w2 (w.heap.size + 1) lb ls (k + 1) v5 ts5 ((k : Int) + 1) bg5 w5) :=
            ⟨HI.out.run.trans (rLines_next hlt HE.out (by rw [← HLn.out]; exact h)), hr5, htb5, HL4.out.fr hF, HF4.out.trans hF⟩
          clear hF h hr5 htb5
          go_wp2
          go_roundw
          case rel => exact ⟨k + 1, v5, ts5, (k : Int) + 1, bg5, by omega, by go_num, HN.out⟩
          case measure => simp [intOf]; omega
    · obtain rfl : k = ls.length := by omega
      have HRun : Hid (rLines 1 ls ([], 0) = .ok (tbs ts, bg)) := by
        have := HI.out.run
        rw [List.drop_length] at this
        exact this
      have HE := endTable_calls (w.heap.size + 1) (w.heap.size + 1) v ts ln bg wr HI.out.rd HI.out.tb
      cases hb : bareB (tbs ts) with
      | true =>
        have HL : Hid (parseP text = .error (bg, 68)) := by rw [Hid, HO1.out, HRun.out]; simp only [hb, if_true]
        rw [hb, if_pos rfl] at HE
        have HE' : Hid (Calls Tryd.prog 29 #[.pointer (some ⟨w.heap.size + 1, 0, none⟩)] wr fun e w' => e = .panicked [{ v := faultV bg 68, recovered := false }] ∧ ∃ m, w' = wr.drewN m) := HE
        clear HE
        go_wp2_with fail
        refine HE'.out.mono ?_
        rintro e w6 ⟨rfl, m, rfl⟩
        go_wp2
        rw [HL.out]
        exact ⟨rfl, rfl, H2.out.trans ((HI.out.fr.below.mono (by omega)).trans ((below_draws _ _).mono (by have := HI.out.fr.below.size; omega)))⟩
      | false =>
        have HL : Hid (parseP text = .ok (tbs ts)) := by rw [Hid, HO1.out, HRun.out]; simp only [hb]; rfl
        rw [hb, if_neg (by simp)] at HE
        have HE' : Hid (Calls Tryd.prog 29 #[.pointer (some ⟨w.heap.size + 1, 0, none⟩)] wr fun e w' => e = .returned (.tuple #[]) ∧ ∃ m, w' = wr.drewN m) := HE
        clear HE
        go_wp2_with fail
        refine HE'.out.mono ?_
        rintro e w6 ⟨rfl, m, hw6⟩
        have hb6 : Below wr.heap.size wr w6 := hw6 ▸ below_draws wr m
        clear hw6
        have hbr : Below (w.heap.size + 1) w2 w6 := HI.out.fr.below.trans (hb6.mono (by have := HI.out.fr.below.size; omega))
        have HB6 : Hid (w6.heap[w.heap.size]? = some (.cells #[.slice none 0 0] 25)) := (hbr.block _ (by omega)).trans HB2.out
        have HR6 : Hid (RdAt w6 (w.heap.size + 1) v ln bg) := HI.out.rd.below hb6
        have HT6 : Hid (Tabs w6 (w.heap.size + 1) v ts) := HI.out.tb.below hb6
        obtain ⟨ao, tc, rfl, -⟩ := HT6.out.form
        have r0 : w6.cell? ⟨w.heap.size + 1, 0, none⟩ = some (.slice ao ts.length tc) := by rw [cell_blk HR6.out]; rfl
        have s0 : w6.cell? ⟨w.heap.size, 0, none⟩ = some (.slice none 0 0) := by rw [cell_blk HB6.out]; rfl
        have z0 : w6.frozen? ⟨w.heap.size, 0, none⟩ = false := frozen_blk HB6.out
        have HTn : Hid (Tabs (w6.setCell ⟨w.heap.size, 0, none⟩ (.slice ao ts.length tc)) w.heap.size (.slice ao ts.length tc) ts) := (HT6.out.set HB6.out (by decide) (by decide) (by decide) (by decide) _).mono (by omega)
        have HBn : Hid (Below w.heap.size w (w6.setCell ⟨w.heap.size, 0, none⟩ (.slice ao ts.length tc))) := (H2.out.trans (hbr.mono (by omega))).setCell (Nat.le_refl _) _
        have sn : (w6.setCell ⟨w.heap.size, 0, none⟩ (.slice ao ts.length tc)).cell? ⟨w.heap.size, 0, none⟩ = some (.slice ao ts.length tc) := by rw [cell_blk (set_blk (i := 0) HB6.out _)]; rfl
        go_wp2
        refine bodyPost_ret (v := .agg #[.slice ao ts.length tc]) (by simp [results, Tryd.results14, go_sem, sn]) rfl ?_
        rw [HL.out]
        exact ⟨HBn.out, ao, tc, ts, rfl, rfl, HTn.out⟩
end Go.Proofs.YtbpmahchinblhaaDoor
