/- Layer 7 (rows): RowsLists, the walk. -/
import Derived.Test.YtjbnbpclelbohaaRwListM
import Derived.Test.YtjbnbpclelbohaaRwTable
import Derived.Test.YtjbnbpclelbohaaRwTableQ
import Derived.Test.YtjbnbpclelbohaaRwFixedL
import Derived.Test.YtjbnbpclelbohaaRwLowR
import Derived.Test.YtjbnbpclelbohaaRwPutW
import Derived.Test.YtjbnbpclelbohaaRwCopy
import Derived.Deep.QuietTactic
import Derived.BigQuiet
namespace Go.Proofs.Ytjbnbpclelbohaa
open Go.RowKit
set_option linter.unusedVariables false
attribute [local go_sem] Oper.semAt_some

theorem lst_row {w6 : World} {g k c5 : Nat} {a5 : Option Addr} {ls : List ByteArray} (hk : k = ls.length) (hx : w6.heap[g]? = some (.cells #[.string ⟨#[110]⟩, .int .u64 0, .slice none 0 0, .string ⟨#[]⟩, .int .u64 0, .slice a5 k c5] 55)) (hl : CellsAt w6 a5 (ls.map Value.string)) (hs : ∀ s ∈ ls, s.size ≤ 140737488351232) (hn : ls.length ≤ 8796093022208) : RowAt w6 (some ⟨g, 0, none⟩) (lstCs ls a5 c5) := by
  refine ⟨fun _ => ⟨g, 0, rfl, fun j u hj => ?_⟩, fun c hc => ?_, fun c hc => ?_⟩
  · rw [Nat.zero_add, cell_blk hx]
    have hcc : ccs (lstCs ls a5 c5) = [.string ⟨#[110]⟩, .int .u64 0, .slice none 0 0, .string ⟨#[]⟩, .int .u64 0, .slice a5 k c5] := by
      rw [hk]
      rfl
    rw [hcc] at hj
    simpa using hj
  · simp only [lstCs, List.mem_cons, List.not_mem_nil, or_false] at hc
    rcases hc with rfl | rfl
    · exact fun h => absurd rfl h
    · exact hl
  · simp only [lstCs, List.mem_cons, List.not_mem_nil, or_false] at hc
    rcases hc with rfl | rfl
    · exact ⟨show (1 : Nat) ≤ _ by decide, ⟨show (0 : Int) ≤ 0 by decide, show (0 : Int) ≤ 18446744073709551615 by decide⟩, fun s hs => by simp at hs, show (0 : Nat) ≤ _ by decide⟩
    · exact ⟨show (0 : Nat) ≤ _ by decide, ⟨show (0 : Int) ≤ 0 by decide, show (0 : Int) ≤ 18446744073709551615 by decide⟩, hs, hn⟩
theorem beq_ba (u s : ByteArray) : (u.toList == s.toList) = decide (u = s) := by
  rw [ByteArray.toList_eq, ByteArray.toList_eq]
  by_cases h : u = s
  · subst h; simp
  · have h2 : (u.data.toList == s.data.toList) = false := by
      cases hb : (u.data.toList == s.data.toList) with
      | true => exact absurd (bytes_ext (eq_of_beq hb)) h
      | false => rfl
    rw [h2, decide_eq_false h]
theorem emp_ba (s : ByteArray) : (s.toList == []) = s.toList.isEmpty := by cases s.toList <;> rfl
theorem info_strs2 : (Try.prog.info? 9).map (fun i => (i.zero, i.size, i.bytes)) = some (some (.string ⟨#[]⟩), 1, 16) := by kernel_rfl
theorem uq_le (es : List ByteArray) : (uqL es).length ≤ es.length := by
  have : ∀ (es us : List ByteArray), (es.foldl uqStep us).length ≤ us.length + es.length := by
    intro es
    induction es with
    | nil => intro us; simp
    | cons e es ih =>
      intro us
      rw [List.foldl_cons]
      have h1 := ih (uqStep us e)
      have h2 : (uqStep us e).length ≤ us.length + 1 := by unfold uqStep; split <;> simp
      simp only [List.length_cons]
      omega
  have := this es []
  simpa [uqL] using this

set_option maxRecDepth 100000 in
set_option maxHeartbeats 8000000 in
theorem rowsLists_false (la : Option Addr) (lc : Nat) (ls : List ByteArray) (w : World) (hl : ls.length ≤ 8796093022208) (hs : ∀ s ∈ ls, s.size ≤ 140737488351232) (ha : CellsAt w la (ls.map Value.string)) :
    Calls Try.prog 6 #[.slice la ls.length lc, .bool false] w fun e w' => e = .returned (.bool true) ∧ Below w.heap.size w w' := by
  have HA : Hid (CellsAt w la (ls.map Value.string)) := ha
  have HS : Hid (∀ s ∈ ls, s.size ≤ 140737488351232) := hs
  clear ha hs
  obtain ⟨n, hn⟩ : ∃ n, n = ls.length := ⟨_, rfl⟩
  have HN : Hid (n = ls.length) := hn
  rw [← hn] at hl ⊢
  clear hn
  go_enter Try.func6, Try.ntmps6
  go_wp2_with fail
  refine (rowsFixed_calls w).mono ?_
  rintro e w1 ⟨rfl, hb1⟩
  have HB1 : Hid (Below w.heap.size w w1) := hb1
  clear hb1
  by_cases h32 : 32 < n
  · have q : (32 : Int) < (n : Int) := by omega
    go_wp2
    go_ret
    exact ⟨rfl, HB1.out⟩
  have hn32 : ¬ ((32 : Int) < (n : Int)) := by omega
  have hn32' : n ≤ 32 := by omega
  clear h32
  go_wp2_with fail
  refine (tableQ_calls (lstT false) 0 w1 (by decide) ⟨by decide, by decide⟩).mono ?_
  rintro e w2 ⟨hb2, hor⟩
  have HB2 : Hid (Below w.heap.size w w2) := HB1.out.trans (hb2.mono HB1.out.size)
  clear hb2 HB1
  rcases hor with ⟨t, us0, ht, -, hpa, hmem, rfl⟩ | ⟨hno, rfl⟩
  case inr => exact absurd (hno _ (lst_parse false)) (by simp)
  have htb : t.tb = lstTb false := by
    rw [lst_parse] at hpa
    obtain rfl := Except.ok.inj hpa
    simpa using hmem
  have HTB : Hid (t.tb = lstTb false) := htb
  have HTR : Hid (TRd w2 t) := ht
  clear ht hpa hmem htb
  go_upto_region 9 with fail
  obtain ⟨w3, hw3⟩ : ∃ w3, w3 = w2.alloc (.cells #[.string t.n, .slice t.fa t.fs.length t.fc, .slice t.xa t.xs.length t.xc] 29) := ⟨_, rfl⟩
  rw [← hw3]
  have hb3 : Below w2.heap.size w2 w3 := by rw [hw3]; exact (Below.refl _ _).alloc (Nat.le_refl _) _
  have HT3 : Hid (w3.heap[w2.heap.size]? = some (.cells #[.string t.n, .slice t.fa t.fs.length t.fc, .slice t.xa t.xs.length t.xc] 29)) := by rw [Hid, hw3]; exact new_blk _ _
  have HB3 : Hid (Below w.heap.size w w3) := HB2.out.trans (hb3.mono HB2.out.size)
  have HTR3 : Hid (TRd w3 t) := HTR.out.below hb3
  have HA3 : Hid (CellsAt w3 la (ls.map Value.string)) := HA.out.below HB3.out
  have HU4 : Hid ((w3.alloc (.cells #[] 9)).ownsRow w3.heap.size 9 1 (.slice (some ⟨w3.heap.size, 0, none⟩) 0 0) 0 []) := World.ownsRow_lit (size := 1) w3 #[] 0 (Nat.le_refl _) (by unfold maxLen; omega) rfl
  have HB4 : Hid (Below w3.heap.size w3 (w3.alloc (.cells #[] 9))) := (Below.refl _ _).alloc (Nat.le_refl _) _
  clear hw3 hb3 HB2 HTR HA
  go_wp2
  go_loopw [8, 10, 11, 13, 40] (fun v8 v10 v11 v13 i wr => ∃ (k : Nat) (a8 : Option Addr) (c8 : Nat) (us : List ByteArray), k ≤ n ∧ i = .int .i64 k ∧ v8 = .slice a8 us.length c8 ∧ us.length ≤ k ∧ Hid (us = uqL ((ls.take k).map (lowIfS false))) ∧ Hid (∀ e ∈ ls.take k, (lowIfS false e).size ≤ 400) ∧ Hid (wr.ownsRow w3.heap.size 9 1 (.slice a8 us.length c8) us.length (us.map Value.string)) ∧ Hid (Below w3.heap.size w3 wr)) (fun _ _ _ _ i _ => n - (intOf i).toNat)
  case atStart => exact ⟨0, _, _, [], Nat.zero_le _, rfl, rfl, Nat.le_refl _, rfl, fun e he => by simp at he, HU4, HB4⟩
  case round =>
    obtain ⟨k, a8, c8, us, hk, rfl, rfl, hul, HU, HZ, HO, HB⟩ := hrel
    clear HU4 HB4
    by_cases hlt : k < n
    · have hlt' : k < ls.length := by rw [← HN.out]; exact hlt
      obtain ⟨lb, lo, rfl, c0⟩ := (HA3.out.below HB.out).str k hlt'
      have HSK : Hid (ls[k].size ≤ 140737488351232) := HS.out _ (List.getElem_mem hlt')
      have HUS : Hid (uqL ((ls.take (k + 1)).map (lowIfS false)) = uqStep us (lowIfS false ls[k])) := by rw [Hid, List.take_succ_eq_append_getElem hlt', List.map_append, HU.out, ← uqL_snoc]; rfl
      have HZS : Hid ((lowIfS false ls[k]).size ≤ 400 → ∀ e ∈ ls.take (k + 1), (lowIfS false e).size ≤ 400) := fun h e he => by
        rw [List.take_succ_eq_append_getElem hlt'] at he
        rcases List.mem_append.1 he with he | he
        · exact HZ.out e he
        · simp only [List.mem_singleton] at he; subst he; exact h

      have HLE : Hid (lowIfS false ls[k] = ls[k]) := rfl
      rw [HLE.out] at HUS HZS
      generalize ls[k] = s at *
      clear HLE
      obtain ⟨wq, hwq⟩ : ∃ wq, wq = wr := ⟨_, rfl⟩
      rw [← hwq] at HB HO c0 ⊢
      have HBq : Hid (Below w3.heap.size w3 wq) := HB.out
      have HOq : Hid (wq.ownsRow w3.heap.size 9 1 (.slice a8 us.length c8) us.length (us.map Value.string)) := HO.out
      clear hwq HB HO HU HZ

      have hem := emp_ba s
      obtain ⟨em, hemE⟩ : ∃ em, em = s.toList.isEmpty := ⟨_, rfl⟩
      rw [← hemE] at hem
      have HEM : Hid (em = s.toList.isEmpty) := hemE
      clear hemE
      obtain ⟨sz, hsz⟩ : ∃ sz, sz = s.size := ⟨_, rfl⟩
      have HSZ : Hid (sz = s.size) := hsz
      have hsz2 : s.size = sz := hsz.symm
      clear hsz
      by_cases h400 : 400 < sz
      · have q : (400 : Int) < (sz : Int) := by omega
        cases em
        all_goals
          go_wp2
          go_ret
          exact ⟨rfl, HB3.out.trans (HBq.out.mono HB3.out.size)⟩
      have q400 : ¬ ((400 : Int) < (sz : Int)) := by omega
      have HZ2 : Hid (∀ e ∈ ls.take (k + 1), (lowIfS false e).size ≤ 400) := HZS.out (by omega)
      clear HZS h400
      obtain ⟨m, hm⟩ : ∃ m, m = us.length := ⟨_, rfl⟩
      have HM : Hid (m = us.length) := hm
      have HOm : Hid (wq.ownsRow w3.heap.size 9 1 (.slice a8 m c8) m (us.map Value.string)) := by rw [Hid, hm]; exact HOq.out
      rw [← hm] at hul ⊢
      clear hm
      go_wp2
      go_loopw [11, 13, 54] (fun v11 v13 i wr => ∃ (j : Nat) (kn : Bool), j ≤ m ∧ i = .int .i64 j ∧ v11 = .bool kn ∧ Hid (kn = (em || (us.take j).any fun u => decide (u = s))) ∧ Hid (wr = wq)) (fun _ _ i _ => m - (intOf i).toNat)
      case atStart => exact ⟨0, em, Nat.zero_le _, rfl, by first | rfl | exact congrArg Value.bool hem, by simp [Hid], rfl⟩
      case round =>
        obtain ⟨j, kn, hj, rfl, rfl, HKN, HW⟩ := hrel
        by_cases hjt : j < m
        · have hjt' : j < us.length := by rw [← HM.out]; exact hjt
          obtain ⟨ub, uo, rfl, d0⟩ := (show CellsAt wr a8 (us.map Value.string) by rw [HW.out]; exact row_cells HOm.out).str j hjt'
          have hbe := beq_ba us[j] s
          have HNX : Hid ((em || (us.take (j + 1)).any fun u => decide (u = s)) = (kn || decide (us[j] = s))) := by rw [Hid, List.take_succ_eq_append_getElem hjt', List.any_append, HKN.out, Bool.or_assoc]; simp
          generalize us[j] = u at *
          cases kn with
          | true =>
            have HK2 : Hid (true = (em || (us.take (j + 1)).any fun u => decide (u = s))) := by rw [Hid, HNX.out]; simp
            go_wp2
            go_roundw
            case rel => exact ⟨j + 1, true, by omega, by go_num, rfl, HK2, HW⟩
            case measure => simp [intOf]; omega
          | false =>
            by_cases hus : u = s
            · have HK2 : Hid (true = (em || (us.take (j + 1)).any fun u => decide (u = s))) := by rw [Hid, HNX.out]; simp [hus]
              have q1 : (u.toList == s.toList) = true := by rw [hbe]; simpa using hus
              clear hbe
              go_wp2
              go_roundw
              case rel => exact ⟨j + 1, true, by omega, by go_num, rfl, HK2, HW⟩
              case measure => simp [intOf]; omega
            · have HK2 : Hid (false = (em || (us.take (j + 1)).any fun u => decide (u = s))) := by rw [Hid, HNX.out]; simp [hus]
              have q1 : (u.toList == s.toList) = false := by rw [hbe]; simpa using hus
              clear hbe
              go_wp2
              go_roundw
              case rel => exact ⟨j + 1, false, by omega, by go_num, rfl, HK2, HW⟩
              case measure => simp [intOf]; omega
        · obtain rfl : j = m := by omega
          rw [List.take_of_length_le (by rw [← HM.out]; omega)] at HKN
          have HBr : Hid (Below w3.heap.size w3 wr) := by rw [HW.out]; exact HBq.out
          have HOr : Hid (wr.ownsRow w3.heap.size 9 1 (.slice a8 j c8) j (us.map Value.string)) := by rw [HW.out]; exact HOm.out
          clear HW HOm HOq HBq
          cases kn with
          | true =>
            have HU2 : Hid (us = uqL ((ls.take (k + 1)).map (lowIfS false))) := by rw [Hid, HUS.out]; unfold uqStep; rw [← HEM.out, ← HKN.out, if_pos rfl]
            have HO2 : Hid (wr.ownsRow w3.heap.size 9 1 (.slice a8 us.length c8) us.length (us.map Value.string)) := by rw [← HM.out]; exact HOr.out
            have hjm := HM.out
            rw [hjm]
            go_wp2
            go_roundw
            case rel => exact ⟨k + 1, a8, c8, us, by omega, by go_num, rfl, by omega, HU2, HZ2, HO2, HBr⟩
            case measure => simp [intOf]; omega
          | false =>
            have HU2 : Hid (us ++ [s] = uqL ((ls.take (k + 1)).map (lowIfS false))) := by rw [Hid, HUS.out]; unfold uqStep; rw [← HEM.out, ← HKN.out, if_neg (by simp)]
            have hBr : w3.heap.size ≤ wr.heap.size := HBr.out.size
            have hrow := HOr.out
            go_wp2_with (at_builtin; refine append_row _ rfl (.tmp 67) (.tmp 69) _ 9 _ 1 16 Try.underlying39 info_str rfl (by decide) rfl w3.heap.size _ j _ rfl [.string s] rfl (by simp [Value.oneCell']) _ _ rfl rfl rfl hrow (by omega) (by omega) hBr ?_)
            intro v6 w6 hr6 hg6
            obtain ⟨us2, hus2⟩ : ∃ us2, us2 = us ++ [s] := ⟨_, rfl⟩
            have hl2 : us2.length = j + 1 := by rw [hus2, List.length_append, ← HM.out]; rfl
            have HO6 : Hid (w6.ownsRow w3.heap.size 9 1 v6 us2.length (us2.map Value.string)) := by rw [Hid, hl2, hus2, List.map_append]; exact hr6
            have HB6 : Hid (Below w3.heap.size w3 w6) := HBr.out.trans (hg6.toBelow hBr fun q hq => (World.ownsRow.lt hrow q hq).1)
            obtain ⟨a6, c6, rfl, -⟩ := row_forms hr6
            rw [← hus2] at HU2
            rw [← hl2] at HO6 ⊢
            have hlu : us2.length ≤ k + 1 := by omega
            clear hr6 hg6 hrow hus2 hl2
            go_wp2
            go_roundw
            case rel => exact ⟨k + 1, a6, c6, us2, by omega, by go_num, rfl, hlu, HU2, HZ2, HO6, HB6⟩
            case measure => simp [intOf]; omega
    · obtain rfl : k = n := by omega
      rw [List.take_of_length_le (by rw [← HN.out]; omega)] at HU HZ

      have HBw : Hid (Below w.heap.size w wr) := HB3.out.trans (HB.out.mono HB3.out.size)
      have HTr : Hid (wr.heap[w2.heap.size]? = some (.cells #[.string t.n, .slice t.fa t.fs.length t.fc, .slice t.xa t.xs.length t.xc] 29)) := (HB.out.block _ (lt_blk HT3.out)).trans HT3.out
      have HTRr : Hid (TRd wr t) := HTR3.out.below HB.out
      have HAr : Hid (CellsAt wr la (ls.map Value.string)) := HA3.out.below HB.out
      clear HT3 HTR3 HA3
      go_upto_region 28 with fail
      have HSM : Hid (Small400 false ls) := HZ.out
      have HKY : Hid (∀ la lc, keysP t.tb 1 (lstCs ls la lc) = (keysL false ls, 0)) := fun la lc => by rw [HTB.out]; exact lst_keys HZ.out (by rw [← HN.out]; exact hn32') la lc
      have HKL : Hid ((keysL false ls).length = us.length) := by rw [Hid, keysL_len HZ.out, HU.out]
      have e0 : wr.cell? ⟨w2.heap.size, 0, none⟩ = some (.string t.n) := by rw [cell_blk HTr.out]; rfl
      have e1 : wr.cell? ⟨w2.heap.size, 1, none⟩ = some (.slice t.fa t.fs.length t.fc) := by rw [cell_blk HTr.out]; rfl
      have e2 : wr.cell? ⟨w2.heap.size, 2, none⟩ = some (.slice t.xa t.xs.length t.xc) := by rw [cell_blk HTr.out]; rfl
      have hl2 : w2.heap.size < wr.heap.size := lt_blk HTr.out
      have HSK : Hid (∀ W, Below wr.heap.size wr W → W.cell? ⟨w2.heap.size, 0, none⟩ = some (.string t.n) ∧ W.cell? ⟨w2.heap.size, 1, none⟩ = some (.slice t.fa t.fs.length t.fc) ∧ W.cell? ⟨w2.heap.size, 2, none⟩ = some (.slice t.xa t.xs.length t.xc)) := fun W hW => ⟨by rw [hW.cell (by exact hl2)]; exact e0, by rw [hW.cell (by exact hl2)]; exact e1, by rw [hW.cell (by exact hl2)]; exact e2⟩
      have hbd : Below wr.heap.size wr wr.drew := ⟨rfl, rfl, rfl, Nat.le_refl _, fun _ _ => rfl⟩
      have hbe : Below wr.heap.size wr (wr.drew.alloc (.cells #[] 9)) := hbd.alloc hbd.size _
      have HOE : Hid ((wr.drew.alloc (.cells #[] 9)).ownsRow wr.heap.size 9 1 (.slice (some ⟨wr.drew.heap.size, 0, none⟩) 0 0) 0 []) := World.ownsRow_lit (size := 1) wr.drew #[] 0 hbd.size (by unfold maxLen; omega) rfl
      have HAE : Hid (CellsAt (wr.drew.alloc (.cells #[] 9)) la (ls.map Value.string)) := HAr.out.below hbe
      have hBE : wr.heap.size ≤ (wr.drew.alloc (.cells #[] 9)).heap.size := hbe.size
      have hsl : (ls.map Value.string).length = k * 1 := by rw [List.length_map, ← HN.out, Nat.mul_one]
      have HBE : Hid (Below wr.heap.size wr (wr.drew.alloc (.cells #[] 9))) := hbe
      clear hbd hbe
      go_region_held_law (fun W => W.cell? ⟨w2.heap.size, 0, none⟩ = some (.string t.n) ∧ W.cell? ⟨w2.heap.size, 1, none⟩ = some (.slice t.fa t.fs.length t.fc) ∧ W.cell? ⟨w2.heap.size, 2, none⟩ = some (.slice t.xa t.xs.length t.xc)) (first | (exact q8) | (exact q6) | (exact q5) | go_keep)
        (first
          | (refine step_append_src _ (by rfl) (.tmp 75) (.tmp 76) 39 9 _ 1 16 Try.underlying39 info_str rfl (by decide) (by rfl) wr.heap.size _ 0 [] (by rfl) HOE.out la k lc (ls.map Value.string) (by rfl) hsl HAE.out (str_one _) (by unfold maxLen; omega) (by omega) hBE ?_
             intro v5 w5 ho5 hg5
             have HO5 : Hid (w5.ownsRow wr.heap.size 9 1 v5 k (ls.map Value.string)) := by rw [Hid]; simpa using ho5
             have HB5 : Hid (Below wr.heap.size wr w5) := HBE.out.trans (hg5.toBelow hBE fun q hq => (World.ownsRow.lt HOE.out q hq).1)
             obtain ⟨a5, c5, rfl, -⟩ := row_forms HO5.out
             have q5 := HSK.out w5 HB5.out
             obtain ⟨w6, hw6⟩ : ∃ w6, w6 = w5.alloc (.cells #[.string ⟨#[110]⟩, .int .u64 0, .slice none 0 0, .string ⟨#[]⟩, .int .u64 0, .slice a5 k c5] 55) := ⟨_, rfl⟩
             have HB56 : Hid (Below w5.heap.size w5 w6) := by rw [hw6]; exact (Below.refl _ _).alloc (Nat.le_refl _) _
             have HB6 : Hid (Below wr.heap.size wr w6) := HB5.out.trans (HB56.out.mono HB5.out.size)
             have HX6 : Hid (w6.heap[w5.heap.size]? = some (.cells #[.string ⟨#[110]⟩, .int .u64 0, .slice none 0 0, .string ⟨#[]⟩, .int .u64 0, .slice a5 k c5] 55)) := by rw [Hid, hw6]; exact new_blk _ _
             have q6 := HSK.out w6 HB6.out
             have HRW : Hid (RowAt w6 (some ⟨w5.heap.size, 0, none⟩) (lstCs ls a5 c5)) := lst_row HN.out HX6.out ((row_cells HO5.out).below HB56.out) HS.out (by rw [← HN.out]; omega)
             have HKC := keys_calls t 1 (some ⟨w5.heap.size, 0, none⟩) 2 (lstCs ls a5 c5) w6 ⟨by decide, by decide⟩ (by show 2 ≤ _; omega) (HTRr.out.below HB6.out) HRW.out
             rw [HKY.out] at HKC
             have HKC : Hid (Calls Try.prog 13 #[.agg #[.string t.n, .slice t.fa t.fs.length t.fc, .slice t.xa t.xs.length t.xc], .int .i64 1, .agg #[.slice (some ⟨w5.heap.size, 0, none⟩) 2 2]] w6 fun e w' => ∃ v, e = .returned (.tuple #[v, .int .i64 0]) ∧ KeysAt w' w6.heap.size v (keysL false ls) ∧ Below w6.heap.size w6 w') := HKC
             rw [hw6] at HKC q6
             clear ho5 hg5 HRW HX6 HO5)
          | (go_simp
             go_at_call 13
             refine HKC.out.mono ?_
             rintro e w8 ⟨v8, rfl, hk8, hb8⟩
             rw [← hw6] at hk8 hb8
             have HK8 : Hid (KeysAt w8 w6.heap.size v8 (keysL false ls)) := hk8
             have HB8 : Hid (Below wr.heap.size wr w8) := HB6.out.trans (hb8.mono HB6.out.size)
             have q8 := HSK.out w8 HB8.out
             clear hk8 hb8
             dsimp only))
      all_goals clear q5 q6 q8 HKC hw6
      obtain ⟨a9, c9, rfl, -⟩ := row_forms HK8.out
      obtain ⟨K, hK⟩ : ∃ K, K = keysL false ls := ⟨_, rfl⟩
      have HKE : Hid (K = keysL false ls) := hK
      rw [← hK] at HK8 HKL ⊢
      clear hK e0 e1 e2
      have HKQ : Hid (K.length = us.length) := HKL.out
      have HU8 : Hid (w8.ownsRow w3.heap.size 9 1 (.slice a8 us.length c8) us.length (us.map Value.string)) := row_below HO.out HB8.out
      have HT8 : Hid (w8.heap[w2.heap.size]? = some (.cells #[.string t.n, .slice t.fa t.fs.length t.fc, .slice t.xa t.xs.length t.xc] 29)) := (HB8.out.block _ (lt_blk HTr.out)).trans HTr.out
      have HTR8 : Hid (TRd w8 t) := HTRr.out.below HB8.out
      have HBw8 : Hid (Below w.heap.size w w8) := HBw.out.trans (HB8.out.mono HBw.out.size)
      have hlk : us.length ≤ 32 := by omega
      obtain ⟨m, hm⟩ : ∃ m, m = us.length := ⟨_, rfl⟩
      have HM : Hid (m = us.length) := hm
      have HMK : Hid (m = K.length) := hm.trans HKQ.out.symm
      rw [HKL.out, ← hm]
      rw [← hm] at hlk
      clear hm HKL HKQ HO HB HBw HTr HTRr HAr HOE HAE HBE hBE hsl HB5 HB56 HB6 HB8 HSK HKY hul
      have q1 : ((m : Int) == (m : Int)) = true := beq_self_eq_true _
      go_wp2
      go_loopw [16] (fun i wr => ∃ j : Nat, (j ≤ m ∨ j = 0) ∧ i = .int .i64 ((j : Int) + 1) ∧ Hid (Below w8.heap.size w8 wr)) (fun i _ => m + 1 - (intOf i).toNat)
      case atStart => exact ⟨0, .inr rfl, rfl, Below.refl _ _⟩
      case round =>
        obtain ⟨j, hj, rfl, HB⟩ := hrel
        by_cases hjt : j + 1 < m
        · have hj1 : j + 1 < K.length := by rw [← HMK.out]; exact hjt
          have hcel := (row_cells HK8.out).below HB.out
          obtain ⟨kb, ko, rfl, hcc⟩ := hcel (by intro e; have := congrArg List.length e; rw [List.length_map, List.length_nil] at this; omega)
          have c0 : wr.cell? ⟨kb, ko + j, none⟩ = some (.string ⟨K[j].toArray⟩) := hcc _ _ (by simp [show j < K.length by omega])
          have c1 : wr.cell? ⟨kb, ko + (j + 1), none⟩ = some (.string ⟨K[j + 1].toArray⟩) := hcc _ _ (by simp [hj1])
          have hls : K[j] < K[j + 1] := by
            have := keysL_less false ls j (by rw [← HKE.out]; exact hj1)
            simpa only [← HKE.out] using this
          have q2 : Op.bytesLess (⟨K[j].toArray⟩ : ByteArray).toList (⟨K[j + 1].toArray⟩ : ByteArray).toList = true := by rw [less_bs]; simpa using hls
          have q3 : Op.bytesLess K[j] K[j + 1] = true := by rw [bytesLess_eq]; simpa using hls
          generalize K[j] = x at *
          generalize K[j + 1] = y at *
          have hi1 : (j : Int) + 1 < (m : Int) := by omega
          have hi2 : (j : Int) < (m : Int) := by omega
          have hi3 : (0 : Int) ≤ (j : Int) := by omega
          have hi4 : (0 : Int) ≤ (j : Int) + 1 := by omega
          have hi5 : (j : Int) + 1 - 1 = (j : Int) := by omega
          have hi6 : ((j : Int) + 1).toNat = j + 1 := by omega
          clear hcel hcc hls
          go_wp2
          go_quiet (fail)
          go_wp2
          go_roundw
          case rel => exact ⟨j + 1, .inl (by omega), by go_num, by first | exact HB | exact below_drewN HB.out _⟩
          case measure => simp [intOf]; omega
        · have q2 : ¬ ((j : Int) + 1 < (m : Int)) := by omega
          have HBv : Hid (Below w8.heap.size w8 wr) := HB.out
          obtain ⟨w9, hw9⟩ : ∃ w9, w9 = wr := ⟨_, rfl⟩
          have HB9 : Hid (Below w8.heap.size w8 w9) := by rw [hw9]; exact HB.out
          rw [← hw9]
          clear hw9 HB HBv hj hjt
          go_wp2
          go_loopw [18, 19, 20, 21, 23, 111] (fun v18 v19 v20 v21 v23 i wr => ∃ k : Nat, k ≤ m ∧ i = .int .i64 k ∧ Hid (Below w8.heap.size w8 wr)) (fun _ _ _ _ _ i _ => m - (intOf i).toNat)
          case atStart => exact ⟨0, Nat.zero_le _, rfl, HB9⟩
          case round =>
            obtain ⟨k, hk, rfl, HB⟩ := hrel
            by_cases hkt : k < m
            · have hku : k < us.length := by rw [← HM.out]; exact hkt
              obtain ⟨ub, uo, rfl, d0⟩ := ((row_cells HU8.out).below HB.out).str k hku
              have hmu : us[k] ∈ uqL (ls.map (lowIfS false)) := (fun (x : ByteArray) (hx : x ∈ us) => by rw [← HU.out]; exact hx : ∀ x ∈ us, x ∈ uqL (ls.map (lowIfS false))) _ (List.getElem_mem hku)
              have hus := uq_small HSM.out _ hmu
              have HT10 : Hid (wr.heap[w2.heap.size]? = some (.cells #[.string t.n, .slice t.fa t.fs.length t.fc, .slice t.xa t.xs.length t.xc] 29)) := (HB.out.block _ (lt_blk HT8.out)).trans HT8.out
              have e0 : wr.cell? ⟨w2.heap.size, 0, none⟩ = some (.string t.n) := by rw [cell_blk HT10.out]; rfl
              have e1 : wr.cell? ⟨w2.heap.size, 1, none⟩ = some (.slice t.fa t.fs.length t.fc) := by rw [cell_blk HT10.out]; rfl
              have e2 : wr.cell? ⟨w2.heap.size, 2, none⟩ = some (.slice t.xa t.xs.length t.xc) := by rw [cell_blk HT10.out]; rfl
              obtain ⟨w10, hw10⟩ : ∃ w10, w10 = wr.alloc (.cells #[.int .i64 1, .string us[k], .int .u64 0] 57) := ⟨_, rfl⟩
              have hb10 : Below wr.heap.size wr w10 := by rw [hw10]; exact (Below.refl _ _).alloc (Nat.le_refl _) _
              have HX10 : Hid (w10.heap[wr.heap.size]? = some (.cells #[.int .i64 1, .string us[k], .int .u64 0] 57)) := by rw [Hid, hw10]; exact new_blk _ _
              have HB10 : Hid (Below w8.heap.size w8 w10) := HB.out.trans (hb10.mono HB.out.size)
              have HPA : Hid (PartsAt w10 (some ⟨wr.heap.size, 0, none⟩) [⟨1, us[k], 0⟩]) := by
                intro i p hp
                have hi0 : i = 0 := by have := (List.getElem?_eq_some_iff.1 hp).1; simp at this; exact this
                subst hi0
                simp at hp
                subst hp
                exact ⟨wr.heap.size, 0, rfl, by rw [cell_blk HX10.out]; rfl, by rw [cell_blk HX10.out]; rfl, by rw [cell_blk HX10.out]; rfl, (pl_text (by omega)).2⟩
              have HPC := probe_calls t 1 wr.heap.size 0 1 [⟨1, us[k], 0⟩] false w10 ⟨by decide, by decide⟩ (by show 1 ≤ _; omega) (HTR8.out.below HB10.out) HPA.out
              rw [HTB.out, lst_probe hus (uq_low hmu)] at HPC
              have HPC : Hid (Calls Try.prog 17 #[.agg #[.string t.n, .slice t.fa t.fs.length t.fc, .slice t.xa t.xs.length t.xc], .int .i64 1, .slice (some ⟨wr.heap.size, 0, none⟩) 1 1, .bool false] w10 fun e w' => e = .returned (.tuple #[.string ⟨(enc false [⟨1, us[k], 0⟩]).toArray⟩, .int .i64 0]) ∧ Below w10.heap.size w10 w') := HPC
              have HHI : Hid ((K.filter fun x => startsB x (enc false [⟨1, us[k], 0⟩])).length = 1) := by rw [Hid, HKE.out]; exact hits_one HSM.out hmu
              have HPL : Hid ((enc false [⟨1, us[k], 0⟩]).length ≤ 809) := enc1_len hus
              rw [hw10] at HPC
              clear hb10 HPA HX10 hmu hus
              generalize enc false [⟨1, us[k], 0⟩] = P at *
              go_wp2_with fail
              refine HPC.out.mono ?_
              clear HPC
              rintro e w11 ⟨rfl, hb11⟩
              rw [← hw10] at hb11
              have HB11 : Hid (Below w8.heap.size w8 w11) := HB10.out.trans (hb11.mono HB10.out.size)
              clear hb11 hw10 HB10 HB e0 e1 e2 d0 HT10
              go_wp2
              go_loopw [21, 23, 125] (fun v21 v23 i wr => ∃ (j h : Nat), j ≤ m ∧ i = .int .i64 j ∧ v21 = .int .i64 h ∧ h ≤ j ∧ Hid (h = ((K.take j).filter fun x => startsB x P).length) ∧ Hid (wr = w11)) (fun _ _ i _ => m - (intOf i).toNat)
              case atStart => exact ⟨0, 0, Nat.zero_le _, rfl, rfl, Nat.le_refl _, rfl, rfl⟩
              case round =>
                obtain ⟨j, h, hj, rfl, rfl, hhj, HH, HW⟩ := hrel
                by_cases hjt : j < m
                · have hjk : j < K.length := by rw [← HMK.out]; exact hjt
                  obtain ⟨kb, ko, rfl, hcc⟩ := (show CellsAt wr a9 (K.map encS) by rw [HW.out]; exact (row_cells HK8.out).below HB11.out) (by intro e; have := congrArg List.length e; rw [List.length_map, List.length_nil] at this; omega)
                  have c0 : wr.cell? ⟨kb, ko + j, none⟩ = some (.string ⟨K[j].toArray⟩) := hcc _ _ (by simp [hjk])
                  have hkl : K[j].length ≤ 820 := by
                    have := keysL_le false ls HSM.out K[j] (by rw [← HKE.out]; exact List.getElem_mem hjk)
                    exact this
                  have HHS : Hid (((K.take (j + 1)).filter fun x => startsB x P).length = h + (if startsB K[j] P then 1 else 0)) := by
                    rw [Hid, List.take_succ_eq_append_getElem hjk, List.filter_append, List.length_append, ← HH.out]
                    cases hs : startsB K[j] P <;> simp [hs]
                  have HSC := starts_calls ⟨K[j].toArray⟩ ⟨P.toArray⟩ wr (by show K[j].toArray.size ≤ _; simp; omega) (by show P.toArray.size ≤ _; have := HPL.out; simp; omega)
                  have HSC : Hid (Calls Try.prog 18 #[.string ⟨K[j].toArray⟩, .string ⟨P.toArray⟩] wr fun e w' => e = .returned (.bool (startsB K[j] P)) ∧ w' = wr) := by rw [Hid]; simpa using HSC
                  clear hkl hcc
                  generalize startsB K[j] P = sb at *
                  generalize K[j] = x at *
                  go_wp2_with fail
                  refine HSC.out.mono ?_
                  clear HSC
                  rintro e w12 ⟨rfl, hw12⟩
                  rw [hw12]
                  clear hw12
                  cases sb with
                  | true =>
                    have HH2 : Hid (h + 1 = ((K.take (j + 1)).filter fun x => startsB x P).length) := HHS.out.symm
                    go_wp2
                    go_roundw
                    case rel => exact ⟨j + 1, h + 1, by omega, by go_num, by go_num, by omega, HH2, HW⟩
                    case measure => simp [intOf]; omega
                  | false =>
                    have HH2 : Hid (h = ((K.take (j + 1)).filter fun x => startsB x P).length) := HHS.out.symm
                    go_wp2
                    go_roundw
                    case rel => exact ⟨j + 1, h, by omega, by go_num, rfl, by omega, HH2, HW⟩
                    case measure => simp [intOf]; omega
                · obtain rfl : j = m := by omega
                  have hh1 : h = 1 := by rw [HH.out, List.take_of_length_le (by rw [← HMK.out]; omega)]; exact HHI.out
                  subst hh1
                  have HBf : Hid (Below w8.heap.size w8 wr) := by rw [HW.out]; exact HB11.out
                  clear HW HH
                  go_wp2
                  go_roundw
                  case rel => exact ⟨k + 1, by omega, by go_num, HBf⟩
                  case measure => simp [intOf]; omega
            · go_wp2
              go_ret
              exact ⟨rfl, HBw8.out.trans (HB.out.mono HBw8.out.size)⟩
end Go.Proofs.Ytjbnbpclelbohaa
