/- Layer 7 (rows): RowsKeys, the walk. -/
import Derived.Test.YtjbnbpclelbohaaRwRefKs
import Derived.Test.YtjbnbpclelbohaaRwCopy
import Derived.Test.YtjbnbpclelbohaaRwTable
import Derived.Test.YtjbnbpclelbohaaRwFixedL
import Derived.Test.YtjbnbpclelbohaaRwSameT
namespace Go.Proofs.Ytjbnbpclelbohaa
open Go.RowKit
set_option linter.unusedVariables false
attribute [local go_sem] Oper.semAt_some

def bsA (ks : List Bs) : List ByteArray := ks.map fun l => ⟨l.toArray⟩
theorem bsA_enc (ks : List Bs) : ks.map encS = (bsA ks).map Value.string := by unfold bsA; rw [List.map_map]; rfl
theorem bsA_len (ks : List Bs) : (bsA ks).length = ks.length := by simp [bsA]
theorem keysP_few (t : Tb) (p : Int) (cs : List CV) : (keysP t p cs).1.length ≤ 32 := by
  unfold keysP
  split
  · simp
  · split
    · simp
    · next hf =>
      have hc := fitC_few (fitP_cells (Decidable.not_not.1 hf))
      unfold indexP
      split
      · simp
      · split
        · simp
        · refine Nat.le_trans (compact_le _) ?_
          rw [List.length_mergeSort, List.length_map]
          exact Nat.le_trans (List.length_filterMap_le _ _) (elems_few hc.2)

set_option maxRecDepth 100000 in
set_option maxHeartbeats 8000000 in
theorem rowsKeys_calls (text : ByteArray) (at' pl : Int) (ca : Option Addr) (cc : Nat) (cs : List CV) (w : World) (hs : text.size ≤ 140737488351232) (ha : -9223372036854775808 ≤ at' ∧ at' ≤ 9223372036854775807) (hp : -9223372036854775808 ≤ pl ∧ pl ≤ 9223372036854775807)
    (hcm : cs.length * 48 ≤ 140737488351232) (hr : RowAt w ca cs) (hsm : SmallC cs) :
    Calls Try.prog 4 #[.string text, .int .i64 at', .agg #[.int .i64 pl, .slice ca cs.length cc]] w fun e w' => e = .returned (.bool true) ∧ Below w.heap.size w w' := by
  have HRA : Hid (RowAt w ca cs) := hr
  have HSM : Hid (SmallC cs) := hsm
  clear hr hsm
  obtain ⟨w1, hw1⟩ : ∃ w1, w1 = w.alloc (.cells #[.int .i64 pl, .slice ca cs.length cc] 38) := ⟨_, rfl⟩
  have HB1 : Hid (Below w.heap.size w w1) := by rw [hw1]; exact (Below.refl _ _).alloc (Nat.le_refl _) _
  have HQ1 : Hid (w1.heap[w.heap.size]? = some (.cells #[.int .i64 pl, .slice ca cs.length cc] 38)) := by rw [Hid, hw1]; exact new_blk _ _
  go_enter Try.func4, Try.ntmps4
  go_wp2_with fail
  rw [← hw1]
  clear hw1
  refine (rowsFixed_calls w1).mono ?_
  rintro e w2 ⟨rfl, hb2⟩
  have HB2 : Hid (Below w.heap.size w w2) := HB1.out.trans (hb2.mono HB1.out.size)
  have HQ2 : Hid (w2.heap[w.heap.size]? = some (.cells #[.int .i64 pl, .slice ca cs.length cc] 38)) := (hb2.block _ (lt_blk HQ1.out)).trans HQ1.out
  clear hb2 HB1 HQ1
  go_wp2_with fail
  refine (table_calls text at' w2 hs ha).mono ?_
  rintro e w3 ⟨hb3, hor⟩
  have HB3 : Hid (Below w.heap.size w w3) := HB2.out.trans (hb3.mono HB2.out.size)
  have HQ3 : Hid (w3.heap[w.heap.size]? = some (.cells #[.int .i64 pl, .slice ca cs.length cc] 38)) := (hb3.block _ (lt_blk HQ2.out)).trans HQ2.out
  clear hb3 HB2 HQ2
  rcases hor with ⟨t, ht, hro, rfl⟩ | rfl
  · have HTR : Hid (TRd w3 t) := ht
    have HRO : Hid (ROk t.tb) := hro
    clear ht hro
    go_upto_region 4 with fail
    obtain ⟨w4, hw4⟩ : ∃ w4, w4 = w3.alloc (.cells #[.string t.n, .slice t.fa t.fs.length t.fc, .slice t.xa t.xs.length t.xc] 29) := ⟨_, rfl⟩
    rw [← hw4]
    have hb4 : Below w3.heap.size w3 w4 := by rw [hw4]; exact (Below.refl _ _).alloc (Nat.le_refl _) _
    have HT4 : Hid (w4.heap[w3.heap.size]? = some (.cells #[.string t.n, .slice t.fa t.fs.length t.fc, .slice t.xa t.xs.length t.xc] 29)) := by rw [Hid, hw4]; exact new_blk _ _
    have HQ4 : Hid (w4.heap[w.heap.size]? = some (.cells #[.int .i64 pl, .slice ca cs.length cc] 38)) := (hb4.block _ (lt_blk HQ3.out)).trans HQ3.out
    have HB4 : Hid (Below w.heap.size w w4) := HB3.out.trans (hb4.mono HB3.out.size)
    have HTR4 : Hid (TRd w4 t) := HTR.out.below hb4
    have HRA4 : Hid (RowAt w4 ca cs) := HRA.out.below HB4.out
    clear hw4 hb4 HB3 HQ3 HTR
    have HKF : Hid ((keysP t.tb pl cs).1.length ≤ 32) := keysP_few _ _ _
    have HRK : Hid (Calls Try.prog 12 #[.agg #[.string t.n, .slice t.fa t.fs.length t.fc, .slice t.xa t.xs.length t.xc], .int .i64 pl, .agg #[.slice ca cs.length cc]] w4 fun e w' => ∃ v, e = .returned (.tuple #[v, .int .i64 (keysP t.tb pl cs).2]) ∧ KeysAt w' w4.heap.size v (keysP t.tb pl cs).1 ∧ Below w4.heap.size w4 w') := refKeys_calls t pl ca cc cs w4 hp (by omega) HTR4.out HRA4.out HRO.out HSM.out
    have HCK : Hid (∀ W a c ds, Below w4.heap.size w4 W → Alike ds cs → RowAt W a ds → Calls Try.prog 13 #[.agg #[.string t.n, .slice t.fa t.fs.length t.fc, .slice t.xa t.xs.length t.xc], .int .i64 pl, .agg #[.slice a ds.length c]] W fun e w' => ∃ v, e = .returned (.tuple #[v, .int .i64 (keysP t.tb pl cs).2]) ∧ KeysAt w' W.heap.size v (keysP t.tb pl cs).1 ∧ Below W.heap.size W w') := fun W a c ds hW hal hrd => by
      have := keys_calls t pl a c ds W hp (by rw [hal.len]; omega) (HTR4.out.below hW) hrd
      rw [hal.keys] at this
      exact this
    have HWF : Hid (∀ c ∈ cs, c.wf) := HRA4.out.wf
    generalize keysP t.tb pl cs = KP at *
    obtain ⟨KS, KE⟩ := KP
    dsimp only at *
    have qE : (KE == KE) = true := beq_self_eq_true _
    have e0 : w4.cell? ⟨w3.heap.size, 0, none⟩ = some (.string t.n) := by rw [cell_blk HT4.out]; rfl
    have e1 : w4.cell? ⟨w3.heap.size, 1, none⟩ = some (.slice t.fa t.fs.length t.fc) := by rw [cell_blk HT4.out]; rfl
    have e2 : w4.cell? ⟨w3.heap.size, 2, none⟩ = some (.slice t.xa t.xs.length t.xc) := by rw [cell_blk HT4.out]; rfl
    have p0 : w4.cell? ⟨w.heap.size, 0, none⟩ = some (.int .i64 pl) := by rw [cell_blk HQ4.out]; rfl
    have p1 : w4.cell? ⟨w.heap.size, 1, none⟩ = some (.slice ca cs.length cc) := by rw [cell_blk HQ4.out]; rfl
    go_wp2_with fail
    refine HRK.out.mono ?_
    clear HRK
    rintro e w5 ⟨v5, rfl, hk5, hb5⟩
    obtain ⟨a5, c5, rfl, -⟩ := row_forms hk5
    have HB45 : Hid (Below w4.heap.size w4 w5) := hb5
    have HK5 : Hid (KeysAt w5 w4.heap.size (.slice a5 KS.length c5) KS) := hk5
    have HT5 : Hid (w5.heap[w3.heap.size]? = some (.cells #[.string t.n, .slice t.fa t.fs.length t.fc, .slice t.xa t.xs.length t.xc] 29)) := (hb5.block _ (lt_blk HT4.out)).trans HT4.out
    have HQ5 : Hid (w5.heap[w.heap.size]? = some (.cells #[.int .i64 pl, .slice ca cs.length cc] 38)) := (hb5.block _ (lt_blk HQ4.out)).trans HQ4.out
    clear hk5 hb5 e0 e1 e2 p0 p1 HT4 HQ4
    have p1 : w5.cell? ⟨w.heap.size, 1, none⟩ = some (.slice ca cs.length cc) := by rw [cell_blk HQ5.out]; rfl
    have HCC : Hid (Calls Try.prog 10 #[.agg #[.slice ca cs.length cc]] w5 fun e w' => (∃ a c ds, e = .returned (.agg #[.slice a ds.length c]) ∧ Alike ds cs ∧ OwnR w' w5.heap.size (.slice a ds.length c) ds) ∧ Below w5.heap.size w5 w') := refCopy_calls ca cc cs w5 hcm (HRA4.out.below HB45.out)
    go_wp2_with fail
    refine HCC.out.mono ?_
    clear HCC
    rintro e w6 ⟨⟨a6, c6, ds, rfl, hal, hor6⟩, hb6⟩
    have HAL : Hid (Alike ds cs) := hal
    have HR6 : Hid (RowAt w6 a6 ds) := hor6.rowAt (hal.wf HWF.out)
    have HB46 : Hid (Below w4.heap.size w4 w6) := HB45.out.trans (hb6.mono HB45.out.size)
    have HK6 : Hid (KeysAt w6 w4.heap.size (.slice a5 KS.length c5) KS) := row_below HK5.out hb6
    have HT6 : Hid (w6.heap[w3.heap.size]? = some (.cells #[.string t.n, .slice t.fa t.fs.length t.fc, .slice t.xa t.xs.length t.xc] 29)) := (hb6.block _ (lt_blk HT5.out)).trans HT5.out
    have HQ6 : Hid (w6.heap[w.heap.size]? = some (.cells #[.int .i64 pl, .slice ca cs.length cc] 38)) := (hb6.block _ (lt_blk HQ5.out)).trans HQ5.out
    clear hal hor6 hb6 p1 HT5 HQ5 HK5 HB45
    go_upto_region 8 with fail
    obtain ⟨w7, hw7⟩ : ∃ w7, w7 = w6.alloc (.cells #[.slice a6 ds.length c6] 24) := ⟨_, rfl⟩
    rw [← hw7]
    have hb7 : Below w6.heap.size w6 w7 := by rw [hw7]; exact (Below.refl _ _).alloc (Nat.le_refl _) _
    have HO7 : Hid (w7.heap[w6.heap.size]? = some (.cells #[.slice a6 ds.length c6] 24)) := by rw [Hid, hw7]; exact new_blk _ _
    have HB47 : Hid (Below w4.heap.size w4 w7) := HB46.out.trans (hb7.mono HB46.out.size)
    have HR7 : Hid (RowAt w7 a6 ds) := HR6.out.below hb7
    have HK7 : Hid (KeysAt w7 w4.heap.size (.slice a5 KS.length c5) KS) := row_below HK6.out hb7
    have HT7 : Hid (w7.heap[w3.heap.size]? = some (.cells #[.string t.n, .slice t.fa t.fs.length t.fc, .slice t.xa t.xs.length t.xc] 29)) := (hb7.block _ (lt_blk HT6.out)).trans HT6.out
    have HQ7 : Hid (w7.heap[w.heap.size]? = some (.cells #[.int .i64 pl, .slice ca cs.length cc] 38)) := (hb7.block _ (lt_blk HQ6.out)).trans HQ6.out
    clear hw7 hb7 HT6 HQ6 HK6 HB46 HR6
    have e0 : w7.cell? ⟨w3.heap.size, 0, none⟩ = some (.string t.n) := by rw [cell_blk HT7.out]; rfl
    have e1 : w7.cell? ⟨w3.heap.size, 1, none⟩ = some (.slice t.fa t.fs.length t.fc) := by rw [cell_blk HT7.out]; rfl
    have e2 : w7.cell? ⟨w3.heap.size, 2, none⟩ = some (.slice t.xa t.xs.length t.xc) := by rw [cell_blk HT7.out]; rfl
    have p0 : w7.cell? ⟨w.heap.size, 0, none⟩ = some (.int .i64 pl) := by rw [cell_blk HQ7.out]; rfl
    have o0 : w7.cell? ⟨w6.heap.size, 0, none⟩ = some (.slice a6 ds.length c6) := by rw [cell_blk HO7.out]; rfl
    go_wp2_with fail
    refine (HCK.out w7 a6 c6 ds HB47.out HAL.out HR7.out).mono ?_
    rintro e w8 ⟨v8, rfl, hk8, hb8⟩
    obtain ⟨a8, c8, rfl, hf8⟩ := row_forms hk8
    have HB78 : Hid (Below w7.heap.size w7 w8) := hb8
    have HK8 : Hid (KeysAt w8 w7.heap.size (.slice a8 KS.length c8) KS) := hk8
    have HF8 : Hid (0 < KS.length → ∃ g, a8 = some ⟨g, 0, none⟩) := hf8
    clear hk8 hb8 hf8 e0 e1 e2 p0 o0
    have HB48 : Hid (Below w4.heap.size w4 w8) := HB47.out.trans (HB78.out.mono HB47.out.size)
    have HT8 : Hid (w8.heap[w3.heap.size]? = some (.cells #[.string t.n, .slice t.fa t.fs.length t.fc, .slice t.xa t.xs.length t.xc] 29)) := (HB78.out.block _ (lt_blk HT7.out)).trans HT7.out
    have HQ8 : Hid (w8.heap[w.heap.size]? = some (.cells #[.int .i64 pl, .slice ca cs.length cc] 38)) := (HB78.out.block _ (lt_blk HQ7.out)).trans HQ7.out
    have HO8 : Hid (w8.heap[w6.heap.size]? = some (.cells #[.slice a6 ds.length c6] 24)) := (HB78.out.block _ (lt_blk HO7.out)).trans HO7.out
    have e0 : w8.cell? ⟨w3.heap.size, 0, none⟩ = some (.string t.n) := by rw [cell_blk HT8.out]; rfl
    have e1 : w8.cell? ⟨w3.heap.size, 1, none⟩ = some (.slice t.fa t.fs.length t.fc) := by rw [cell_blk HT8.out]; rfl
    have e2 : w8.cell? ⟨w3.heap.size, 2, none⟩ = some (.slice t.xa t.xs.length t.xc) := by rw [cell_blk HT8.out]; rfl
    have p0 : w8.cell? ⟨w.heap.size, 0, none⟩ = some (.int .i64 pl) := by rw [cell_blk HQ8.out]; rfl
    have o0 : w8.cell? ⟨w6.heap.size, 0, none⟩ = some (.slice a6 ds.length c6) := by rw [cell_blk HO8.out]; rfl
    go_wp2_with fail
    refine (HCK.out w8 a6 c6 ds HB48.out HAL.out (HR7.out.below HB78.out)).mono ?_
    clear HCK
    rintro e w9 ⟨v9, rfl, hk9, hb9⟩
    obtain ⟨a9, c9, rfl, -⟩ := row_forms hk9
    have HB79 : Hid (Below w7.heap.size w7 w9) := HB78.out.trans (hb9.mono HB78.out.size)
    have HK9 : Hid (KeysAt w9 w8.heap.size (.slice a9 KS.length c9) KS) := hk9
    have HK89 : Hid (KeysAt w9 w7.heap.size (.slice a8 KS.length c8) KS) := row_below HK8.out hb9
    have HLT : Hid (∀ k, (Value.slice a8 KS.length c8).ownBlock = some k → w7.heap.size ≤ k ∧ k < w8.heap.size) := World.ownsRow.lt HK8.out
    clear hk9 hb9 e0 e1 e2 p0 o0 HT8 HQ8 HO8 HB78 HB48 HK8
    have HST : Hid (∀ (W : World) (a b : Option Addr) (c d : Nat), CellsAt W a (KS.map encS) → CellsAt W b (KS.map encS) → Calls Try.prog 14 #[.slice a KS.length c, .slice b KS.length d] W fun e w' => e = .returned (.bool true) ∧ Below W.heap.size W w') := fun W a b c d h1 h2 => by
      have := sameTexts_calls a b c d (bsA KS) W (by rw [bsA_len]; have := HKF.out; omega) (by rw [← bsA_enc]; exact h1) (by rw [← bsA_enc]; exact h2)
      rw [bsA_len] at this
      exact this
    go_wp2_with fail
    refine (HST.out w9 a8 a5 c8 c5 (row_cells HK89.out) ((row_cells HK7.out).below HB79.out)).mono ?_
    rintro e w10 ⟨rfl, hb10⟩
    have HB710 : Hid (Below w7.heap.size w7 w10) := HB79.out.trans (hb10.mono HB79.out.size)
    have HKK : Hid (∃ xs, w10.ownsRow w7.heap.size 9 1 (.slice a8 KS.length c8) KS.length xs) := ⟨_, row_below HK89.out hb10⟩
    have HK10 : Hid (KeysAt w10 w8.heap.size (.slice a9 KS.length c9) KS) := row_below HK9.out hb10
    have hB10 : w7.heap.size ≤ w10.heap.size := HB710.out.size
    clear hb10 HK9 HK89 HB79
    obtain ⟨n, hn⟩ : ∃ n, n = KS.length := ⟨_, rfl⟩
    have HN : Hid (n = KS.length) := hn
    have hn32 : n ≤ 32 := by rw [hn]; exact HKF.out
    rw [← hn] at HKK HF8 HLT ⊢
    clear hn
    go_wp2
    go_loopw [16, 67] (fun v16 i wr => ∃ k : Nat, k ≤ n ∧ i = .int .i64 k ∧ Hid (∃ xs, wr.ownsRow w7.heap.size 9 1 (.slice a8 n c8) n xs) ∧ Hid (Grew w10 wr (.slice a8 n c8) (.slice a8 n c8))) (fun _ i _ => n - (intOf i).toNat)
    case atStart => exact ⟨0, Nat.zero_le _, rfl, HKK, Grew.refl _ _⟩
    case round =>
      obtain ⟨k, hk, rfl, HX, HG⟩ := hrel
      clear HKK
      by_cases hlt : k < n
      · obtain ⟨g, rfl⟩ := HF8.out (by omega)
        obtain ⟨xs, hxs⟩ := HX.out
        have hxl : xs.length = n := by have := hxs.1; omega
        have k0 : wr.cell? ⟨g, k, none⟩ = some (xs[k]'(by omega)) := by
          rw [World.ownsRow.cellAt hxs k (by omega)]
          exact List.getElem?_eq_getElem (by omega)
        have z0 : wr.frozen? ⟨g, k, none⟩ = false := World.ownsRow.frozenAt hxs k
        have hst := World.ownsRow.stored hxs k (.string ⟨#[109, 97, 114, 107]⟩)
        have HX2 : Hid (∃ xs, (wr.setCell ⟨g, k, none⟩ (.string ⟨#[109, 97, 114, 107]⟩)).ownsRow w7.heap.size 9 1 (.slice (some ⟨g, 0, none⟩) n c8) n xs) := ⟨_, hst.1⟩
        have HG2 : Hid (Grew w10 (wr.setCell ⟨g, k, none⟩ (.string ⟨#[109, 97, 114, 107]⟩)) (.slice (some ⟨g, 0, none⟩) n c8) (.slice (some ⟨g, 0, none⟩) n c8)) := HG.out.trans ⟨hst.2, fun _ h => .inl h⟩
        have hi1 : (k : Int) < (n : Int) := by omega
        generalize xs[k]'(by omega) = xk at k0
        clear hst hxs hxl HX HG
        go_wp2
        go_roundw
        case rel => exact ⟨k + 1, by omega, by go_num, HX2, HG2⟩
        case measure => simp [intOf]; omega
      · go_wp2
        go_loopw [12, 17] (fun v12 i wr => ∃ (j : Nat) (a12 : Option Addr) (c12 : Nat), j ≤ 33 ∧ i = .int .i64 j ∧ v12 = .slice a12 (n + j) c12 ∧ Hid (∃ xs, wr.ownsRow w7.heap.size 9 1 (.slice a12 (n + j) c12) (n + j) xs) ∧ Hid (Grew w10 wr (.slice a8 n c8) (.slice a12 (n + j) c12))) (fun _ i _ => 33 - (intOf i).toNat)
        case atStart => exact ⟨0, a8, c8, Nat.zero_le _, rfl, rfl, HX, HG⟩
        case round =>
          obtain ⟨j, a12, c12, hj, rfl, rfl, HX2, HG2⟩ := hrel
          by_cases hlt2 : j < 33
          · obtain ⟨xs, hxs⟩ := HX2.out
            have hBr : w7.heap.size ≤ wr.heap.size := Nat.le_trans hB10 HG2.out.size
            have hnj : n + j ≤ 100000 := by omega
            obtain ⟨nj, hnje⟩ : ∃ nj, nj = n + j := ⟨_, rfl⟩
            have HNJ : Hid (nj = n + j) := hnje
            rw [← hnje] at hxs hnj HG2 ⊢
            clear hnje HX2
            go_wp2_with (at_builtin; refine append_row _ rfl (.tmp 78) (.tmp 79) _ 9 _ 1 16 Try.underlying39 info_str rfl (by decide) rfl w7.heap.size _ nj _ rfl [.string ⟨#[109, 111, 114, 101]⟩] rfl (by simp [Value.oneCell']) _ _ rfl rfl rfl hxs hnj (by omega) hBr ?_)
            intro v13 w13 hr13 hg13
            obtain ⟨a13, c13, rfl, -⟩ := row_forms hr13
            have HX13 : Hid (∃ xs, w13.ownsRow w7.heap.size 9 1 (.slice a13 (n + (j + 1)) c13) (n + (j + 1)) xs) := ⟨_, by rw [show n + (j + 1) = nj + 1 by have := HNJ.out; omega]; exact hr13⟩
            have HG13 : Hid (Grew w10 w13 (.slice a8 n c8) (.slice a13 (n + (j + 1)) c13)) := by rw [Hid, show n + (j + 1) = nj + 1 by have := HNJ.out; omega]; exact HG2.out.trans hg13
            have hnj1 : nj + 1 = n + (j + 1) := by have := HNJ.out; omega
            rw [hnj1]
            clear hr13 hg13 hxs HG2 HNJ hnj hnj1
            go_wp2
            go_roundw
            case rel => exact ⟨j + 1, a13, c13, by omega, by go_num, rfl, HX13, HG13⟩
            case measure => simp [intOf]; omega
          · have HBE : Hid (Below w7.heap.size w10 wr) := HG2.out.toBelow hB10 fun k hk => (HLT.out k hk).1
            have HB7r : Hid (Below w7.heap.size w7 wr) := HB710.out.trans HBE.out
            have HK14 : Hid (KeysAt wr w8.heap.size (.slice a9 KS.length c9) KS) := row_grew HK10.out HG2.out fun k hk e => by
              have h1 := (HLT.out k hk).2
              have h2 := (World.ownsRow.lt HK10.out k e).1
              omega
            have HO14 : Hid (wr.heap[w6.heap.size]? = some (.cells #[.slice a6 ds.length c6] 24)) := (HB7r.out.block _ (lt_blk HO7.out)).trans HO7.out
            have HQ14 : Hid (wr.heap[w.heap.size]? = some (.cells #[.int .i64 pl, .slice ca cs.length cc] 38)) := (HB7r.out.block _ (lt_blk HQ7.out)).trans HQ7.out
            have HC1 := HST.out wr a9 a5 c9 c5 (row_cells HK14.out) ((row_cells HK7.out).below HB7r.out)
            rw [← HN.out] at HC1
            have HC1 : Hid (Calls Try.prog 14 #[.slice a9 n c9, .slice a5 n c5] wr fun e w' => e = .returned (.bool true) ∧ Below wr.heap.size wr w') := HC1
            have hw7r : w7.heap.size ≤ wr.heap.size := HB7r.out.size
            have hjj : n + j = n + 33 := by omega
            clear HX2 HG2 HBE HK14 hjj
            go_wp2_with fail
            refine HC1.out.mono ?_
            clear HC1
            rintro e w15 ⟨rfl, hb15⟩
            have HB715 : Hid (Below w7.heap.size w7 w15) := HB7r.out.trans (hb15.mono hw7r)
            have HO15 : Hid (w15.heap[w6.heap.size]? = some (.cells #[.slice a6 ds.length c6] 24)) := (hb15.block _ (lt_blk HO14.out)).trans HO14.out
            have HQ15 : Hid (w15.heap[w.heap.size]? = some (.cells #[.int .i64 pl, .slice ca cs.length cc] 38)) := (hb15.block _ (lt_blk HQ14.out)).trans HQ14.out
            have o0 : w15.cell? ⟨w6.heap.size, 0, none⟩ = some (.slice a6 ds.length c6) := by rw [cell_blk HO15.out]; rfl
            have p1 : w15.cell? ⟨w.heap.size, 1, none⟩ = some (.slice ca cs.length cc) := by rw [cell_blk HQ15.out]; rfl
            have HB415 : Hid (Below w4.heap.size w4 w15) := HB47.out.trans (HB715.out.mono HB47.out.size)
            have HSR : Hid (Calls Try.prog 15 #[.agg #[.slice a6 ds.length c6], .agg #[.slice ca cs.length cc]] w15 fun e w' => e = .returned (.bool true) ∧ Below w15.heap.size w15 w') := sameRow_calls a6 ca c6 cc ds cs w15 (by rw [HAL.out.len]; omega) HAL.out (HR7.out.below HB715.out) (HRA4.out.below HB415.out)
            clear hb15 HO14 HQ14
            go_wp2_with fail
            refine HSR.out.mono ?_
            clear HSR
            rintro e w16 ⟨rfl, hb16⟩
            have HB16 : Hid (Below w.heap.size w w16) := HB4.out.trans ((HB415.out.trans (hb16.mono HB415.out.size)).mono HB4.out.size)
            clear hb16
            go_wp2
            go_ret
            exact ⟨rfl, HB16.out⟩
  · go_wp2
    go_ret
    exact ⟨rfl, HB3.out.alloc HB3.out.size _⟩
end Go.Proofs.Ytjbnbpclelbohaa
