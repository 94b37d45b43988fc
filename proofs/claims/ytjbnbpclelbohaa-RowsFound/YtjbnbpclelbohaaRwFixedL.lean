import Derived.Test.YtjbnbpclelbohaaRwLowR
/- Layer 7 (rows): the chapter's example: its text, its table, its row, its key. -/
namespace Go.Proofs.Ytjbnbpclelbohaa
open Go.RowKit
set_option linter.unusedVariables false

def fixT : ByteArray := ⟨#[116, 97, 98, 108, 101, 32, 113, 10, 102, 105, 101, 108, 100, 32, 97, 32, 116, 101, 120, 116, 10, 102, 105, 101, 108, 100, 32, 108, 32, 108, 105, 115, 116, 10, 105, 110, 100, 101, 120, 32, 105, 100, 32, 97, 32, 117, 110, 105, 113, 117, 101, 10, 105, 110, 100, 101, 120, 32, 116, 97, 103, 32, 108, 44, 97, 32, 108, 111, 119, 101, 114, 32, 108, 111, 111, 115, 101]⟩
def fixTb : Tb := ⟨⟨#[113]⟩, [⟨⟨#[97]⟩, 1⟩, ⟨⟨#[108]⟩, 3⟩], [⟨idW, [0], true, false, false⟩, ⟨⟨#[116, 97, 103]⟩, [1, 0], false, true, true⟩]⟩
def fixCs (la : Option Addr) (lc : Nat) : List CV := [⟨⟨#[78]⟩, 0, [], none, 0⟩, ⟨⟨#[]⟩, 0, [⟨#[88]⟩, ⟨#[]⟩, ⟨#[120]⟩], la, lc⟩]
def fixK : List UInt8 := [1, 120, 0, 1, 1, 110, 0, 1, 1, 78, 0, 1]
def fixPs : List Pt := [⟨1, ⟨#[120]⟩, 0⟩, ⟨1, ⟨#[110]⟩, 0⟩, ⟨1, ⟨#[78]⟩, 0⟩]
set_option maxRecDepth 100000 in
theorem fix_parse : parseP fixT = .ok [fixTb] := by kernel_rfl
set_option maxRecDepth 100000 in
theorem fix_lists (la : Option Addr) (lc : Nat) : listsP fixTb ⟨⟨#[116, 97, 103]⟩, [1, 0], false, true, true⟩ (fixCs la lc) = [fixPs, fixPs] := by kernel_rfl
set_option maxRecDepth 100000 in
theorem fix_lists0 (la : Option Addr) (lc : Nat) : listsP fixTb ⟨idW, [0], true, false, false⟩ (fixCs la lc) = [[⟨1, ⟨#[78]⟩, 0⟩]] := by kernel_rfl
set_option maxRecDepth 100000 in
theorem fix_whole0 (la : Option Addr) (lc : Nat) : wholeB fixTb ⟨idW, [0], true, false, false⟩ (fixCs la lc) = true := by kernel_rfl
set_option maxRecDepth 100000 in
theorem fix_fitC (la : Option Addr) (lc : Nat) : fitC fixTb.fs (fixCs la lc) = 0 := by kernel_rfl
set_option maxRecDepth 100000 in
theorem fix_enc : encAns false fixPs = (fixK, 0) := by kernel_rfl
set_option maxRecDepth 100000 in
theorem fix_enc0 : badB [⟨1, ⟨#[78]⟩, 0⟩] = false := by kernel_rfl
set_option maxRecDepth 100000 in
theorem fix_compact : Lib.compact [fixK, fixK] = [fixK] := by kernel_rfl
set_option maxRecDepth 100000 in
theorem fix_low : lowS ⟨#[97, 90, 91]⟩ = ⟨#[97, 122, 91]⟩ := by kernel_rfl
theorem fix_sorted : sortedK [fixPs, fixPs] = [fixK] := by
  unfold sortedK
  rw [show [fixPs, fixPs].map keyOf = [fixK, fixK] by simp [keyOf, fix_enc], List.mergeSort_of_pairwise, fix_compact]
  simp
theorem fix_index (la : Option Addr) (lc : Nat) : indexP fixTb ⟨⟨#[116, 97, 103]⟩, [1, 0], false, true, true⟩ (fixCs la lc) = ([fixK], 0) := by
  unfold indexP
  rw [if_neg (by simp), fix_lists, if_neg (by simp [badB, fix_enc]), fix_sorted]
theorem fix_index0 (la : Option Addr) (lc : Nat) : (indexP fixTb ⟨idW, [0], true, false, false⟩ (fixCs la lc)).2 = 0 := by
  unfold indexP
  rw [if_neg (by simp [fix_whole0]), fix_lists0, if_neg (by simp [fix_enc0])]
theorem fix_fit (la : Option Addr) (lc : Nat) : fitP fixTb (fixCs la lc) = 0 := by
  unfold fitP
  rw [if_neg (by rw [fix_fitC]; simp)]
  show fitX fixTb _ [_, _] = 0
  unfold fitX
  rw [if_neg (by rw [fix_index0]; simp)]
  unfold fitX
  rw [if_neg (by rw [fix_index]; simp)]
  rfl
theorem fix_keys (la : Option Addr) (lc : Nat) : keysP fixTb 1 (fixCs la lc) = ([fixK], 0) := by
  unfold keysP
  rw [if_neg (by decide), if_neg (by rw [fix_fit]; simp)]
  exact fix_index la lc
end Go.Proofs.Ytjbnbpclelbohaa

/- Layer 7 (rows): rowsFixed, RowsNames. -/
namespace Go.Proofs.Ytjbnbpclelbohaa
open Go.RowKit
set_option linter.unusedVariables false

set_option maxRecDepth 100000 in
set_option maxHeartbeats 4000000 in
theorem rowsFixed_calls (w : World) :
    Calls Try.prog 7 #[] w fun e w' => e = .returned (.bool true) ∧ Below w.heap.size w w' := by
  have HP := rparse_calls fixT w (by decide)
  rw [fix_parse] at HP
  have HP' : Hid (Calls Try.prog 21 #[.string fixT] w fun e w' => PParsed w (.ok [fixTb]) e w') := HP
  clear HP
  go_enter Try.func7, Try.ntmps7
  go_wp2_with fail
  refine HP'.out.mono ?_
  clear HP'
  rintro e w1 ⟨hb1, ao, cap, ts, rfl, hts, htb⟩
  have hl : ts.length = 1 := by have := congrArg List.length hts; simpa [tbs] using this
  obtain ⟨t, rfl⟩ : ∃ t, ts = [t] := List.length_eq_one_iff.1 hl
  have htt : t.tb = fixTb := by simpa [tbs] using hts
  have HTT : Hid (t.tb = fixTb) := htt
  obtain ⟨ab, off, rfl, c0, c1, c2⟩ := (row_cells htb.row).tab 0 (by simp)
  simp only [List.getElem_cons_zero, Nat.zero_mul, Nat.add_zero] at c0 c1 c2
  have HTR : Hid (TRd w1 t) := htb.rd (by simp)
  have HB1 : Hid (Below w.heap.size w w1) := hb1
  have hab : ab < w1.heap.size := World.block_lt_of_cell? w1 _ c0
  clear hb1 hts htb htt hl
  go_upto_region 4 with fail
  obtain ⟨w2, hw2⟩ : ∃ w2, w2 = w1.alloc (.cells #[.slice (some ⟨ab, off, none⟩) 1 cap] 69) := ⟨_, rfl⟩
  rw [← hw2]
  have hb2 : Below w1.heap.size w1 w2 := by rw [hw2]; exact (Below.refl _ _).alloc (Nat.le_refl _) _
  have s0 : w2.cell? ⟨w1.heap.size, 0, none⟩ = some (.slice (some ⟨ab, off, none⟩) 1 cap) := by rw [hw2, cell_blk (new_blk _ _)]; rfl
  have d0 : w2.cell? ⟨ab, off, none⟩ = some (.string t.n) := by rw [hb2.cell (by exact hab)]; exact c0
  have d1 : w2.cell? ⟨ab, off + 1, none⟩ = some (.slice t.fa t.fs.length t.fc) := by rw [hb2.cell (by exact hab)]; exact c1
  have d2 : w2.cell? ⟨ab, off + 2, none⟩ = some (.slice t.xa t.xs.length t.xc) := by rw [hb2.cell (by exact hab)]; exact c2
  obtain ⟨w3, hw3⟩ : ∃ w3, w3 = (w2.alloc (.cells #[.string ⟨#[88]⟩, .string ⟨#[]⟩, .string ⟨#[120]⟩] 9)).alloc (.cells #[.string ⟨#[78]⟩, .int .u64 0, .slice none 0 0, .string ⟨#[]⟩, .int .u64 0, .slice (some ⟨w2.heap.size, 0, none⟩) 3 3] 55) := ⟨_, rfl⟩
  have hb3 : Below w2.heap.size w2 w3 := by rw [hw3]; exact ((Below.refl _ _).alloc (Nat.le_refl _) _).alloc (by simp only [World.size_alloc]; omega) _
  have hbw : Below w.heap.size w w3 := HB1.out.trans ((hb2.trans (hb3.mono hb2.size)).mono HB1.out.size)
  have hl1 : w3.heap[w2.heap.size]? = some (.cells #[.string ⟨#[88]⟩, .string ⟨#[]⟩, .string ⟨#[120]⟩] 9) := by rw [hw3]; exact old_blk (new_blk _ _) _
  have hl2 : w3.heap[w2.heap.size + 1]? = some (.cells #[.string ⟨#[78]⟩, .int .u64 0, .slice none 0 0, .string ⟨#[]⟩, .int .u64 0, .slice (some ⟨w2.heap.size, 0, none⟩) 3 3] 55) := by
    rw [hw3]
    have := new_blk (w2.alloc (.cells #[.string ⟨#[88]⟩, .string ⟨#[]⟩, .string ⟨#[120]⟩] 9)) (.cells #[.string ⟨#[78]⟩, .int .u64 0, .slice none 0 0, .string ⟨#[]⟩, .int .u64 0, .slice (some ⟨w2.heap.size, 0, none⟩) 3 3] 55)
    rw [World.size_alloc] at this
    exact this
  have HRow : RowAt w3 (some ⟨w2.heap.size + 1, 0, none⟩) (fixCs (some ⟨w2.heap.size, 0, none⟩) 3) := by
    refine ⟨fun _ => ⟨_, _, rfl, fun j u hj => ?_⟩, fun c hc => ?_, fun c hc => ?_⟩
    · rw [Nat.zero_add, cell_blk hl2]
      simpa [ccs, fixCs] using hj
    · simp only [fixCs, List.mem_cons, List.not_mem_nil, or_false] at hc
      rcases hc with rfl | rfl
      · intro h; simp at h
      · refine fun _ => ⟨_, _, rfl, fun j u hj => ?_⟩
        rw [Nat.zero_add, cell_blk hl1]
        simpa using hj
    · simp only [fixCs, List.mem_cons, List.not_mem_nil, or_false] at hc
      rcases hc with rfl | rfl
      · exact ⟨by decide, ⟨by decide, by decide⟩, fun s hs => by simp at hs, by decide⟩
      · refine ⟨show (0 : Nat) ≤ 140737488351232 by decide, ⟨show (0 : Int) ≤ 0 by decide, show (0 : Int) ≤ 18446744073709551615 by decide⟩, fun s hs => ?_, show (3 : Nat) ≤ 8796093022208 by decide⟩
        simp only [List.mem_cons, List.not_mem_nil, or_false] at hs
        rcases hs with rfl | rfl | rfl <;> decide
  have HKC := keys_calls t 1 (some ⟨w2.heap.size + 1, 0, none⟩) 2 (fixCs (some ⟨w2.heap.size, 0, none⟩) 3) w3 (by decide) (show (2 : Nat) ≤ 4398046511104 by decide) ((HTR.out.below hb2).below hb3) HRow
  rw [HTT.out, fix_keys] at HKC
  have HKC : Hid (Calls Try.prog 13 #[.agg #[.string t.n, .slice t.fa t.fs.length t.fc, .slice t.xa t.xs.length t.xc], .int .i64 1, .agg #[.slice (some ⟨w2.heap.size + 1, 0, none⟩) 2 2]] w3 fun e w' => ∃ v, e = .returned (.tuple #[v, .int .i64 0]) ∧ KeysAt w' w3.heap.size v [fixK] ∧ Below w3.heap.size w3 w') := HKC
  have HB3 : Hid (Below w.heap.size w w3) := hbw
  clear HRow hl1 hl2 hbw hb3 hb2 hw2 c0 c1 c2
  go_wp2_with fail
  rw [← hw3]
  clear hw3
  refine HKC.out.mono ?_
  clear HKC
  rintro e w4 ⟨v, rfl, hk, hb4⟩
  have HB4 : Hid (Below w.heap.size w w4) := HB3.out.trans (hb4.mono HB3.out.size)
  obtain ⟨a, c, rfl, ha⟩ := row_forms hk
  obtain ⟨g, rfl⟩ := ha (by decide)
  have k0 : w4.cell? ⟨g, 0, none⟩ = some (.string ⟨fixK.toArray⟩) := by
    obtain ⟨b, o, e, hc⟩ := row_cells hk (by simp)
    simp only [Option.some.injEq, Addr.mk.injEq] at e
    obtain ⟨rfl, rfl, _⟩ := e
    exact hc 0 _ rfl
  have q1 : ((⟨fixK.toArray⟩ : ByteArray).toList == [1, 120, 0, 1, 1, 110, 0, 1, 1, 78, 0, 1]) = true := by rw [beq_lit]; exact decide_eq_true rfl
  have q2 : ((lowS ⟨#[97, 90, 91]⟩).toList == [97, 122, 91]) = true := by rw [beq_lit, fix_low]; exact decide_eq_true rfl
  have HLC : Hid (Calls Try.prog 16 #[.string ⟨#[97, 90, 91]⟩] w4 fun e w' => e = .returned (.string (lowS ⟨#[97, 90, 91]⟩)) ∧ Below w4.heap.size w4 w') := low_calls ⟨#[97, 90, 91]⟩ w4 (by decide)
  have hl1 : ([fixK] : List (List UInt8)).length = 1 := rfl
  rw [hl1]
  clear hk ha hb4 hl1
  go_wp2_with fail
  refine HLC.out.mono ?_
  clear HLC
  rintro e w5 ⟨rfl, hb5⟩
  have HB5 : Hid (Below w.heap.size w w5) := HB4.out.trans (hb5.mono HB4.out.size)
  clear hb5
  go_wp2
  go_ret
  exact ⟨rfl, HB5.out⟩
end Go.Proofs.Ytjbnbpclelbohaa
