/- Layer 6 (schema): Print. -/
import Derived.Test.YtbpmahchinblhaaDoorSWords
import Derived.Test.YtbpmahchinblhaaDoorSReadP
namespace Go.Proofs.YtbpmahchinblhaaDoor
open Go.RowKit Go.Shelf
set_option linter.unusedVariables false
attribute [local go_sem] Oper.semAt_some

def fldL (f : Fd) : List UInt8 := lineL [fieldW, f.n, wordB f.k]
def tabL (t : Tb) : List UInt8 := lineL [tableW, t.n] ++ (t.fs.flatMap fldL ++ t.xs.flatMap fun x => lineL (wordsL t.fs x))
def printL (ts : List Tb) : List UInt8 := ts.flatMap tabL

/-- The tables can be read. -/
structure TabsRd (w : World) (ao : Option Addr) (ts : List TV) : Prop where
  row : CellsAt w ao (tcs ts)
  fs : ∀ t ∈ ts, CellsAt w t.fa (fcs t.fs)
  xs : ∀ t ∈ ts, CellsAt w t.xa (xcs t.xs)
  ov : ∀ t ∈ ts, ∀ x ∈ t.xs, CellsAt w x.va (ics x.x.ov)
  most : ts.length ≤ 16
  ok : ∀ t ∈ ts, TOk t
theorem TabsRd.below {w w' : World} {ao : Option Addr} {ts : List TV} (h : TabsRd w ao ts) (hb : Below w.heap.size w w') : TabsRd w' ao ts :=
  ⟨h.row.below hb, fun t ht => (h.fs t ht).below hb, fun t ht => (h.xs t ht).below hb, fun t ht x hx => (h.ov t ht x hx).below hb, h.most, h.ok⟩
theorem Tabs.reads {w : World} {B : Nat} {ao : Option Addr} {cap : Nat} {ts : List TV} (h : Tabs w B (.slice ao ts.length cap) ts) : TabsRd w ao ts :=
  ⟨row_cells h.row, fun t ht => row_cells (h.tab t ht).fs, fun t ht => row_cells (h.tab t ht).xs, fun t ht x hx => row_cells ((h.tab t ht).ov x hx), h.most, h.ok⟩

theorem line_le {ws : List ByteArray} {m : Nat} (h : ∀ x ∈ ws, x.size ≤ m) : (lineL ws).length ≤ ws.length * (m + 1) + 1 := by
  have := join_le [32] (ws.map (·.data.toList)) m (fun x hx => by
    obtain ⟨a, ha, rfl⟩ := List.mem_map.1 hx
    simpa using h a ha)
  simp only [List.length_map, List.length_cons, List.length_nil] at this
  unfold lineL
  rw [List.length_append]
  simpa using this
theorem wordB_size (k : Int) : (wordB k).size ≤ 4 := by
  unfold wordB
  split
  · decide
  · split
    · decide
    · split
      · decide
      · decide
theorem fldL_le {t : TV} (h : TOk t) {f : Fd} (hf : f ∈ t.fs) : (fldL f).length ≤ 1000 := by
  have := line_le (ws := [fieldW, f.n, wordB f.k]) (m := 32) (fun x hx => by
    simp only [List.mem_cons, List.mem_nil_iff, or_false] at hx
    rcases hx with rfl | rfl | rfl
    · decide
    · exact (h.fsize f hf).1
    · have := wordB_size f.k; omega)
  unfold fldL
  simp only [List.length_cons, List.length_nil] at this
  omega
theorem wordsL_le {t : TV} (h : TOk t) {x : XV} (hx : XOk t x) : (lineL (wordsL t.fs x.x)).length ≤ 1000 := by
  have hl : (wordsL t.fs x.x).length ≤ 6 := by
    unfold wordsL flagsL
    cases x.x.u <;> cases x.x.l <;> cases x.x.s <;> simp
  have := line_le (ws := wordsL t.fs x.x) (m := 132) (fun y hy => by
    unfold wordsL flagsL at hy
    simp only [List.mem_append, List.mem_cons, List.mem_nil_iff, or_false] at hy
    rcases hy with (rfl | rfl | rfl) | hy | hy | hy
    · decide
    · have := hx.size; omega
    · have := joined_le' h hx.place hx.most
      show (joinedL t.fs x.x.ov).size ≤ 132
      unfold joinedL
      simpa [ByteArray.size] using this
    · split at hy <;> simp at hy; subst hy; decide
    · split at hy <;> simp at hy; subst hy; decide
    · split at hy <;> simp at hy; subst hy; decide)
  omega
theorem flat_le {α : Type} (f : α → List UInt8) (m : Nat) : ∀ (l : List α), (∀ a ∈ l, (f a).length ≤ m) → (l.flatMap f).length ≤ l.length * m
  | [], _ => by simp
  | a :: l, h => by
    have h1 := h a (by simp)
    have h2 := flat_le f m l (fun b hb => h b (by simp [hb]))
    rw [List.flatMap_cons, List.length_append, List.length_cons, Nat.succ_mul]
    omega
theorem head_le {t : TV} (h : TOk t) : (lineL [tableW, t.n]).length ≤ 1000 := by
  have := line_le (ws := [tableW, t.n]) (m := 32) (fun x hx => by
    simp only [List.mem_cons, List.mem_nil_iff, or_false] at hx
    rcases hx with rfl | rfl
    · decide
    · exact h.size)
  simp only [List.length_cons, List.length_nil] at this
  omega
theorem idx_flat (t : TV) : t.tb.xs.flatMap (fun x => lineL (wordsL t.tb.fs x)) = t.xs.flatMap fun x => lineL (wordsL t.fs x.x) := by
  show (t.xs.map (·.x)).flatMap _ = _
  rw [List.flatMap_map]
  rfl
theorem tabL_le {t : TV} (h : TOk t) : (tabL t.tb).length ≤ 25000 := by
  unfold tabL
  rw [idx_flat, List.length_append, List.length_append]
  have h1 : (lineL [tableW, t.tb.n]).length ≤ 1000 := head_le h
  have h2 : (t.tb.fs.flatMap fldL).length ≤ t.fs.length * 1000 := flat_le fldL 1000 t.fs (fun f hf => fldL_le h hf)
  have h3 := flat_le (fun x : XV => lineL (wordsL t.fs x.x)) 1000 t.xs (fun x hx => wordsL_le h (h.xok x hx))
  have := h.fmost
  have := h.xmost
  omega
theorem printL_take_le {ts : List TV} (h : ∀ t ∈ ts, TOk t) (k : Nat) (h16 : ts.length ≤ 16) : (printL (tbs (ts.take k))).length ≤ 400000 := by
  have := flat_le tabL 25000 (tbs (ts.take k)) (fun b hb => by
    obtain ⟨t, ht, rfl⟩ := List.mem_map.1 hb
    exact tabL_le (h t (List.mem_of_mem_take ht)))
  unfold printL
  have h2 : (tbs (ts.take k)).length ≤ 16 := by simp [tbs]; omega
  omega

set_option maxRecDepth 100000 in
set_option maxHeartbeats 4000000 in
theorem print_calls (ao : Option Addr) (cap : Nat) (ts : List TV) (w : World) (ht : TabsRd w ao ts) (hk : KindsAt w) :
    Calls Tryd.prog 8 #[.agg #[.slice ao ts.length cap]] w fun e w' => e = .returned (.string ⟨(printL (tbs ts)).toArray⟩) ∧ Below w.heap.size w w' := by
  have HT : Hid (TabsRd w ao ts) := ht
  have HK : Hid (KindsAt w) := hk
  have hm := ht.most
  clear ht hk
  obtain ⟨b, hb⟩ : ∃ b, b = w.heap.size + 1 := ⟨_, rfl⟩
  go_enter Tryd.func8, Tryd.ntmps8
  go_wp2_with fail
  obtain ⟨w1, hw1⟩ : ∃ w1, w1 = (w.alloc (.cells #[.slice ao ts.length cap] 25)).alloc (.cells #[.pointer none, .slice none 0 0] 56) := ⟨_, rfl⟩
  rw [← hw1, ← hb]
  have HB1 : Hid (Bld b b [] w1) := by
    have := Lib.fresh_isBuilder 56 5 (w.alloc (.cells #[.slice ao ts.length cap] 25))
    rw [World.size_alloc] at this
    rw [Hid, hw1, hb]
    exact Lib.IsBuilderF.of this
  have H1 : Hid (Below w.heap.size w w1) := by rw [Hid, hw1]; exact ((Below.refl _ _).alloc (Nat.le_refl _) _).alloc (by simp) _
  have hs1 : b < w1.heap.size := by rw [hw1, hb]; simp
  have hbw : w.heap.size ≤ b := by omega
  clear hw1 hb
  go_loopw [13] (fun i wr => ∃ k : Nat, k ≤ ts.length ∧ i = .int .i64 k ∧ Hid (Bld b b (printL (tbs (ts.take k))) wr ∧ Below b w1 wr)) (fun i _ => ts.length - (intOf i).toNat)
  case atStart => exact ⟨0, Nat.zero_le _, rfl, by rw [List.take_zero]; exact HB1.out, Below.refl _ _⟩
  case round =>
    obtain ⟨k, hk, rfl, HI⟩ := hrel
    have hbr : Below w.heap.size w wr := H1.out.trans (HI.out.2.mono hbw)
    by_cases hlt : k < ts.length
    · obtain ⟨ab, off, rfl, c0, c1, c2⟩ := (HT.out.row.below hbr).tab k hlt
      obtain ⟨t, hte⟩ : ∃ t, t = ts[k] := ⟨_, rfl⟩
      have htm : t ∈ ts := by rw [hte]; exact List.getElem_mem hlt
      rw [← hte] at c0 c1 c2
      have HTK : Hid (ts.take (k + 1) = ts.take k ++ [t]) := by rw [hte]; exact List.take_succ_eq_append_getElem hlt
      have HOK : Hid (TOk t) := HT.out.ok t htm
      obtain ⟨L, hL⟩ : ∃ L, L = printL (tbs (ts.take k)) := ⟨_, rfl⟩
      have hLl : L.length ≤ 400000 := by rw [hL]; exact printL_take_le HT.out.ok k hm
      rw [← hL] at HI
      have HLn : Hid (printL (tbs (ts.take (k + 1))) = L ++ tabL t.tb) := by rw [Hid, hL, HTK.out]; simp [printL, tbs]
      have HBr : Hid (Below w.heap.size w wr) := hbr
      have HFs : Hid (∀ W, Below w.heap.size w W → CellsAt W t.fa (fcs t.fs) ∧ CellsAt W t.xa (xcs t.xs) ∧ ∀ x ∈ t.xs, CellsAt W x.va (ics x.x.ov)) := fun W hW => ⟨(HT.out.fs t htm).below hW, (HT.out.xs t htm).below hW, fun x hx => (HT.out.ov t htm x hx).below hW⟩
      have hsr : b < wr.heap.size := by have := HI.out.2.size; omega
      have hfm := HOK.out.fmost
      have hxm := HOK.out.xmost
      clear hL hte hbr
      go_wp2_with fail
      obtain ⟨w2, hw2⟩ : ∃ w2, w2 = (wr.alloc (.cells #[.string t.n, .slice t.fa t.fs.length t.fc, .slice t.xa t.xs.length t.xc] 35)).alloc (.cells #[.string tableW, .string t.n] 9) := ⟨_, rfl⟩
      obtain ⟨tb, htb⟩ : ∃ tb, tb = wr.heap.size := ⟨_, rfl⟩
      have hb2 : Below wr.heap.size wr w2 := by rw [hw2]; exact ((Below.refl _ _).alloc (Nat.le_refl _) _).alloc (by simp) _
      have hS2 : StrsAt w2 (tb + 1) [tableW, t.n] := by
        rw [hw2, htb]
        have := new_blk (wr.alloc (.cells #[.string t.n, .slice t.fa t.fs.length t.fc, .slice t.xa t.xs.length t.xc] 35)) (.cells #[.string tableW, .string t.n] 9)
        rw [World.size_alloc] at this
        exact this
      have hT2 : w2.heap[tb]? = some (.cells #[.string t.n, .slice t.fa t.fs.length t.fc, .slice t.xa t.xs.length t.xc] 35) := by rw [hw2, htb]; exact old_blk (new_blk _ _) _
      have HPL := printLine_calls b b (tb + 1) 0 2 [tableW, t.n] L w2 (HI.out.1.below hb2) (by have := hb2.size; omega) hS2.cells (by simp) (by simp) (by simp) (by have := head_le HOK.out; omega)
      have htbb : tb ≠ b := by omega
      change Calls _ _ _ ((wr.alloc (.cells #[.string t.n, .slice t.fa t.fs.length t.fc, .slice t.xa t.xs.length t.xc] 35)).alloc (.cells #[.string tableW, .string t.n] 9)) _
      rw [← hw2, ← htb]
      refine HPL.mono ?_
      rintro e w3 ⟨rfl, hB3, hb3, ho3⟩
      have HT3 : Hid (w3.heap[tb]? = some (.cells #[.string t.n, .slice t.fa t.fs.length t.fc, .slice t.xa t.xs.length t.xc] 35)) := ho3 _ _ hT2 (by simpa using htbb) (fun c fz e => by simp at e)
      have HB3 : Hid (Bld b b (L ++ lineL [tableW, t.n]) w3 ∧ Below b w1 w3) := ⟨hB3, HI.out.2.trans ((hb2.mono (by omega)).trans hb3)⟩
      have r1 : w3.cell? ⟨tb, 1, none⟩ = some (.slice t.fa t.fs.length t.fc) := by rw [cell_blk HT3.out]; rfl
      clear HPL hS2 hT2 hB3 hb3 ho3 hb2 hw2 htb HI c0 c1 c2
      go_wp2_with fail
      go_loopw [24] (fun i wx => ∃ j : Nat, j ≤ t.fs.length ∧ i = .int .i64 j ∧ Hid (Bld b b (L ++ (lineL [tableW, t.n] ++ (t.fs.take j).flatMap fldL)) wx ∧ Below b w1 wx ∧ wx.heap[tb]? = some (.cells #[.string t.n, .slice t.fa t.fs.length t.fc, .slice t.xa t.xs.length t.xc] 35))) (fun i _ => t.fs.length - (intOf i).toNat)
      case atStart => exact ⟨0, Nat.zero_le _, rfl, by simpa using HB3.out.1, HB3.out.2, HT3.out⟩
      case round =>
        obtain ⟨j, hj, rfl, HJ⟩ := hrel
        have hbj : Below w.heap.size w wr := H1.out.trans (HJ.out.2.1.mono hbw)
        have hsj : b < wr.heap.size := by have := HJ.out.2.1.size; omega
        by_cases hlj : j < t.fs.length
        · obtain ⟨ab2, off2, ef, f0, f1⟩ := (HFs.out wr hbj).1.fld j hlj
          obtain ⟨f, hfe⟩ : ∃ f, f = t.fs[j] := ⟨_, rfl⟩
          have hfmem : f ∈ t.fs := by rw [hfe]; exact List.getElem_mem hlj
          rw [← hfe] at f0 f1
          have HFK : Hid ((t.fs.take (j + 1)).flatMap fldL = (t.fs.take j).flatMap fldL ++ fldL f) := by rw [Hid, List.take_succ_eq_append_getElem hlj, List.flatMap_append, List.flatMap_cons, List.flatMap_nil, List.append_nil, hfe]
          have hj1 : ((t.fs.take j).flatMap fldL).length ≤ 16000 := by
            have := flat_le fldL 1000 (t.fs.take j) (fun f hf => fldL_le HOK.out (List.mem_of_mem_take hf))
            have h2 : (t.fs.take j).length ≤ 16 := by simp; omega
            omega
          have hj2 : (lineL [tableW, t.n]).length ≤ 1000 := head_le HOK.out
          have hj3 : (lineL [fieldW, f.n, wordB f.k]).length ≤ 1000 := fldL_le HOK.out hfmem
          obtain ⟨L2, hL2⟩ : ∃ L2, L2 = L ++ (lineL [tableW, t.n] ++ (t.fs.take j).flatMap fldL) := ⟨_, rfl⟩
          have hL2l : L2.length ≤ 500000 := by rw [hL2, List.length_append, List.length_append]; omega
          rw [← hL2] at HJ
          have HL2 : Hid (L ++ (lineL [tableW, t.n] ++ (t.fs.take (j + 1)).flatMap fldL) = L2 ++ lineL [fieldW, f.n, wordB f.k]) := by rw [Hid, HFK.out, hL2]; simp [fldL]
          have HEF : Hid (t.fa = some ⟨ab2, off2, none⟩) := ef
          have HKj : Hid (KindsAt wr) := HK.out.below hbj
          rw [ef]
          clear hfe ef hL2 hbj HFK
          go_wp2_with fail
          obtain ⟨w4, hw4⟩ : ∃ w4, w4 = wr.alloc (.cells #[.string f.n, .int .i64 f.k] 40) := ⟨_, rfl⟩
          obtain ⟨fb, hfb⟩ : ∃ fb, fb = wr.heap.size := ⟨_, rfl⟩
          rw [← hw4, ← hfb]
          have hb4 : Below wr.heap.size wr w4 := by rw [hw4]; exact (Below.refl _ _).alloc (Nat.le_refl _) _
          have HF4 : Hid (w4.heap[fb]? = some (.cells #[.string f.n, .int .i64 f.k] 40)) := by rw [Hid, hw4, hfb]; exact new_blk _ _
          have g0 : w4.cell? ⟨fb, 0, none⟩ = some (.string f.n) := by rw [cell_blk HF4.out]; rfl
          have g1 : w4.cell? ⟨fb, 1, none⟩ = some (.int .i64 f.k) := by rw [cell_blk HF4.out]; rfl
          have hf4 : fb < w4.heap.size := lt_blk HF4.out
          have hfbb : fb ≠ b := by omega
          have hs4 : b < w4.heap.size := by have := hb4.size; omega
          have HB4 : Hid (Bld b b L2 w4 ∧ Below b w1 w4 ∧ w4.heap[tb]? = some (.cells #[.string t.n, .slice t.fa t.fs.length t.fc, .slice t.xa t.xs.length t.xc] 35)) := ⟨HJ.out.1.below hb4, HJ.out.2.1.trans (hb4.mono (by omega)), (hb4.block _ (lt_blk HJ.out.2.2)).trans HJ.out.2.2⟩
          have HK4 : Hid (KindsAt w4) := HKj.out.below hb4
          clear hw4 hfb hb4 f0 f1 HJ HKj
          go_region_held3 (fun W => W.cell? ⟨fb, 0, none⟩ = some (.string f.n) ∧ W.cell? ⟨fb, 1, none⟩ = some (.int .i64 f.k)) (first | (exact q5) | (exact q6) | go_keep)
            (first
              | (go_at_call 17
                 refine (wordOf_calls f.k _ (by exact HK4.out.below ⟨rfl, rfl, rfl, Nat.le_refl _, fun _ _ => rfl⟩)).mono ?_
                 rintro e w5 ⟨rfl, hb5⟩
                 have HB5 : Hid (Below w4.heap.size w4 w5) := ⟨hb5.os, hb5.tape, hb5.output, hb5.size, hb5.block⟩
                 have q6 : w5.cell? ⟨fb, 0, none⟩ = some (.string f.n) ∧ w5.cell? ⟨fb, 1, none⟩ = some (.int .i64 f.k) := ⟨by rw [HB5.out.cell (by exact hf4)]; exact g0, by rw [HB5.out.cell (by exact hf4)]; exact g1⟩
                 have hf5 : fb < w5.heap.size := Nat.lt_of_lt_of_le hf4 HB5.out.size
                 clear hb5)
              | (go_at_call 16
                 refine (printLine_calls b b w5.heap.size 0 3 [fieldW, f.n, wordB f.k] L2 (w5.alloc (.cells #[.string fieldW, .string f.n, .string (wordB f.k)] 9)) (HB4.out.1.below (HB5.out.alloc HB5.out.size _)) (by have := HB5.out.size; simp; omega) (StrsAt.cells (new_blk w5 _)) (by simp) (by simp) (by simp) (by omega)).mono ?_
                 rintro e w6 ⟨rfl, hB6, hb6, ho6⟩
                 have HF6 : Hid (w6.heap[fb]? = some (.cells #[.string f.n, .int .i64 f.k] 40)) := ho6 _ _ (old_blk ((HB5.out.block _ hf4).trans HF4.out) _) (by simpa using hfbb) (fun c fz e => by simp at e)
                 have HT6 : Hid (w6.heap[tb]? = some (.cells #[.string t.n, .slice t.fa t.fs.length t.fc, .slice t.xa t.xs.length t.xc] 35)) := ho6 _ _ (old_blk ((HB5.out.block _ (lt_blk HB4.out.2.2)).trans HB4.out.2.2) _) (by simpa using htbb) (fun c fz e => by simp at e)
                 have HB6 : Hid (Bld b b (L2 ++ lineL [fieldW, f.n, wordB f.k]) w6 ∧ Below b w1 w6) := ⟨hB6, HB4.out.2.1.trans (((HB5.out.alloc HB5.out.size _).mono (by omega)).trans hb6)⟩
                 have q5 : w6.cell? ⟨fb, 0, none⟩ = some (.string f.n) ∧ w6.cell? ⟨fb, 1, none⟩ = some (.int .i64 f.k) := ⟨by rw [cell_blk HF6.out]; rfl, by rw [cell_blk HF6.out]; rfl⟩
                 clear hB6 hb6 ho6))
          go_wp2
          go_roundw
          case rel => exact ⟨j + 1, by omega, by go_num, by rw [HL2.out]; exact HB6.out.1, HB6.out.2, by rw [← HEF.out]; exact HT6.out⟩
          case measure => simp [intOf]; omega
        · obtain rfl : j = t.fs.length := by omega
          have HBf : Hid (Bld b b (L ++ (lineL [tableW, t.n] ++ t.fs.flatMap fldL)) wr ∧ Below b w1 wr ∧ wr.heap[tb]? = some (.cells #[.string t.n, .slice t.fa t.fs.length t.fc, .slice t.xa t.xs.length t.xc] 35)) := by have := HJ.out; rwa [List.take_length] at this
          have r2 : wr.cell? ⟨tb, 2, none⟩ = some (.slice t.xa t.xs.length t.xc) := by rw [cell_blk HBf.out.2.2]; rfl
          clear HJ hbj
          go_wp2_with fail
          go_loopw [39] (fun i wx => ∃ j : Nat, j ≤ t.xs.length ∧ i = .int .i64 j ∧ Hid (Bld b b (L ++ (lineL [tableW, t.n] ++ (t.fs.flatMap fldL ++ (t.xs.take j).flatMap fun x => lineL (wordsL t.fs x.x)))) wx ∧ Below b w1 wx ∧ wx.heap[tb]? = some (.cells #[.string t.n, .slice t.fa t.fs.length t.fc, .slice t.xa t.xs.length t.xc] 35))) (fun i _ => t.xs.length - (intOf i).toNat)
          case atStart => exact ⟨0, Nat.zero_le _, rfl, by simpa using HBf.out.1, HBf.out.2.1, HBf.out.2.2⟩
          case round =>
            obtain ⟨j, hj, rfl, HX⟩ := hrel
            have hbj : Below w.heap.size w wr := H1.out.trans (HX.out.2.1.mono hbw)
            have hsj : b < wr.heap.size := by have := HX.out.2.1.size; omega
            have hq1 : (t.fs.flatMap fldL).length ≤ 16000 := by
              have := flat_le fldL 1000 t.fs (fun f hf => fldL_le HOK.out hf)
              omega
            have hq2 : (lineL [tableW, t.n]).length ≤ 1000 := head_le HOK.out
            by_cases hlj : j < t.xs.length
            · obtain ⟨ab2, off2, ex, f0, f1, f2, f3, f4⟩ := (HFs.out wr hbj).2.1.idx j hlj
              obtain ⟨x, hxe⟩ : ∃ f, f = t.xs[j] := ⟨_, rfl⟩
              have hxmem : x ∈ t.xs := by rw [hxe]; exact List.getElem_mem hlj
              have HXO : Hid (XOk t x) := HOK.out.xok x hxmem
              rw [← hxe] at f0 f1 f2 f3 f4
              have HFK : Hid ((t.xs.take (j + 1)).flatMap (fun x => lineL (wordsL t.fs x.x)) = (t.xs.take j).flatMap (fun x => lineL (wordsL t.fs x.x)) ++ lineL (wordsL t.fs x.x)) := by rw [Hid, List.take_succ_eq_append_getElem hlj, List.flatMap_append, List.flatMap_cons, List.flatMap_nil, List.append_nil, hxe]
              have hj1 : ((t.xs.take j).flatMap fun x => lineL (wordsL t.fs x.x)).length ≤ 8000 := by
                have := flat_le (fun x : XV => lineL (wordsL t.fs x.x)) 1000 (t.xs.take j) (fun y hy => wordsL_le HOK.out (HOK.out.xok y (List.mem_of_mem_take hy)))
                have h2 : (t.xs.take j).length ≤ 8 := by simp; omega
                omega
              have hj3 : (lineL (wordsL t.fs x.x)).length ≤ 1000 := wordsL_le HOK.out HXO.out
              obtain ⟨L2, hL2⟩ : ∃ L2, L2 = L ++ (lineL [tableW, t.n] ++ (t.fs.flatMap fldL ++ (t.xs.take j).flatMap fun x => lineL (wordsL t.fs x.x))) := ⟨_, rfl⟩
              have hL2l : L2.length ≤ 500000 := by rw [hL2, List.length_append, List.length_append, List.length_append]; omega
              rw [← hL2] at HX
              have HL2 : Hid (L ++ (lineL [tableW, t.n] ++ (t.fs.flatMap fldL ++ (t.xs.take (j + 1)).flatMap fun x => lineL (wordsL t.fs x.x))) = L2 ++ lineL (wordsL t.fs x.x)) := by rw [Hid, HFK.out, hL2]; simp only [List.append_assoc]
              have HEX : Hid (t.xa = some ⟨ab2, off2, none⟩) := ex
              have HT1 : Hid (wr.heap[tb]? = some (.cells #[.string t.n, .slice t.fa t.fs.length t.fc, .slice (some ⟨ab2, off2, none⟩) t.xs.length t.xc] 35)) := by rw [Hid, ← ex]; exact HX.out.2.2
              have HIW : Hid (∀ W, Below wr.heap.size wr W → Calls Tryd.prog 18 #[.agg #[.string t.n, .slice t.fa t.fs.length t.fc, .slice (some ⟨ab2, off2, none⟩) t.xs.length t.xc], .agg #[.string x.x.n, .slice x.va x.x.ov.length x.vc, .bool x.x.u, .bool x.x.l, .bool x.x.s]] W
                  fun e w' => ∃ g c, e = .returned (.slice (some ⟨g, 0, none⟩) (wordsL t.fs x.x).length c) ∧ (wordsL t.fs x.x).length ≤ c ∧ CellsAt w' (some ⟨g, 0, none⟩) ((wordsL t.fs x.x).map Value.string) ∧ Below W.heap.size W w') := by
                intro W hW
                have hWw : Below w.heap.size w W := hbj.trans (hW.mono hbj.size)
                have := indexWords_calls t x W (HFs.out W hWw).1 ((HFs.out W hWw).2.2 x hxmem) HOK.out HXO.out
                rw [ex] at this
                exact this
              have u0 : wr.cell? ⟨tb, 0, none⟩ = some (.string t.n) := by rw [cell_blk HT1.out]; rfl
              have u1 : wr.cell? ⟨tb, 1, none⟩ = some (.slice t.fa t.fs.length t.fc) := by rw [cell_blk HT1.out]; rfl
              have u2 : wr.cell? ⟨tb, 2, none⟩ = some (.slice (some ⟨ab2, off2, none⟩) t.xs.length t.xc) := by rw [cell_blk HT1.out]; rfl
              have htl : tb < wr.heap.size := lt_blk HT1.out
              rw [ex]
              clear hxe ex hL2 hbj HFK
              go_upto_region 14 with fail
              obtain ⟨w4, hw4⟩ : ∃ w4, w4 = wr.alloc (.cells #[.string x.x.n, .slice x.va x.x.ov.length x.vc, .bool x.x.u, .bool x.x.l, .bool x.x.s] 38) := ⟨_, rfl⟩
              obtain ⟨xb, hxb⟩ : ∃ fb, fb = wr.heap.size := ⟨_, rfl⟩
              rw [← hw4, ← hxb]
              have hb4 : Below wr.heap.size wr w4 := by rw [hw4]; exact (Below.refl _ _).alloc (Nat.le_refl _) _
              have HX4 : Hid (w4.heap[xb]? = some (.cells #[.string x.x.n, .slice x.va x.x.ov.length x.vc, .bool x.x.u, .bool x.x.l, .bool x.x.s] 38)) := by rw [Hid, hw4, hxb]; exact new_blk _ _
              have g0 : w4.cell? ⟨xb, 0, none⟩ = some (.string x.x.n) := by rw [cell_blk HX4.out]; rfl
              have g1 : w4.cell? ⟨xb, 1, none⟩ = some (.slice x.va x.x.ov.length x.vc) := by rw [cell_blk HX4.out]; rfl
              have g2 : w4.cell? ⟨xb, 2, none⟩ = some (.bool x.x.u) := by rw [cell_blk HX4.out]; rfl
              have g3 : w4.cell? ⟨xb, 3, none⟩ = some (.bool x.x.l) := by rw [cell_blk HX4.out]; rfl
              have g4 : w4.cell? ⟨xb, 4, none⟩ = some (.bool x.x.s) := by rw [cell_blk HX4.out]; rfl
              have v0 : w4.cell? ⟨tb, 0, none⟩ = some (.string t.n) := by rw [hb4.cell (by exact htl)]; exact u0
              have v1 : w4.cell? ⟨tb, 1, none⟩ = some (.slice t.fa t.fs.length t.fc) := by rw [hb4.cell (by exact htl)]; exact u1
              have v2 : w4.cell? ⟨tb, 2, none⟩ = some (.slice (some ⟨ab2, off2, none⟩) t.xs.length t.xc) := by rw [hb4.cell (by exact htl)]; exact u2
              have HB4 : Hid (Bld b b L2 w4 ∧ Below b w1 w4 ∧ w4.heap[tb]? = some (.cells #[.string t.n, .slice t.fa t.fs.length t.fc, .slice t.xa t.xs.length t.xc] 35)) := ⟨HX.out.1.below hb4, HX.out.2.1.trans (hb4.mono (by omega)), (hb4.block _ (lt_blk HX.out.2.2)).trans HX.out.2.2⟩
              have HC4 : Hid (Calls Tryd.prog 18 #[.agg #[.string t.n, .slice t.fa t.fs.length t.fc, .slice (some ⟨ab2, off2, none⟩) t.xs.length t.xc], .agg #[.string x.x.n, .slice x.va x.x.ov.length x.vc, .bool x.x.u, .bool x.x.l, .bool x.x.s]] w4
                  fun e w' => ∃ g c, e = .returned (.slice (some ⟨g, 0, none⟩) (wordsL t.fs x.x).length c) ∧ (wordsL t.fs x.x).length ≤ c ∧ CellsAt w' (some ⟨g, 0, none⟩) ((wordsL t.fs x.x).map Value.string) ∧ Below w4.heap.size w4 w') := HIW.out w4 hb4
              have hs4 : b < w4.heap.size := by have := hb4.size; omega
              clear hw4 hxb hb4 f0 f1 f2 f3 f4 HX HIW HX4 HT1 u0 u1 u2
              go_wp2_with fail
              refine HC4.out.mono ?_
              rintro e w5 ⟨g, c, rfl, hcc, hcs, hb5⟩
              have hwl6 : (wordsL t.fs x.x).length ≤ 100 := by unfold wordsL flagsL; cases x.x.u <;> cases x.x.l <;> cases x.x.s <;> simp
              have hwl0 : 0 < (wordsL t.fs x.x).length := by unfold wordsL; simp
              have HPL := printLine_calls b b g 0 c (wordsL t.fs x.x) L2 w5 (HB4.out.1.below hb5) (by have := hb5.size; omega) hcs hwl0 hcc hwl6 (by omega)
              have HB5 : Hid (Below b w1 w5 ∧ w5.heap[tb]? = some (.cells #[.string t.n, .slice t.fa t.fs.length t.fc, .slice t.xa t.xs.length t.xc] 35)) := ⟨HB4.out.2.1.trans (hb5.mono (by omega)), (hb5.block _ (lt_blk HB4.out.2.2)).trans HB4.out.2.2⟩
              have HPL' : Hid (Calls Tryd.prog 16 #[.pointer (some ⟨b, 0, none⟩), .slice (some ⟨g, 0, none⟩) (wordsL t.fs x.x).length c] w5 fun e w' => e = .returned (.tuple #[]) ∧ Bld b b (L2 ++ lineL (wordsL t.fs x.x)) w' ∧ Below b w5 w' ∧ Lib.OthersKept 5 (some b) w5 w') := HPL
              clear HPL hcc hcs hb5 hwl6 hwl0
              go_wp2_with fail
              refine HPL'.out.mono ?_
              rintro e w6 ⟨rfl, hB6, hb6, ho6⟩
              have HB6 : Hid (Bld b b (L2 ++ lineL (wordsL t.fs x.x)) w6 ∧ Below b w1 w6 ∧ w6.heap[tb]? = some (.cells #[.string t.n, .slice t.fa t.fs.length t.fc, .slice t.xa t.xs.length t.xc] 35)) := ⟨hB6, HB5.out.1.trans hb6, ho6 _ _ HB5.out.2 (by simpa using htbb) (fun c fz e => by simp at e)⟩
              clear hB6 hb6 ho6
              go_wp2
              go_roundw
              case rel => exact ⟨j + 1, by omega, by go_num, by rw [HL2.out]; exact HB6.out.1, HB6.out.2.1, by rw [← HEX.out]; exact HB6.out.2.2⟩
              case measure => simp [intOf]; omega
            · obtain rfl : j = t.xs.length := by omega
              have HBn : Hid (Bld b b (printL (tbs (ts.take (k + 1)))) wr ∧ Below b w1 wr) := by
                refine ⟨?_, HX.out.2.1⟩
                rw [HLn.out]
                have := HX.out.1
                rw [List.take_length] at this
                unfold tabL
                rw [idx_flat]
                exact this
              clear HX hbj
              go_wp2
              go_roundw
              case rel => exact ⟨k + 1, by omega, by go_num, HBn.out⟩
              case measure => simp [intOf]; omega
    · obtain rfl : k = ts.length := by omega
      have HBe : Hid (Bld b b (printL (tbs ts)) wr) := by have := HI.out.1; rwa [List.take_length] at this
      have hsz : b ≤ wr.heap.size := by have := HI.out.2.size; omega
      have HR : Hid (Below w.heap.size w wr) := hbr
      clear hbr
      go_wp2_with fail
      refine (Tryd.Builder_String_any_k b b _ wr HBe.out hsz).mono ?_
      rintro e w2 ⟨rfl, -, hb2, -⟩
      have HR2 : Hid (Below w.heap.size w w2) := HR.out.trans (hb2.mono hbw)
      clear hb2
      go_wp2
      go_ret
      exact ⟨rfl, HR2.out⟩
end Go.Proofs.YtbpmahchinblhaaDoor
