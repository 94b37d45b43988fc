/- Layer 7 (rows): the document's Place; the law's own table. -/
import Derived.Test.YtjbnbpclelbohaaRwAll2
import Derived.Test.YtjbnbpclelbohaaRwOne
namespace Go.Proofs.Ytjbnbpclelbohaa
open Go.RowKit
set_option linter.unusedVariables false
attribute [local go_sem] Oper.semAt_some

/-- Place: a place 0 to n-1. -/
theorem place_calls (x : Int) (n : Nat) (w : World) (hn : 0 < n) (hl : n ≤ 9223372036854775807) (hx : -9223372036854775808 ≤ x ∧ x ≤ 9223372036854775807) :
    Calls Try.prog 22 #[.int .i64 x, .int .i64 (n : Int)] w fun e w' => (∃ i : Nat, i < n ∧ e = .returned (.int .i64 (i : Int))) ∧ w' = w := by
  have h1 : -(n : Int) < x.tmod n := Int.lt_tmod_of_pos x (by omega)
  have h2 : x.tmod n < (n : Int) := Int.tmod_lt_of_pos x (by omega)
  have hn0 : ¬ (n : Int) = 0 := by omega
  have hn1 : ¬ (n : Int) = -1 := by omega
  by_cases h : x.tmod n < 0
  · go_enter Try.func22, Try.ntmps22
    go_wp2
    go_ret
    exact ⟨⟨(x.tmod n + n).toNat, by omega, by go_num⟩, rfl⟩
  · go_enter Try.func22, Try.ntmps22
    go_wp2
    go_ret
    exact ⟨⟨(x.tmod n).toNat, by omega, by go_num⟩, rfl⟩

theorem rLines_err : ∀ (ls : List ByteArray) (ln : Int) (st : St) (l c : Int), rLines ln ls st = .error (l, c) → c ≠ 0
  | [], _, _, _, _, h => by cases h
  | x :: ls, ln, st, l, c, h => by
    unfold rLines at h
    split at h
    · exact rLines_err ls _ _ _ _ h
    · split at h
      · next e he =>
        simp only [Except.error.injEq] at h
        subst h
        exact (rLine_err he).1
      · exact rLines_err ls _ _ _ _ h
theorem parse_err0 {text : ByteArray} {l c : Int} (h : parseP text = .error (l, c)) : c ≠ 0 := by
  unfold parseP at h
  split at h
  · simp only [Except.error.injEq, Prod.mk.injEq] at h
    obtain ⟨_, rfl⟩ := h
    decide
  · split at h
    · next e he =>
      simp only [Except.error.injEq] at h
      subst h
      exact rLines_err _ _ _ _ _ he
    · split at h
      · simp only [Except.error.injEq, Prod.mk.injEq] at h
        obtain ⟨_, rfl⟩ := h
        decide
      · cases h

def TabR (w : World) (e : Ending) (w' : World) : Prop :=
  Below w.heap.size w w' ∧ ((∃ t, TRd w' t ∧ ROk t.tb ∧ e = .returned (.tuple #[.agg #[.string t.n, .slice t.fa t.fs.length t.fc, .slice t.xa t.xs.length t.xc], .bool true])) ∨ e = .returned (.tuple #[.agg #[.string ⟨#[]⟩, .slice none 0 0, .slice none 0 0], .bool false]))
theorem table_results {W : World} {b : Nat} {x y z : Value} {c : Bool} {tmps : Array Value} (h : W.heap[b]? = some (.cells #[x, y, z] 29)) (h4 : tmps[4]?.getD undef = .pointer (some ⟨b, 0, none⟩)) (h5 : tmps[5]?.getD undef = .bool c) :
    (results Try.f8 tmps).run Try.prog W = .ok (.tuple #[.agg #[x, y, z], .bool c]) W := by
  have s0 : W.cell? ⟨b, 0, none⟩ = some x := by rw [cell_blk h]; rfl
  have s1 : W.cell? ⟨b, 1, none⟩ = some y := by rw [cell_blk h]; rfl
  have s2 : W.cell? ⟨b, 2, none⟩ = some z := by rw [cell_blk h]; rfl
  simp [results, Try.results8, go_sem, h4, h5, s0, s1, s2]

set_option maxRecDepth 100000 in
set_option maxHeartbeats 2000000 in
theorem table_calls (text : ByteArray) (at' : Int) (w : World) (hs : text.size ≤ 140737488351232) (ha : -9223372036854775808 ≤ at' ∧ at' ≤ 9223372036854775807) :
    Calls Try.prog 8 #[.string text, .int .i64 at'] w fun e w' => TabR w e w' := by
  obtain ⟨w1, hw1⟩ : ∃ w1, w1 = w.alloc (.cells #[.string ⟨#[]⟩, .slice none 0 0, .slice none 0 0] 29) := ⟨_, rfl⟩
  have HP : Hid (Calls Try.prog 21 #[.string text] w1 fun e w' => PParsed w1 (parseP text) e w') := rparse_calls text w1 (by omega)
  have HB1 : Hid (Below w.heap.size w w1) := by rw [hw1]; exact (Below.refl _ _).alloc (Nat.le_refl _) _
  have HR1 : Hid (w1.heap[w.heap.size]? = some (.cells #[.string ⟨#[]⟩, .slice none 0 0, .slice none 0 0] 29)) := by rw [Hid, hw1]; exact new_blk _ _
  go_enter Try.func8, Try.ntmps8
  go_wp2_with fail
  rw [← hw1]
  clear hw1
  refine HP.out.mono ?_
  clear HP
  rintro e w2 hpp
  cases h : parseP text with
  | error lc =>
    obtain ⟨ln, c⟩ := lc
    rw [h] at hpp
    obtain ⟨rfl, hb2⟩ := hpp
    have hc0 : c ≠ 0 := parse_err0 h
    have HR2 : Hid (w2.heap[w.heap.size]? = some (.cells #[.string ⟨#[]⟩, .slice none 0 0, .slice none 0 0] 29)) := (hb2.block _ (lt_blk HR1.out)).trans HR1.out
    have HB2 : Hid (Below w.heap.size w w2) := HB1.out.trans (hb2.mono HB1.out.size)
    have r0 : w2.cell? ⟨w.heap.size, 0, none⟩ = some (.string ⟨#[]⟩) := by rw [cell_blk HR2.out]; rfl
    have r1 : w2.cell? ⟨w.heap.size, 1, none⟩ = some (.slice none 0 0) := by rw [cell_blk HR2.out]; rfl
    have r2 : w2.cell? ⟨w.heap.size, 2, none⟩ = some (.slice none 0 0) := by rw [cell_blk HR2.out]; rfl
    have z0 : w2.frozen? ⟨w.heap.size, 0, none⟩ = false := frozen_blk HR2.out
    have z1 : w2.frozen? ⟨w.heap.size, 1, none⟩ = false := frozen_blk HR2.out
    have z2 : w2.frozen? ⟨w.heap.size, 2, none⟩ = false := frozen_blk HR2.out
    have hwl : w.heap.size < w2.heap.size := lt_blk HR2.out
    have q1 : (c == 0) = false := by simpa using hc0
    have q2 : (c != 0) = true := by simp only [bne, q1, Bool.not_false]
    clear h hb2
    go_wp2
    exact bodyPost_ret (table_results (old_blk (set_blk (i := 2) (set_blk (i := 1) (set_blk (i := 0) HR2.out _) _) _) _) rfl rfl) rfl ⟨(((HB2.out.setCell (Nat.le_refl _) _).setCell (Nat.le_refl _) _).setCell (Nat.le_refl _) _).alloc (by simp only [World.size_setCell]; omega) _, .inr rfl⟩
  | ok us =>
    rw [h] at hpp
    obtain ⟨hb2, ao, cap, ts, rfl, hts, htb⟩ := hpp
    have HRO : Hid (∀ t ∈ ts, ROk t.tb) := fun t ht => parse_rok h t.tb (by rw [← hts]; exact List.mem_map_of_mem ht)
    clear h
    have HR2 : Hid (w2.heap[w.heap.size]? = some (.cells #[.string ⟨#[]⟩, .slice none 0 0, .slice none 0 0] 29)) := (hb2.block _ (lt_blk HR1.out)).trans HR1.out
    have HB2 : Hid (Below w.heap.size w w2) := HB1.out.trans (hb2.mono HB1.out.size)
    have HTB : Hid (Tabs w2 w1.heap.size (.slice ao ts.length cap) ts) := htb
    have hm := htb.most
    have hwl : w.heap.size < w2.heap.size := lt_blk HR2.out
    have r0 : w2.cell? ⟨w.heap.size, 0, none⟩ = some (.string ⟨#[]⟩) := by rw [cell_blk HR2.out]; rfl
    have r1 : w2.cell? ⟨w.heap.size, 1, none⟩ = some (.slice none 0 0) := by rw [cell_blk HR2.out]; rfl
    have r2 : w2.cell? ⟨w.heap.size, 2, none⟩ = some (.slice none 0 0) := by rw [cell_blk HR2.out]; rfl
    have z0 : w2.frozen? ⟨w.heap.size, 0, none⟩ = false := frozen_blk HR2.out
    have z1 : w2.frozen? ⟨w.heap.size, 1, none⟩ = false := frozen_blk HR2.out
    have z2 : w2.frozen? ⟨w.heap.size, 2, none⟩ = false := frozen_blk HR2.out
    clear hts hb2 htb
    by_cases h0 : ts.length = 0
    · obtain rfl := List.length_eq_zero_iff.1 h0
      have hl0 : ([] : List TV).length = 0 := rfl
      rw [hl0]
      clear h0 hl0
      go_wp2
      exact bodyPost_ret (table_results (old_blk (set_blk (i := 2) (set_blk (i := 1) (set_blk (i := 0) HR2.out _) _) _) _) rfl rfl) rfl ⟨(((HB2.out.setCell (Nat.le_refl _) _).setCell (Nat.le_refl _) _).setCell (Nat.le_refl _) _).alloc (by simp only [World.size_setCell]; omega) _, .inr rfl⟩
    · obtain ⟨g, rfl⟩ : ∃ g, ao = some ⟨g, 0, none⟩ := by
        obtain ⟨_, _, he, hh⟩ := HTB.out.form
        simp only [Value.slice.injEq] at he
        obtain ⟨rfl, _, rfl⟩ := he
        exact hh (by omega)
      have HN : Hid (0 < ts.length) := by rw [Hid]; omega
      have HCC : Hid (∀ i, i < ts.length → ∃ t, t ∈ ts ∧ w2.cell? ⟨g, i * 3, none⟩ = some (.string t.n) ∧ w2.cell? ⟨g, i * 3 + 1, none⟩ = some (.slice t.fa t.fs.length t.fc) ∧ w2.cell? ⟨g, i * 3 + 2, none⟩ = some (.slice t.xa t.xs.length t.xc)) := fun i h => by
        obtain ⟨b, o, e, c0, c1, c2⟩ := (row_cells HTB.out.row).tab i h
        simp only [Option.some.injEq, Addr.mk.injEq] at e
        obtain ⟨rfl, rfl, _⟩ := e
        rw [Nat.zero_add] at c0 c1 c2
        exact ⟨ts[i], List.getElem_mem h, c0, c1, c2⟩
      have hgl : g < w2.heap.size := (World.ownsRow.lt HTB.out.row g rfl).2
      have hgw : w.heap.size ≠ g := fun e => by have h1 := (World.ownsRow.lt HTB.out.row g rfl).1; have h2 := lt_blk HR1.out; omega
      obtain ⟨nn, hnn⟩ : ∃ nn, nn = ts.length := ⟨_, rfl⟩
      rw [← hnn] at HCC HN hm h0 ⊢
      clear hnn
      have q1 : ((nn : Int) == 0) = false := by simpa using h0
      have q2 : ¬ nn = 0 := h0
      clear h0
      go_upto_region 4 with fail
      obtain ⟨w3, hw3⟩ : ∃ w3, w3 = w2.alloc (.cells #[.slice (some ⟨g, 0, none⟩) nn cap] 69) := ⟨_, rfl⟩
      rw [← hw3]
      have hb3 : Below w2.heap.size w2 w3 := by rw [hw3]; exact (Below.refl _ _).alloc (Nat.le_refl _) _
      have s0 : w3.cell? ⟨w2.heap.size, 0, none⟩ = some (.slice (some ⟨g, 0, none⟩) nn cap) := by rw [hw3, cell_blk (new_blk _ _)]; rfl
      have HR3 : Hid (w3.heap[w.heap.size]? = some (.cells #[.string ⟨#[]⟩, .slice none 0 0, .slice none 0 0] 29)) := (hb3.block _ (lt_blk HR2.out)).trans HR2.out
      have HB3 : Hid (Below w.heap.size w w3) := HB2.out.trans (hb3.mono HB2.out.size)
      have HC3 : Hid (∀ i, i < nn → ∃ t, t ∈ ts ∧ w3.cell? ⟨g, i * 3, none⟩ = some (.string t.n) ∧ w3.cell? ⟨g, i * 3 + 1, none⟩ = some (.slice t.fa t.fs.length t.fc) ∧ w3.cell? ⟨g, i * 3 + 2, none⟩ = some (.slice t.xa t.xs.length t.xc)) := fun i h => by
        obtain ⟨t, ht, c0, c1, c2⟩ := HCC.out i h
        exact ⟨t, ht, by rw [hb3.cell (by exact hgl)]; exact c0, by rw [hb3.cell (by exact hgl)]; exact c1, by rw [hb3.cell (by exact hgl)]; exact c2⟩
      have r0' : w3.cell? ⟨w.heap.size, 0, none⟩ = some (.string ⟨#[]⟩) := by rw [cell_blk HR3.out]; rfl
      have r1' : w3.cell? ⟨w.heap.size, 1, none⟩ = some (.slice none 0 0) := by rw [cell_blk HR3.out]; rfl
      have r2' : w3.cell? ⟨w.heap.size, 2, none⟩ = some (.slice none 0 0) := by rw [cell_blk HR3.out]; rfl
      have z0' : w3.frozen? ⟨w.heap.size, 0, none⟩ = false := frozen_blk HR3.out
      have z1' : w3.frozen? ⟨w.heap.size, 1, none⟩ = false := frozen_blk HR3.out
      have z2' : w3.frozen? ⟨w.heap.size, 2, none⟩ = false := frozen_blk HR3.out
      have HPC : Hid (Calls Try.prog 22 #[.int .i64 at', .int .i64 (nn : Int)] w3.drew fun e w' => (∃ i : Nat, i < nn ∧ e = .returned (.int .i64 (i : Int))) ∧ w' = w3.drew) := place_calls at' nn w3.drew (by omega) (by omega) ha
      have HTB3 : Hid (Tabs w3 w1.heap.size (.slice (some ⟨g, 0, none⟩) ts.length cap) ts) := HTB.out.below hb3
      have hw1l : w.heap.size < w1.heap.size := lt_blk HR1.out
      clear hw3 hb3 r0 r1 r2 z0 z1 z2 HCC HR2 HB2 HTB
      go_region_law
        (first
          | (go_simp
             go_at_call 22
             refine HPC.out.mono ?_
             rintro e w4 ⟨⟨i, hi, rfl⟩, hw4⟩
             rw [hw4]
             obtain ⟨t, ht, c0, c1, c2⟩ := HC3.out i hi
             have HTM : Hid (t ∈ ts) := ht
             have hii : (i : Int) < (nn : Int) := by omega
             clear hw4 ht
             dsimp only))
      all_goals
        go_wp2
        have HT5 := (((HTB3.out.below (⟨rfl, rfl, rfl, Nat.le_refl _, fun _ _ => rfl⟩ : Below w3.heap.size w3 w3.drew)).setLow (a := ⟨w.heap.size, 0, none⟩) hw1l (.string t.n)).setLow (a := ⟨w.heap.size, 1, none⟩) hw1l (.slice t.fa t.fs.length t.fc)).setLow (a := ⟨w.heap.size, 2, none⟩) hw1l (.slice t.xa t.xs.length t.xc)
        have HB5 : Below w.heap.size w w3.drew := ⟨HB3.out.os, HB3.out.tape, HB3.out.output, HB3.out.size, HB3.out.block⟩
        have HR5 : w3.drew.heap[w.heap.size]? = some (.cells #[.string ⟨#[]⟩, .slice none 0 0, .slice none 0 0] 29) := HR3.out
        exact bodyPost_ret (table_results (set_blk (i := 2) (set_blk (i := 1) (set_blk (i := 0) HR5 _) _) _) rfl rfl) rfl ⟨((HB5.setCell (Nat.le_refl _) _).setCell (Nat.le_refl _) _).setCell (Nat.le_refl _) _, .inl ⟨t, HT5.rd HTM.out, HRO.out t HTM.out, rfl⟩⟩
end Go.Proofs.Ytjbnbpclelbohaa
