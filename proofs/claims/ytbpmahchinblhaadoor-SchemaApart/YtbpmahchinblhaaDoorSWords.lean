/- Layer 6 (schema): indexWords. -/
import Derived.Test.YtbpmahchinblhaaDoorSPrint2
namespace Go.Proofs.YtbpmahchinblhaaDoor
open Go.RowKit Go.Shelf
set_option linter.unusedVariables false
attribute [local go_sem] Oper.semAt_some

def nmAt (fs : List Fd) (p : Int) : ByteArray := (fs.getD p.toNat ⟨⟨#[]⟩, 0⟩).n
def namesL (fs : List Fd) (ov : List Int) : List ByteArray := ov.map (nmAt fs)
def joinedL (fs : List Fd) (ov : List Int) : ByteArray := ⟨(Lib.join ((namesL fs ov).map (·.data.toList)) [44]).toArray⟩
def flagsL (u l s : Bool) : List ByteArray := (if u then [uniqueW] else []) ++ ((if l then [lowerW] else []) ++ (if s then [looseW] else []))
def wordsL (fs : List Fd) (x : Ix) : List ByteArray := [indexW, x.n, joinedL fs x.ov] ++ flagsL x.u x.l x.s

theorem info_str : (Tryd.prog.info? 9).map (fun i => (i.zero, i.size, i.bytes)) = some (some (.string ⟨#[]⟩), 1, 16) := by kernel_rfl

/-- While the names are laid. -/
structure WrdI (w : World) (t : TV) (x : XV) (k : Nat) (wr : World) : Prop where
  below : Below w.heap.size w wr
  bt : wr.heap[w.heap.size]? = some (.cells #[.string t.n, .slice t.fa t.fs.length t.fc, .slice t.xa t.xs.length t.xc] 35)
  bx : wr.heap[w.heap.size + 1]? = some (.cells #[.string x.x.n, .slice x.va x.x.ov.length x.vc, .bool x.x.u, .bool x.x.l, .bool x.x.s] 38)
  row : ∃ M : Array Value, wr.heap[w.heap.size + 2]? = some (.cells M 9) ∧ M.size = x.x.ov.length ∧ ∀ j (h : j < x.x.ov.length), j < k → M[j]? = some (.string (nmAt t.fs x.x.ov[j]))

theorem WrdI.next {w : World} {t : TV} {x : XV} {k : Nat} {wr w' : World} (h : WrdI w t x k wr) (hk : k < x.x.ov.length) (hb : Below wr.heap.size wr w') : WrdI w t x (k + 1) (w'.setCell ⟨w.heap.size + 2, k, none⟩ (.string (nmAt t.fs x.x.ov[k]))) := by
  obtain ⟨M, m1, m2, m3⟩ := h.row
  have m1' := (hb.block _ (lt_blk m1)).trans m1
  refine ⟨(h.below.trans (hb.mono h.below.size)).setCell (by show w.heap.size ≤ w.heap.size + 2; omega) _, ?_, ?_, M.setIfInBounds k (.string (nmAt t.fs x.x.ov[k])), set_blk m1' _, by simpa using m2, fun j hj hjk => ?_⟩
  · exact (heap_setCell_other _ _ _ _ (fun e => by have e' : w.heap.size = w.heap.size + 2 := e; omega)).trans ((hb.block _ (lt_blk h.bt)).trans h.bt)
  · exact (heap_setCell_other _ _ _ _ (fun e => by have e' : w.heap.size + 1 = w.heap.size + 2 := e; omega)).trans ((hb.block _ (lt_blk h.bx)).trans h.bx)
  · rcases Nat.lt_or_ge j k with hc | hc
    · rw [Array.getElem?_setIfInBounds_ne (by omega)]
      exact m3 j hj hc
    · have : j = k := by omega
      subst this
      rw [Array.getElem?_setIfInBounds_self_of_lt (by omega)]

theorem join_le (sep : List UInt8) : ∀ (ws : List (List UInt8)) (m : Nat), (∀ x ∈ ws, x.length ≤ m) → (Lib.join ws sep).length ≤ ws.length * (m + sep.length)
  | [], m, h => by simp [Lib.join, List.intercalate]
  | [a], m, h => by
    have := h a (by simp)
    rw [Lib.join_one]
    simp; omega
  | a :: b :: r, m, h => by
    have h1 := h a (by simp)
    have ih := join_le sep (b :: r) m (fun x hx => h x (by simp [hx]))
    have e : Lib.join (a :: b :: r) sep = a ++ (sep ++ Lib.join (b :: r) sep) := by simp [Lib.join, List.intercalate, List.intersperse]
    rw [e, List.length_append, List.length_append]
    have : (a :: b :: r).length * (m + sep.length) = (m + sep.length) + (b :: r).length * (m + sep.length) := by rw [List.length_cons, Nat.succ_mul]; omega
    omega
theorem nmAt_size {t : TV} (h : TOk t) (p : Int) (hp : 0 ≤ p ∧ p < t.fs.length) : (nmAt t.fs p).size ≤ 32 := by
  have hq : p.toNat < t.fs.length := by omega
  unfold nmAt
  rw [List.getD_eq_getElem?_getD, List.getElem?_eq_getElem hq]
  exact (h.fsize _ (List.getElem_mem hq)).1
theorem joined_le' {t : TV} (h : TOk t) {ov : List Int} (hp : ∀ p ∈ ov, 0 ≤ p ∧ p < t.fs.length) (h4 : ov.length ≤ 4) : (Lib.join ((namesL t.fs ov).map (·.data.toList)) [44]).length ≤ 132 := by
  have := join_le [44] ((namesL t.fs ov).map (·.data.toList)) 32 (fun x hx => by
    obtain ⟨a, ha, rfl⟩ := List.mem_map.1 hx
    obtain ⟨p, hpm, rfl⟩ := List.mem_map.1 ha
    simpa using nmAt_size h p (hp p hpm))
  simp only [List.length_map, namesL, List.length_cons, List.length_nil] at this
  have h5 : ov.length * (32 + (0 + 1)) ≤ 132 := by omega
  simp only [namesL]
  omega
theorem joined_le {t : TV} (h : TOk t) {ov : List Int} (hp : ∀ p ∈ ov, 0 ≤ p ∧ p < t.fs.length) (h4 : ov.length ≤ 4) : (Lib.join ((namesL t.fs ov).map (·.data.toList)) (⟨#[44]⟩ : ByteArray).data.toList).length ≤ 140737488355328 :=
  Nat.le_trans (joined_le' h hp h4) (by decide)
theorem words_end {fs : List Fd} {x : Ix} {base : List ByteArray} {u l s : Bool} {w w' : World} {v : Value} {n : Nat} {cs : List Value} (hw : wordsL fs x = base ++ flagsL u l s) (ho : w'.ownsRow w.heap.size 9 1 v n cs) (hb : Below w.heap.size w w') (hc : cs = (base ++ flagsL u l s).map Value.string) :
    ∃ g c, Ending.returned v = .returned (.slice (some ⟨g, 0, none⟩) (wordsL fs x).length c) ∧ (wordsL fs x).length ≤ c ∧ CellsAt w' (some ⟨g, 0, none⟩) ((wordsL fs x).map Value.string) ∧ Below w.heap.size w w' := by
  have hl : n = (wordsL fs x).length := by have := ho.1; rw [hc, ← hw, List.length_map] at this; omega
  have h3 : 3 ≤ (wordsL fs x).length := by simp [wordsL]
  rcases ho.2 with ⟨_, h0⟩ | ⟨g, cap, cur, rfl, _, _, hcap, _⟩
  · omega
  · refine ⟨g, cap, by rw [hl], by rw [← hl]; exact hcap, ?_, hb⟩
    rw [hw, ← hc]
    exact row_cells ho
theorem strs_one (l : List ByteArray) : ∀ u ∈ l.map Value.string, u.oneCell' = true := by
  intro u hu
  obtain ⟨a, _, rfl⟩ := List.mem_map.1 hu
  rfl

set_option maxRecDepth 100000 in
set_option maxHeartbeats 4000000 in
theorem indexWords_calls (t : TV) (x : XV) (w : World) (hf : CellsAt w t.fa (fcs t.fs)) (ho : CellsAt w x.va (ics x.x.ov)) (hok : TOk t) (hx : XOk t x) :
    Calls Tryd.prog 18 #[.agg #[.string t.n, .slice t.fa t.fs.length t.fc, .slice t.xa t.xs.length t.xc], .agg #[.string x.x.n, .slice x.va x.x.ov.length x.vc, .bool x.x.u, .bool x.x.l, .bool x.x.s]] w
      fun e w' => ∃ g c, e = .returned (.slice (some ⟨g, 0, none⟩) (wordsL t.fs x.x).length c) ∧ (wordsL t.fs x.x).length ≤ c ∧ CellsAt w' (some ⟨g, 0, none⟩) ((wordsL t.fs x.x).map Value.string) ∧ Below w.heap.size w w' := by
  have hn4 := hx.most
  have hn1 := hx.one
  have hfm := hok.fmost
  have HP : Hid (∀ p ∈ x.x.ov, 0 ≤ p ∧ p < t.fs.length) := hx.place
  have HF : Hid (CellsAt w t.fa (fcs t.fs)) := hf
  have HOv : Hid (CellsAt w x.va (ics x.x.ov)) := ho
  have HOK : Hid (TOk t) := hok
  obtain ⟨i0, hi, hz0, hz1, hz2⟩ := info_of info_str
  obtain ⟨M, HM⟩ : ∃ M, M = madeCells (Value.string ⟨#[]⟩).cells (((x.x.ov.length : Nat) : Int).toNat * i0.size) := ⟨_, rfl⟩
  have hMs : M.size = x.x.ov.length := by rw [HM, size_madeCells, hz1]; simp
  have hmake : ∀ W : World, (Instr.makeSlice 43 (.int .i64 (x.x.ov.length : Int)) (.int .i64 (x.x.ov.length : Int))).run Tryd.prog W = .ok (.slice (some ⟨W.heap.size, 0, none⟩) x.x.ov.length x.x.ov.length) (W.alloc (.cells M 9)) := fun W => by
    have h := run_make (P := Tryd.prog) W 43 9 i0 (.string ⟨#[]⟩) Tryd.underlying43 hi hz0 .i64 .i64 (x.x.ov.length : Int) (x.x.ov.length : Int) (by omega) (by omega) (by rw [hz2]; omega) (by omega)
    rw [← HM] at h
    simpa using h
  clear HM hi hz0 hz1 hz2 hf ho hok hx
  go_enter Tryd.func18, Tryd.ntmps18
  go_wp2_with fail
  go_loopw [6, 7, 16] (fun _ _ i wr => ∃ k : Nat, k ≤ x.x.ov.length ∧ i = .int .i64 k ∧ Hid (WrdI w t x k wr)) (fun _ _ i _ => x.x.ov.length - (intOf i).toNat)
  case atStart =>
    refine ⟨0, Nat.zero_le _, rfl, ⟨?_, old_blk (old_blk (new_blk _ _) _) _, ?_, M, ?_, hMs, fun j hj h0 => by omega⟩⟩
    · exact (((Below.refl _ _).alloc (Nat.le_refl _) _).alloc (by simp) _).alloc (by simp; omega) _
    · refine old_blk ?_ _
      have := new_blk (w.alloc (.cells #[.string t.n, .slice t.fa t.fs.length t.fc, .slice t.xa t.xs.length t.xc] 35)) (.cells #[.string x.x.n, .slice x.va x.x.ov.length x.vc, .bool x.x.u, .bool x.x.l, .bool x.x.s] 38)
      rw [World.size_alloc] at this
      exact this
    · have := new_blk ((w.alloc (.cells #[.string t.n, .slice t.fa t.fs.length t.fc, .slice t.xa t.xs.length t.xc] 35)).alloc (.cells #[.string x.x.n, .slice x.va x.x.ov.length x.vc, .bool x.x.u, .bool x.x.l, .bool x.x.s] 38)) (.cells M 9)
      rw [World.size_alloc, World.size_alloc] at this
      exact this
  case round =>
    obtain ⟨k, hk, rfl, HI⟩ := hrel
    have x0 : wr.cell? ⟨w.heap.size + 1, 0, none⟩ = some (.string x.x.n) := by rw [cell_blk HI.out.bx]; rfl
    have x2 : wr.cell? ⟨w.heap.size + 1, 2, none⟩ = some (.bool x.x.u) := by rw [cell_blk HI.out.bx]; rfl
    have x3 : wr.cell? ⟨w.heap.size + 1, 3, none⟩ = some (.bool x.x.l) := by rw [cell_blk HI.out.bx]; rfl
    have x4 : wr.cell? ⟨w.heap.size + 1, 4, none⟩ = some (.bool x.x.s) := by rw [cell_blk HI.out.bx]; rfl
    by_cases hlt : k < x.x.ov.length
    · obtain ⟨b, off, eo, c0⟩ := (HOv.out.below HI.out.below).num k hlt
      have hpk := HP.out _ (List.getElem_mem hlt)
      obtain ⟨q, hq⟩ : ∃ q : Nat, x.x.ov[k] = (q : Int) := ⟨x.x.ov[k].toNat, by omega⟩
      have hqn : q < t.fs.length := by omega
      have HN : Hid (nmAt t.fs x.x.ov[k] = t.fs[q].n) := by
        unfold nmAt
        rw [Hid, hq, Int.toNat_natCast, List.getD_eq_getElem?_getD, List.getElem?_eq_getElem hqn]
        rfl
      have HFN := fieldName_calls t q wr (HF.out.below HI.out.below) hqn hfm
      rw [← HN.out] at HFN
      have HFN' : Hid (Calls Tryd.prog 32 #[.agg #[.string t.n, .slice t.fa t.fs.length t.fc, .slice t.xa t.xs.length t.xc], .int .i64 (q : Int)] wr fun e w' => e = .returned (.string (nmAt t.fs x.x.ov[k])) ∧ Below wr.heap.size wr w') := HFN
      rw [hq] at c0
      have t0 : wr.cell? ⟨w.heap.size, 0, none⟩ = some (.string t.n) := by rw [cell_blk HI.out.bt]; rfl
      have t1 : wr.cell? ⟨w.heap.size, 1, none⟩ = some (.slice t.fa t.fs.length t.fc) := by rw [cell_blk HI.out.bt]; rfl
      have t2 : wr.cell? ⟨w.heap.size, 2, none⟩ = some (.slice t.xa t.xs.length t.xc) := by rw [cell_blk HI.out.bt]; rfl
      have HEO : Hid (x.va = some ⟨b, off, none⟩) := eo
      rw [eo]
      obtain ⟨M1, m1, m2, -⟩ := HI.out.row
      obtain ⟨y0, kc⟩ : ∃ y0, wr.cell? ⟨w.heap.size + 2, k, none⟩ = some y0 := ⟨M1[k], by rw [cell_blk m1]; simp [m2, hlt]⟩
      have kz : wr.frozen? ⟨w.heap.size + 2, k, none⟩ = false := frozen_blk m1
      have hlk : w.heap.size + 2 < wr.heap.size := lt_blk m1
      clear HFN hq HN eo m1 m2 x0 x2 x3 x4 hpk
      go_wp2_with fail
      refine HFN'.out.mono ?_
      rintro e w1 ⟨rfl, hb1⟩
      have kc1 : w1.cell? ⟨w.heap.size + 2, k, none⟩ = some y0 := by rw [hb1.cell (by exact hlk)]; exact kc
      have kz1 : w1.frozen? ⟨w.heap.size + 2, k, none⟩ = false := by rw [hb1.frozen (by exact hlk)]; exact kz
      have HI2 : Hid _ := HI.out.next hlt hb1
      clear hb1 kc kz
      go_wp2
      go_roundw
      case rel => exact ⟨k + 1, by omega, by go_num, HI2.out⟩
      case measure => simp [intOf]; omega
    · obtain rfl : k = x.x.ov.length := by omega
      obtain ⟨M1, m1, m2, m3⟩ := HI.out.row
      have hll : w.heap.size + 2 < wr.heap.size := lt_blk m1
      have hnl : (namesL t.fs x.x.ov).length = x.x.ov.length := by simp [namesL]
      have HJ := Tryd.strings_Join (w.heap.size + 2) 0 x.x.ov.length (namesL t.fs x.x.ov) ⟨#[44]⟩
      have HJ' : Hid (∀ W, Below wr.heap.size wr W → Calls Tryd.prog 31 #[.slice (some ⟨w.heap.size + 2, 0, none⟩) x.x.ov.length x.x.ov.length, .string ⟨#[44]⟩] W fun e w' => e = .returned (.string (joinedL t.fs x.x.ov)) ∧ Below W.heap.size W w') := by
        intro W hW
        have h1 := HJ W (fun j y hj => by
          obtain ⟨hjl, rfl⟩ := List.getElem?_eq_some_iff.1 hj
          have hjx : j < x.x.ov.length := by rw [← hnl]; exact hjl
          rw [Nat.zero_add, hW.cell (by exact hll), cell_blk m1, m3 j hjx hjx]
          simp [namesL]) (Nat.lt_of_lt_of_le hll hW.size) (by omega) (by omega) (joined_le HOK.out HP.out hn4)
        rw [hnl] at h1
        exact h1
      have HBw : Hid (Below w.heap.size w wr) := HI.out.below
      have HBX : Hid (wr.heap[w.heap.size + 1]? = some (.cells #[.string x.x.n, .slice x.va x.x.ov.length x.vc, .bool x.x.u, .bool x.x.l, .bool x.x.s] 38)) := HI.out.bx
      have hxl : w.heap.size + 1 < wr.heap.size := lt_blk HBX.out
      have hws : w.heap.size ≤ wr.heap.size := HI.out.below.size
      clear HJ m1 m2 m3 HI
      go_wp2_with fail
      go_region_held3 (fun W => W.cell? ⟨w.heap.size + 1, 0, none⟩ = some (.string x.x.n)) (first | (exact q3) | go_keep)
        (first
          | (go_at_call 31
             refine (HJ'.out wr.drew ⟨rfl, rfl, rfl, Nat.le_refl _, fun _ _ => rfl⟩).mono ?_
             rintro e w1 ⟨rfl, hb1⟩
             have HB1 : Hid (Below wr.heap.size wr w1) := ⟨hb1.os, hb1.tape, hb1.output, hb1.size, hb1.block⟩
             have q3 : w1.cell? ⟨w.heap.size + 1, 0, none⟩ = some (.string x.x.n) := by rw [HB1.out.cell (by exact hxl)]; exact x0
             clear hb1))
      obtain ⟨w2, hw2⟩ : ∃ w2, w2 = w1.alloc (.cells #[.string indexW, .string x.x.n, .string (joinedL t.fs x.x.ov)] 9) := ⟨_, rfl⟩
      obtain ⟨g0, hg0⟩ : ∃ g0, g0 = w1.heap.size := ⟨_, rfl⟩
      have hws1 : w.heap.size ≤ w1.heap.size := Nat.le_trans hws HB1.out.size
      have HOw : Hid (w2.ownsRow w.heap.size 9 1 (.slice (some ⟨g0, 0, none⟩) 3 3) 3 ([indexW, x.x.n, joinedL t.fs x.x.ov].map Value.string)) := by
        rw [Hid, hg0, hw2]
        exact World.ownsRow_lit w1 #[.string indexW, .string x.x.n, .string (joinedL t.fs x.x.ov)] 3 hws1 (by unfold maxLen; omega) rfl
      have H2 : Hid (Below w.heap.size w w2) := by rw [Hid, hw2]; exact (HBw.out.trans (HB1.out.mono hws)).alloc hws1 _
      have HX2 : Hid (w2.heap[w.heap.size + 1]? = some (.cells #[.string x.x.n, .slice x.va x.x.ov.length x.vc, .bool x.x.u, .bool x.x.l, .bool x.x.s] 38)) := by rw [Hid, hw2]; exact old_blk ((HB1.out.block _ hxl).trans HBX.out) _
      have hs2 : w.heap.size ≤ w2.heap.size := H2.out.size
      change Exit.then _ _ Exit.normal _ (w1.alloc (.cells #[.string indexW, .string x.x.n, .string (joinedL t.fs x.x.ov)] 9))
      rw [← hw2, ← hg0]
      have HWL : Hid (wordsL t.fs x.x = [indexW, x.x.n, joinedL t.fs x.x.ov] ++ flagsL x.x.u x.x.l x.x.s) := rfl
      obtain ⟨J, hJ⟩ : ∃ J, J = joinedL t.fs x.x.ov := ⟨_, rfl⟩
      rw [← hJ] at HWL HOw
      obtain ⟨u, hu⟩ : ∃ u, u = x.x.u := ⟨_, rfl⟩
      obtain ⟨l, hl⟩ : ∃ u, u = x.x.l := ⟨_, rfl⟩
      obtain ⟨s, hs⟩ : ∃ u, u = x.x.s := ⟨_, rfl⟩
      obtain ⟨nm, hnm⟩ : ∃ u, u = x.x.n := ⟨_, rfl⟩
      rw [← hu, ← hl, ← hs, ← hnm] at HWL HX2
      rw [← hnm] at HOw
      have y2 : w2.cell? ⟨w.heap.size + 1, 2, none⟩ = some (.bool u) := by rw [cell_blk HX2.out]; rfl
      have y3 : w2.cell? ⟨w.heap.size + 1, 3, none⟩ = some (.bool l) := by rw [cell_blk HX2.out]; rfl
      have y4 : w2.cell? ⟨w.heap.size + 1, 4, none⟩ = some (.bool s) := by rw [cell_blk HX2.out]; rfl
      clear x0 x2 x3 x4 q3 hw2 hg0 hJ hu hl hs hnm HB1 HBX HBw HJ' HP HF HOv HOK hmake
      cases u with
      | false =>
        cases l with
        | false =>
          cases s with
          | false =>
            go_wp2
            go_ret
            have hown := HOw.out
            exact words_end HWL.out hown H2.out rfl
          | true =>
            go_wp2_with (at_builtin; refine append_row _ rfl (.tmp 45) (.tmp 46) _ 9 _ 1 16 Tryd.underlying43 info_str rfl (by decide) rfl w.heap.size _ 3 _ rfl [.string looseW] rfl (by simp [Value.oneCell']) _ _ rfl rfl rfl HOw.out (by omega) (by omega) hs2 ?_)
            intro v10 w10 ho10 hg10
            have HX10 : Hid (w10.heap[w.heap.size + 1]? = _) := (hg10.grown.block _ (lt_blk HX2.out) (fun e => row_ne HOw.out HX2.out (by decide) e.symm)).trans HX2.out
            have H10 : Hid (Below w.heap.size w w10) := H2.out.trans (hg10.toBelow hs2 (fun k hk => (World.ownsRow.lt HOw.out k hk).1))
            have hs10 : w.heap.size ≤ w10.heap.size := Nat.le_trans hs2 hg10.size
            have HOw10 : Hid (w10.ownsRow w.heap.size 9 1 v10 4 _) := ho10
            obtain ⟨a10, c10, rfl, -⟩ := row_forms ho10
            have y2 : w10.cell? ⟨w.heap.size + 1, 2, none⟩ = some (.bool false) := by rw [cell_blk HX10.out]; rfl
            have y3 : w10.cell? ⟨w.heap.size + 1, 3, none⟩ = some (.bool false) := by rw [cell_blk HX10.out]; rfl
            have y4 : w10.cell? ⟨w.heap.size + 1, 4, none⟩ = some (.bool true) := by rw [cell_blk HX10.out]; rfl
            clear ho10 hg10
            go_wp2
            go_ret
            have hown := HOw10.out
            exact words_end HWL.out hown H10.out rfl
        | true =>
          cases s with
          | false =>
            go_wp2_with (at_builtin; refine append_row _ rfl (.tmp 40) (.tmp 41) _ 9 _ 1 16 Tryd.underlying43 info_str rfl (by decide) rfl w.heap.size _ 3 _ rfl [.string lowerW] rfl (by simp [Value.oneCell']) _ _ rfl rfl rfl HOw.out (by omega) (by omega) hs2 ?_)
            intro v10 w10 ho10 hg10
            have HX10 : Hid (w10.heap[w.heap.size + 1]? = _) := (hg10.grown.block _ (lt_blk HX2.out) (fun e => row_ne HOw.out HX2.out (by decide) e.symm)).trans HX2.out
            have H10 : Hid (Below w.heap.size w w10) := H2.out.trans (hg10.toBelow hs2 (fun k hk => (World.ownsRow.lt HOw.out k hk).1))
            have hs10 : w.heap.size ≤ w10.heap.size := Nat.le_trans hs2 hg10.size
            have HOw10 : Hid (w10.ownsRow w.heap.size 9 1 v10 4 _) := ho10
            obtain ⟨a10, c10, rfl, -⟩ := row_forms ho10
            have y2 : w10.cell? ⟨w.heap.size + 1, 2, none⟩ = some (.bool false) := by rw [cell_blk HX10.out]; rfl
            have y3 : w10.cell? ⟨w.heap.size + 1, 3, none⟩ = some (.bool true) := by rw [cell_blk HX10.out]; rfl
            have y4 : w10.cell? ⟨w.heap.size + 1, 4, none⟩ = some (.bool false) := by rw [cell_blk HX10.out]; rfl
            clear ho10 hg10
            go_wp2
            go_ret
            have hown := HOw10.out
            exact words_end HWL.out hown H10.out rfl
          | true =>
            go_wp2_with (at_builtin; refine append_row _ rfl (.tmp 40) (.tmp 41) _ 9 _ 1 16 Tryd.underlying43 info_str rfl (by decide) rfl w.heap.size _ 3 _ rfl [.string lowerW] rfl (by simp [Value.oneCell']) _ _ rfl rfl rfl HOw.out (by omega) (by omega) hs2 ?_)
            intro v10 w10 ho10 hg10
            have HX10 : Hid (w10.heap[w.heap.size + 1]? = _) := (hg10.grown.block _ (lt_blk HX2.out) (fun e => row_ne HOw.out HX2.out (by decide) e.symm)).trans HX2.out
            have H10 : Hid (Below w.heap.size w w10) := H2.out.trans (hg10.toBelow hs2 (fun k hk => (World.ownsRow.lt HOw.out k hk).1))
            have hs10 : w.heap.size ≤ w10.heap.size := Nat.le_trans hs2 hg10.size
            have HOw10 : Hid (w10.ownsRow w.heap.size 9 1 v10 4 _) := ho10
            obtain ⟨a10, c10, rfl, -⟩ := row_forms ho10
            have y2 : w10.cell? ⟨w.heap.size + 1, 2, none⟩ = some (.bool false) := by rw [cell_blk HX10.out]; rfl
            have y3 : w10.cell? ⟨w.heap.size + 1, 3, none⟩ = some (.bool true) := by rw [cell_blk HX10.out]; rfl
            have y4 : w10.cell? ⟨w.heap.size + 1, 4, none⟩ = some (.bool true) := by rw [cell_blk HX10.out]; rfl
            clear ho10 hg10
            go_wp2_with (at_builtin; refine append_row _ rfl (.tmp 45) (.tmp 46) _ 9 _ 1 16 Tryd.underlying43 info_str rfl (by decide) rfl w.heap.size _ 4 _ rfl [.string looseW] rfl (by simp [Value.oneCell']) _ _ rfl rfl rfl HOw10.out (by omega) (by omega) hs10 ?_)
            intro v11 w11 ho11 hg11
            have HX11 : Hid (w11.heap[w.heap.size + 1]? = _) := (hg11.grown.block _ (lt_blk HX10.out) (fun e => row_ne HOw10.out HX10.out (by decide) e.symm)).trans HX10.out
            have H11 : Hid (Below w.heap.size w w11) := H10.out.trans (hg11.toBelow hs10 (fun k hk => (World.ownsRow.lt HOw10.out k hk).1))
            have hs11 : w.heap.size ≤ w11.heap.size := Nat.le_trans hs10 hg11.size
            have HOw11 : Hid (w11.ownsRow w.heap.size 9 1 v11 5 _) := ho11
            obtain ⟨a11, c11, rfl, -⟩ := row_forms ho11
            have y2 : w11.cell? ⟨w.heap.size + 1, 2, none⟩ = some (.bool false) := by rw [cell_blk HX11.out]; rfl
            have y3 : w11.cell? ⟨w.heap.size + 1, 3, none⟩ = some (.bool true) := by rw [cell_blk HX11.out]; rfl
            have y4 : w11.cell? ⟨w.heap.size + 1, 4, none⟩ = some (.bool true) := by rw [cell_blk HX11.out]; rfl
            clear ho11 hg11
            go_wp2
            go_ret
            have hown := HOw11.out
            exact words_end HWL.out hown H11.out rfl
      | true =>
        cases l with
        | false =>
          cases s with
          | false =>
            go_wp2_with (at_builtin; refine append_row _ rfl (.tmp 35) (.tmp 36) _ 9 _ 1 16 Tryd.underlying43 info_str rfl (by decide) rfl w.heap.size _ 3 _ rfl [.string uniqueW] rfl (by simp [Value.oneCell']) _ _ rfl rfl rfl HOw.out (by omega) (by omega) hs2 ?_)
            intro v10 w10 ho10 hg10
            have HX10 : Hid (w10.heap[w.heap.size + 1]? = _) := (hg10.grown.block _ (lt_blk HX2.out) (fun e => row_ne HOw.out HX2.out (by decide) e.symm)).trans HX2.out
            have H10 : Hid (Below w.heap.size w w10) := H2.out.trans (hg10.toBelow hs2 (fun k hk => (World.ownsRow.lt HOw.out k hk).1))
            have hs10 : w.heap.size ≤ w10.heap.size := Nat.le_trans hs2 hg10.size
            have HOw10 : Hid (w10.ownsRow w.heap.size 9 1 v10 4 _) := ho10
            obtain ⟨a10, c10, rfl, -⟩ := row_forms ho10
            have y2 : w10.cell? ⟨w.heap.size + 1, 2, none⟩ = some (.bool true) := by rw [cell_blk HX10.out]; rfl
            have y3 : w10.cell? ⟨w.heap.size + 1, 3, none⟩ = some (.bool false) := by rw [cell_blk HX10.out]; rfl
            have y4 : w10.cell? ⟨w.heap.size + 1, 4, none⟩ = some (.bool false) := by rw [cell_blk HX10.out]; rfl
            clear ho10 hg10
            go_wp2
            go_ret
            have hown := HOw10.out
            exact words_end HWL.out hown H10.out rfl
          | true =>
            go_wp2_with (at_builtin; refine append_row _ rfl (.tmp 35) (.tmp 36) _ 9 _ 1 16 Tryd.underlying43 info_str rfl (by decide) rfl w.heap.size _ 3 _ rfl [.string uniqueW] rfl (by simp [Value.oneCell']) _ _ rfl rfl rfl HOw.out (by omega) (by omega) hs2 ?_)
            intro v10 w10 ho10 hg10
            have HX10 : Hid (w10.heap[w.heap.size + 1]? = _) := (hg10.grown.block _ (lt_blk HX2.out) (fun e => row_ne HOw.out HX2.out (by decide) e.symm)).trans HX2.out
            have H10 : Hid (Below w.heap.size w w10) := H2.out.trans (hg10.toBelow hs2 (fun k hk => (World.ownsRow.lt HOw.out k hk).1))
            have hs10 : w.heap.size ≤ w10.heap.size := Nat.le_trans hs2 hg10.size
            have HOw10 : Hid (w10.ownsRow w.heap.size 9 1 v10 4 _) := ho10
            obtain ⟨a10, c10, rfl, -⟩ := row_forms ho10
            have y2 : w10.cell? ⟨w.heap.size + 1, 2, none⟩ = some (.bool true) := by rw [cell_blk HX10.out]; rfl
            have y3 : w10.cell? ⟨w.heap.size + 1, 3, none⟩ = some (.bool false) := by rw [cell_blk HX10.out]; rfl
            have y4 : w10.cell? ⟨w.heap.size + 1, 4, none⟩ = some (.bool true) := by rw [cell_blk HX10.out]; rfl
            clear ho10 hg10
            go_wp2_with (at_builtin; refine append_row _ rfl (.tmp 45) (.tmp 46) _ 9 _ 1 16 Tryd.underlying43 info_str rfl (by decide) rfl w.heap.size _ 4 _ rfl [.string looseW] rfl (by simp [Value.oneCell']) _ _ rfl rfl rfl HOw10.out (by omega) (by omega) hs10 ?_)
            intro v11 w11 ho11 hg11
            have HX11 : Hid (w11.heap[w.heap.size + 1]? = _) := (hg11.grown.block _ (lt_blk HX10.out) (fun e => row_ne HOw10.out HX10.out (by decide) e.symm)).trans HX10.out
            have H11 : Hid (Below w.heap.size w w11) := H10.out.trans (hg11.toBelow hs10 (fun k hk => (World.ownsRow.lt HOw10.out k hk).1))
            have hs11 : w.heap.size ≤ w11.heap.size := Nat.le_trans hs10 hg11.size
            have HOw11 : Hid (w11.ownsRow w.heap.size 9 1 v11 5 _) := ho11
            obtain ⟨a11, c11, rfl, -⟩ := row_forms ho11
            have y2 : w11.cell? ⟨w.heap.size + 1, 2, none⟩ = some (.bool true) := by rw [cell_blk HX11.out]; rfl
            have y3 : w11.cell? ⟨w.heap.size + 1, 3, none⟩ = some (.bool false) := by rw [cell_blk HX11.out]; rfl
            have y4 : w11.cell? ⟨w.heap.size + 1, 4, none⟩ = some (.bool true) := by rw [cell_blk HX11.out]; rfl
            clear ho11 hg11
            go_wp2
            go_ret
            have hown := HOw11.out
            exact words_end HWL.out hown H11.out rfl
        | true =>
          cases s with
          | false =>
            go_wp2_with (at_builtin; refine append_row _ rfl (.tmp 35) (.tmp 36) _ 9 _ 1 16 Tryd.underlying43 info_str rfl (by decide) rfl w.heap.size _ 3 _ rfl [.string uniqueW] rfl (by simp [Value.oneCell']) _ _ rfl rfl rfl HOw.out (by omega) (by omega) hs2 ?_)
            intro v10 w10 ho10 hg10
            have HX10 : Hid (w10.heap[w.heap.size + 1]? = _) := (hg10.grown.block _ (lt_blk HX2.out) (fun e => row_ne HOw.out HX2.out (by decide) e.symm)).trans HX2.out
            have H10 : Hid (Below w.heap.size w w10) := H2.out.trans (hg10.toBelow hs2 (fun k hk => (World.ownsRow.lt HOw.out k hk).1))
            have hs10 : w.heap.size ≤ w10.heap.size := Nat.le_trans hs2 hg10.size
            have HOw10 : Hid (w10.ownsRow w.heap.size 9 1 v10 4 _) := ho10
            obtain ⟨a10, c10, rfl, -⟩ := row_forms ho10
            have y2 : w10.cell? ⟨w.heap.size + 1, 2, none⟩ = some (.bool true) := by rw [cell_blk HX10.out]; rfl
            have y3 : w10.cell? ⟨w.heap.size + 1, 3, none⟩ = some (.bool true) := by rw [cell_blk HX10.out]; rfl
            have y4 : w10.cell? ⟨w.heap.size + 1, 4, none⟩ = some (.bool false) := by rw [cell_blk HX10.out]; rfl
            clear ho10 hg10
            go_wp2_with (at_builtin; refine append_row _ rfl (.tmp 40) (.tmp 41) _ 9 _ 1 16 Tryd.underlying43 info_str rfl (by decide) rfl w.heap.size _ 4 _ rfl [.string lowerW] rfl (by simp [Value.oneCell']) _ _ rfl rfl rfl HOw10.out (by omega) (by omega) hs10 ?_)
            intro v11 w11 ho11 hg11
            have HX11 : Hid (w11.heap[w.heap.size + 1]? = _) := (hg11.grown.block _ (lt_blk HX10.out) (fun e => row_ne HOw10.out HX10.out (by decide) e.symm)).trans HX10.out
            have H11 : Hid (Below w.heap.size w w11) := H10.out.trans (hg11.toBelow hs10 (fun k hk => (World.ownsRow.lt HOw10.out k hk).1))
            have hs11 : w.heap.size ≤ w11.heap.size := Nat.le_trans hs10 hg11.size
            have HOw11 : Hid (w11.ownsRow w.heap.size 9 1 v11 5 _) := ho11
            obtain ⟨a11, c11, rfl, -⟩ := row_forms ho11
            have y2 : w11.cell? ⟨w.heap.size + 1, 2, none⟩ = some (.bool true) := by rw [cell_blk HX11.out]; rfl
            have y3 : w11.cell? ⟨w.heap.size + 1, 3, none⟩ = some (.bool true) := by rw [cell_blk HX11.out]; rfl
            have y4 : w11.cell? ⟨w.heap.size + 1, 4, none⟩ = some (.bool false) := by rw [cell_blk HX11.out]; rfl
            clear ho11 hg11
            go_wp2
            go_ret
            have hown := HOw11.out
            exact words_end HWL.out hown H11.out rfl
          | true =>
            go_wp2_with (at_builtin; refine append_row _ rfl (.tmp 35) (.tmp 36) _ 9 _ 1 16 Tryd.underlying43 info_str rfl (by decide) rfl w.heap.size _ 3 _ rfl [.string uniqueW] rfl (by simp [Value.oneCell']) _ _ rfl rfl rfl HOw.out (by omega) (by omega) hs2 ?_)
            intro v10 w10 ho10 hg10
            have HX10 : Hid (w10.heap[w.heap.size + 1]? = _) := (hg10.grown.block _ (lt_blk HX2.out) (fun e => row_ne HOw.out HX2.out (by decide) e.symm)).trans HX2.out
            have H10 : Hid (Below w.heap.size w w10) := H2.out.trans (hg10.toBelow hs2 (fun k hk => (World.ownsRow.lt HOw.out k hk).1))
            have hs10 : w.heap.size ≤ w10.heap.size := Nat.le_trans hs2 hg10.size
            have HOw10 : Hid (w10.ownsRow w.heap.size 9 1 v10 4 _) := ho10
            obtain ⟨a10, c10, rfl, -⟩ := row_forms ho10
            have y2 : w10.cell? ⟨w.heap.size + 1, 2, none⟩ = some (.bool true) := by rw [cell_blk HX10.out]; rfl
            have y3 : w10.cell? ⟨w.heap.size + 1, 3, none⟩ = some (.bool true) := by rw [cell_blk HX10.out]; rfl
            have y4 : w10.cell? ⟨w.heap.size + 1, 4, none⟩ = some (.bool true) := by rw [cell_blk HX10.out]; rfl
            clear ho10 hg10
            go_wp2_with (at_builtin; refine append_row _ rfl (.tmp 40) (.tmp 41) _ 9 _ 1 16 Tryd.underlying43 info_str rfl (by decide) rfl w.heap.size _ 4 _ rfl [.string lowerW] rfl (by simp [Value.oneCell']) _ _ rfl rfl rfl HOw10.out (by omega) (by omega) hs10 ?_)
            intro v11 w11 ho11 hg11
            have HX11 : Hid (w11.heap[w.heap.size + 1]? = _) := (hg11.grown.block _ (lt_blk HX10.out) (fun e => row_ne HOw10.out HX10.out (by decide) e.symm)).trans HX10.out
            have H11 : Hid (Below w.heap.size w w11) := H10.out.trans (hg11.toBelow hs10 (fun k hk => (World.ownsRow.lt HOw10.out k hk).1))
            have hs11 : w.heap.size ≤ w11.heap.size := Nat.le_trans hs10 hg11.size
            have HOw11 : Hid (w11.ownsRow w.heap.size 9 1 v11 5 _) := ho11
            obtain ⟨a11, c11, rfl, -⟩ := row_forms ho11
            have y2 : w11.cell? ⟨w.heap.size + 1, 2, none⟩ = some (.bool true) := by rw [cell_blk HX11.out]; rfl
            have y3 : w11.cell? ⟨w.heap.size + 1, 3, none⟩ = some (.bool true) := by rw [cell_blk HX11.out]; rfl
            have y4 : w11.cell? ⟨w.heap.size + 1, 4, none⟩ = some (.bool true) := by rw [cell_blk HX11.out]; rfl
            clear ho11 hg11
            go_wp2_with (at_builtin; refine append_row _ rfl (.tmp 45) (.tmp 46) _ 9 _ 1 16 Tryd.underlying43 info_str rfl (by decide) rfl w.heap.size _ 5 _ rfl [.string looseW] rfl (by simp [Value.oneCell']) _ _ rfl rfl rfl HOw11.out (by omega) (by omega) hs11 ?_)
            intro v12 w12 ho12 hg12
            have HX12 : Hid (w12.heap[w.heap.size + 1]? = _) := (hg12.grown.block _ (lt_blk HX11.out) (fun e => row_ne HOw11.out HX11.out (by decide) e.symm)).trans HX11.out
            have H12 : Hid (Below w.heap.size w w12) := H11.out.trans (hg12.toBelow hs11 (fun k hk => (World.ownsRow.lt HOw11.out k hk).1))
            have hs12 : w.heap.size ≤ w12.heap.size := Nat.le_trans hs11 hg12.size
            have HOw12 : Hid (w12.ownsRow w.heap.size 9 1 v12 6 _) := ho12
            obtain ⟨a12, c12, rfl, -⟩ := row_forms ho12
            have y2 : w12.cell? ⟨w.heap.size + 1, 2, none⟩ = some (.bool true) := by rw [cell_blk HX12.out]; rfl
            have y3 : w12.cell? ⟨w.heap.size + 1, 3, none⟩ = some (.bool true) := by rw [cell_blk HX12.out]; rfl
            have y4 : w12.cell? ⟨w.heap.size + 1, 4, none⟩ = some (.bool true) := by rw [cell_blk HX12.out]; rfl
            clear ho12 hg12
            go_wp2
            go_ret
            have hown := HOw12.out
            exact words_end HWL.out hown H12.out rfl
end Go.Proofs.YtbpmahchinblhaaDoor
