import Derived.Test.YtgjcchafmcccjaaGreatDoorSPure
import Derived.Test.YtgjcchafmcccjaaGreatDoorSIndex
import Derived.Test.YtgjcchafmcccjaaGreatDoorSBase
import Derived.Test.YtgjcchafmcccjaaGreatDoorChecked
import Derived.Lib.ConvBytes
/- Layer 6 (schema): Print of what Parse gave, and Parse of that (plain). -/
namespace Go.Proofs.YtgjcchafmcccjaaGreatDoor
open Go.RowKit
set_option linter.unusedVariables false

theorem rTable_prints {ln : Int} {ws : List ByteArray} {st st' : St} (h0 : ws.getD 0 ⟨#[]⟩ = tableW) (h : rTable ln ws st = .ok st') : printL st'.1 = printL st.1 ++ lineL ws ∧ ∀ ln2 bg2, ∃ bg3, rTable ln2 ws (st.1, bg2) = .ok (st'.1, bg3) := by
  unfold rTable at h ⊢
  split at h
  · cases h
  split at h
  · cases h
  split at h
  · cases h
  split at h
  · cases h
  split at h
  · cases h
  next h1 h2 h3 h4 h5 =>
  cases h
  have hw : ws = [tableW, ws.getD 1 ⟨#[]⟩] := by
    match ws, h1 with
    | [], h1 => simp at h1
    | [a], h1 => simp at h1
    | [a, b], _ => simp at h0; rw [h0]; rfl
    | a :: b :: c :: r, h1 => simp at h1
  refine ⟨?_, fun ln2 bg2 => ⟨ln2, ?_⟩⟩
  · rw [printL_snoc]
    congr 1
    conv => rhs; rw [hw]
    simp [tabL]
  · rw [if_neg h1, if_neg h2, if_neg h3, if_neg h4, if_neg h5]

theorem rField_prints {ln : Int} {ws : List ByteArray} {st st' : St} (h0 : ws.getD 0 ⟨#[]⟩ = fieldW) (h : rField ln ws st = .ok st') : printL st'.1 = printL st.1 ++ lineL ws ∧ ∀ ln2 bg2, ∃ bg3, rField ln2 ws (st.1, bg2) = .ok (st'.1, bg3) := by
  unfold rField at h ⊢
  split at h
  · cases h
  split at h
  · cases h
  split at h
  · cases h
  next h1 h2 h3 =>
  cases hl : st.1.getLast? with
  | none => rw [hl] at h; cases h
  | some t =>
    rw [hl] at h
    dsimp only at h
    split at h
    · cases h
    split at h
    · cases h
    split at h
    · cases h
    next h4 h5 h6 =>
    cases h
    have hx : t.xs = [] := List.length_eq_zero_iff.1 (by omega)
    have hw : ws = [fieldW, ws.getD 1 ⟨#[]⟩, ws.getD 2 ⟨#[]⟩] := by
      have := words_all (ws := ws) (by omega)
      have hd : ws.drop 3 = [] := by rw [List.drop_eq_nil_iff]; omega
      rw [hd, List.append_nil, h0] at this
      exact this
    refine ⟨?_, fun ln2 bg2 => ⟨bg2, ?_⟩⟩
    · have e : printL st.1 = printL st.1.dropLast ++ tabL t := by rw [← printL_snoc, ← dropLast_getLast hl]
      rw [printL_snoc, e, List.append_assoc]
      congr 1
      have hf : fldL ⟨ws.getD 1 ⟨#[]⟩, kindB (ws.getD 2 ⟨#[]⟩)⟩ = lineL ws := by
        conv => rhs; rw [hw]
        show lineL [fieldW, ws.getD 1 ⟨#[]⟩, wordB (kindB (ws.getD 2 ⟨#[]⟩))] = _
        rw [word_kind h2]
      unfold tabL
      rw [hx, ← hf]
      simp
    · rw [if_neg h1, if_neg h2, if_neg h3]
      dsimp only
      rw [hl]
      dsimp only
      rw [if_neg h4, if_neg h5, if_neg h6]

theorem rIndex_prints {ln : Int} {ws : List ByteArray} {st st' : St} (h0 : ws.getD 0 ⟨#[]⟩ = indexW) (h : rIndex ln ws st = .ok st') : printL st'.1 = printL st.1 ++ lineL ws ∧ ∀ ln2 bg2, ∃ bg3, rIndex ln2 ws (st.1, bg2) = .ok (st'.1, bg3) := by
  unfold rIndex at h ⊢
  split at h
  · cases h
  split at h
  · cases h
  split at h
  · cases h
  next h1 h2 h3 =>
  cases hl : st.1.getLast? with
  | none => rw [hl] at h; cases h
  | some t =>
    rw [hl] at h
    dsimp only at h
    split at h
    · cases h
    split at h
    · cases h
    split at h
    · cases h
    split at h
    · cases h
    next h4 h5 h6 h7 =>
    cases h
    refine ⟨?_, fun ln2 bg2 => ⟨bg2, ?_⟩⟩
    · have e : printL st.1 = printL st.1.dropLast ++ tabL t := by rw [← printL_snoc, ← dropLast_getLast hl]
      rw [printL_snoc, e, List.append_assoc]
      congr 1
      have hj : joinedL t.fs ((wsOf (ws.getD 2 ⟨#[]⟩) 44).map (placeF t.fs)) = ws.getD 2 ⟨#[]⟩ := by
        have hn : namesL t.fs ((wsOf (ws.getD 2 ⟨#[]⟩) 44).map (placeF t.fs)) = wsOf (ws.getD 2 ⟨#[]⟩) 44 := by
          unfold namesL
          rw [List.map_map]
          conv => rhs; rw [← List.map_id (wsOf (ws.getD 2 ⟨#[]⟩) 44)]
          refine List.map_congr_left fun a ha => ?_
          refine place_name fun e => h6 ?_
          simp only [List.contains_iff_mem, List.mem_map]
          exact ⟨a, ha, e⟩
        unfold joinedL
        rw [hn, join_ws]
      have hw : wordsL t.fs ⟨ws.getD 1 ⟨#[]⟩, (wsOf (ws.getD 2 ⟨#[]⟩) 44).map (placeF t.fs), (flagsW (ws.drop 3)).1.1, (flagsW (ws.drop 3)).1.2.1, (flagsW (ws.drop 3)).1.2.2⟩ = ws := by
        unfold wordsL
        dsimp only
        rw [hj, flags_back h2, ← h0]
        exact (words_all (by omega)).symm
      unfold tabL
      rw [List.flatMap_append, List.flatMap_cons, List.flatMap_nil, List.append_nil]
      dsimp only
      rw [hw]
      simp
    · rw [if_neg h1, if_neg h2, if_neg h3]
      dsimp only
      rw [hl]
      dsimp only
      rw [if_neg h4, if_neg h5, if_neg h6, if_neg h7]

theorem rLine_prints {ln : Int} {ws : List ByteArray} {st st' : St} (h : rLine ln ws st = .ok st') : printL st'.1 = printL st.1 ++ lineL ws ∧ ∀ ln2 bg2, ∃ bg3, rLine ln2 ws (st.1, bg2) = .ok (st'.1, bg3) := by
  unfold rLine at h ⊢
  split at h
  · next h1 =>
    obtain ⟨a, b⟩ := rTable_prints h1 h
    exact ⟨a, fun ln2 bg2 => by rw [if_pos h1]; exact b ln2 bg2⟩
  · next h1 =>
    split at h
    · next h2 =>
      obtain ⟨a, b⟩ := rField_prints h2 h
      exact ⟨a, fun ln2 bg2 => by rw [if_neg h1, if_pos h2]; exact b ln2 bg2⟩
    · next h2 =>
      split at h
      · next h3 =>
        obtain ⟨a, b⟩ := rIndex_prints h3 h
        exact ⟨a, fun ln2 bg2 => by rw [if_neg h1, if_neg h2, if_pos h3]; exact b ln2 bg2⟩
      · cases h

theorem line_back (l : ByteArray) : lineL (wsOf l 32) = l.data.toList ++ [10] := by unfold lineL; rw [join_ws]
theorem rLines_prints : ∀ {ls : List ByteArray} {ln : Int} {st st' : St}, rLines ln ls st = .ok st' → printL st'.1 = printL st.1 ++ (ls.filter fun l => decide (¬ l = ⟨#[]⟩)).flatMap (fun l => l.data.toList ++ [10])
  | [], ln, st, st', h => by
    simp only [rLines, Except.ok.injEq] at h
    subst h
    simp
  | l :: ls, ln, st, st', h => by
    rw [rLines] at h
    by_cases he : l = ⟨#[]⟩
    · rw [if_pos he] at h
      rw [List.filter_cons_of_neg (by simp [he])]
      exact rLines_prints h
    · rw [if_neg he] at h
      cases hr : rLine ln (wsOf l 32) st with
      | error e => rw [hr] at h; cases h
      | ok s1 =>
        rw [hr] at h
        have h1 := (rLine_prints hr).1
        have h2 := rLines_prints h
        rw [List.filter_cons_of_pos (by simpa using he), List.flatMap_cons, h2, h1, line_back, List.append_assoc]
theorem rLines_again : ∀ {ls : List ByteArray} {ln : Int} {st st' : St}, rLines ln ls st = .ok st' → ∀ ln2 bg2, ∃ bg3, rLines ln2 ((ls.filter fun l => decide (¬ l = ⟨#[]⟩)) ++ [⟨#[]⟩]) (st.1, bg2) = .ok (st'.1, bg3)
  | [], ln, st, st', h, ln2, bg2 => by
    simp only [rLines, Except.ok.injEq] at h
    subst h
    exact ⟨bg2, by simp [rLines]⟩
  | l :: ls, ln, st, st', h, ln2, bg2 => by
    rw [rLines] at h
    by_cases he : l = ⟨#[]⟩
    · rw [if_pos he] at h
      rw [List.filter_cons_of_neg (by simp [he])]
      exact rLines_again h ln2 bg2
    · rw [if_neg he] at h
      cases hr : rLine ln (wsOf l 32) st with
      | error e => rw [hr] at h; cases h
      | ok s1 =>
        rw [hr] at h
        obtain ⟨bg3, h1⟩ := (rLine_prints hr).2 ln2 bg2
        obtain ⟨bg4, h2⟩ := rLines_again h (ln2 + 1) bg3
        refine ⟨bg4, ?_⟩
        rw [List.filter_cons_of_pos (by simpa using he), List.cons_append, rLines, if_neg he, h1]
        exact h2

theorem parse_prints {text : ByteArray} {us : List Tb} (h : parseP text = .ok us) : printL us = plainL text := by
  unfold parseP at h
  split at h
  · cases h
  cases hr : rLines 1 (wsOf text 10) ([], 0) with
  | error e => rw [hr] at h; cases h
  | ok st =>
    rw [hr] at h
    dsimp only at h
    split at h
    · cases h
    cases h
    have := rLines_prints hr
    simpa [printL, plainL, fullL] using this
theorem full_ws (text : ByteArray) : wsOf ⟨(plainL text).toArray⟩ 10 = fullL text ++ [⟨#[]⟩] := by
  have h1 := ws_sp ⟨(plainL text).toArray⟩ 10
  have e : plainL text = ((fullL text).map (·.data.toList)).flatMap fun p => p ++ [10] := by unfold plainL; rw [List.flatMap_map]
  have hfree : ∀ p ∈ (fullL text).map (·.data.toList), (10 : UInt8) ∉ p := by
    intro p hp
    obtain ⟨a, ha, rfl⟩ := List.mem_map.1 hp
    have hm : a.data.toList ∈ sp 10 text.data.toList := by rw [← ws_sp]; exact List.mem_map_of_mem (List.mem_filter.1 ha).1
    exact sp_free 10 _ _ hm
  have h2 : (wsOf ⟨(plainL text).toArray⟩ 10).map (·.data.toList) = (fullL text ++ [(⟨#[]⟩ : ByteArray)]).map (fun a : ByteArray => a.data.toList) := by
    rw [h1]
    show sp 10 ((plainL text).toArray.toList) = _
    rw [List.toList_toArray, e, sp_lines 10 _ hfree, List.map_append]
    rfl
  exact List.map_inj_right (fun a b hab => Go.WideShapes.bytes_inj hab) |>.1 h2
theorem parse_again {text : ByteArray} {us : List Tb} (h : parseP text = .ok us) (hl : (plainL text).length ≤ 8192) : parseP ⟨(plainL text).toArray⟩ = .ok us := by
  unfold parseP at h
  split at h
  · cases h
  cases hr : rLines 1 (wsOf text 10) ([], 0) with
  | error e => rw [hr] at h; cases h
  | ok st =>
    rw [hr] at h
    dsimp only at h
    split at h
    · cases h
    next hb =>
    cases h
    obtain ⟨bg3, h2⟩ := rLines_again hr 1 0
    unfold parseP
    rw [if_neg (by show ¬ (plainL text).toArray.size > 8192; rw [List.size_toArray]; omega), full_ws]
    unfold fullL
    rw [h2]
    dsimp only
    rw [if_neg hb]
theorem parse_long {text : ByteArray} (hl : (plainL text).length > 8192) : parseP ⟨(plainL text).toArray⟩ = .error (0, 60) := by
  unfold parseP
  rw [if_pos (by show (plainL text).toArray.size > 8192; rw [List.size_toArray]; omega)]
end Go.Proofs.YtgjcchafmcccjaaGreatDoor

/- On a seat that has package schema SGenB is this: the templates that hold its declarations. -/

/- append on a slice of bytes that the call made itself, as one step of a walk. -/
namespace Go.Proofs.YtgjcchafmcccjaaGreatDoor
open Go.RowKit
set_option linter.unusedVariables false

theorem info_u8 : (Tryz.prog.info? 5).map (fun i => (i.zero, i.size, i.bytes)) = some (some (.int .u8 0), 1, 1) := by kernel_rfl

theorem append_bytes (w : World) {ops : Array Oper} {rest : List Oper} {o : Oper} {a : Act} {Q : Exit → Act → World → Prop} (hgd : o.guard = none) (s x : Operand)
    (ho : o.op = .call { callee := .builtin .append, args := #[s, x], argTypes := #[97, 97] })
    (B : Nat) (v : Value) (l : List UInt8) (hs : a.eval s = v) (hown : Own w B v l)
    (ad : Addr) (m c : Nat) (news : List UInt8) (hx : a.eval x = .slice (some ad) m c) (hm : news.length = m) (hnews : ∀ j u, (bs news)[j]? = some u → w.cell? (ad.add j) = some u)
    (hlen : l.length + m ≤ 140737488355328) (hB : B ≤ w.heap.size)
    (h : ∀ v' w', Own w' B v' (l ++ news) → Grew w w' v v' → wpList Tryz.prog ops Q rest (a.put o.dst v') w') : wpList Tryz.prog ops Q (o :: rest) a w := by
  obtain ⟨i0, hi, hz0, hz1, hz2⟩ := info_parts info_u8
  subst hm
  refine wpList_append_grew w hgd s x 97 ho B 5 i0 (.int .u8 0) 1 1 Tryz.underlying97 hi hz0 hz1 hz2 rfl (by decide) v l.length (bs l) hs hown ad news.length c (bs news) hx (by simp [bs]) hnews (bs_one _) (by unfold maxLen; omega) (by omega) hB ?_
  intro v' w' h1 h2 _
  refine h v' w' ?_ h2
  unfold Own
  rw [bs_append, List.length_append]
  exact h1

/-- .. where what is appended is a literal that was laid right ahead of it. -/
theorem append_lit (W : World) {ops : Array Oper} {rest : List Oper} {o : Oper} {a : Act} {Q : Exit → Act → World → Prop} (hgd : o.guard = none) (s x : Operand)
    (ho : o.op = .call { callee := .builtin .append, args := #[s, x], argTypes := #[97, 97] })
    (B : Nat) (v : Value) (l : List UInt8) (hs : a.eval s = v) (news : List UInt8) (g m c : Nat) (cs : Array Value) (hx : a.eval x = .slice (some ⟨g, 0, none⟩) m c) (hm : news.length = m) (hc : cs = (bs news).toArray)
    (hg : g = W.heap.size) (hown : Own W B v l) (hlen : l.length + m ≤ 140737488355328) (hB : B ≤ W.heap.size)
    (h : ∀ v' w', Own w' B v' (l ++ news) → Grew W w' v v' → wpList Tryz.prog ops Q rest (a.put o.dst v') w') : wpList Tryz.prog ops Q (o :: rest) a (W.alloc (.cells cs 5)) := by
  subst hg hc
  exact append_bytes _ hgd s x ho B v l hs (hown.alloc _) ⟨W.heap.size, 0, none⟩ m c news hx hm (cells_new _ _ _) hlen (by simp; omega) fun v' w' h1 h2 => h v' w' h1 h2.ofAlloc

end Go.Proofs.YtgjcchafmcccjaaGreatDoor

/- Layer 7 (rows): Low. -/
namespace Go.Proofs.YtgjcchafmcccjaaGreatDoor
open Go.RowKit
set_option linter.unusedVariables false

def lowB (b : UInt8) : UInt8 := if 65 ≤ b.toNat ∧ b.toNat ≤ 90 then b + 32 else b
def lowS (s : ByteArray) : ByteArray := ⟨(s.data.toList.map lowB).toArray⟩
theorem lowB_toNat (b : UInt8) : (lowB b).toNat = if 65 ≤ b.toNat ∧ b.toNat ≤ 90 then b.toNat + 32 else b.toNat := by
  unfold lowB
  split
  · next h =>
    rw [UInt8.toNat_add]
    have : (32 : UInt8).toNat = 32 := rfl
    rw [this]
    omega
  · rfl
theorem lowS_size (s : ByteArray) : (lowS s).size = s.size := by
  show (s.data.toList.map lowB).toArray.size = s.data.size
  rw [List.size_toArray, List.length_map, Array.length_toList]
theorem lowB_low (b : UInt8) : lowB (lowB b) = lowB b := by
  apply UInt8.toNat_inj.1
  rw [lowB_toNat (lowB b), lowB_toNat b]
  by_cases h : 65 ≤ b.toNat ∧ b.toNat ≤ 90
  · rw [if_pos h, if_neg (by omega)]
  · rw [if_neg h, if_neg h]
theorem lowS_low (s : ByteArray) : lowS (lowS s) = lowS s := by
  simp [lowS, Function.comp_def, lowB_low]

theorem conv_bytes (w : World) (s : ByteArray) (n : Nat) (hn : s.size = n) : ∃ cap w1, (convert 9 97 (.string s)).run Tryz.prog w = .ok (.slice (some ⟨w.heap.size, 0, none⟩) n cap) w1 ∧
    (∀ j (h : j < n), w1.cell? ⟨w.heap.size, j, none⟩ = some (.int .u8 (s.data.toList.getD j 0).toNat) ∧ w1.frozen? ⟨w.heap.size, j, none⟩ = false) ∧ Below w.heap.size w w1 ∧ w.heap.size < w1.heap.size := by
  subst hn
  refine ⟨_, _, Lib.run_convert_string_bytes w _ _ _ s Tryz.underlying9 Tryz.underlying97 Tryz.underlying5, ?_, ?_, ?_⟩
  · intro j hj
    refine ⟨Lib.bytesWorld_cell w _ s j hj, ?_⟩
    simp only [World.frozen?, Lib.bytesWorld_at_new]
    simp [Lib.bytesCells]
    omega
  · refine ⟨rfl, rfl, rfl, by rw [Lib.bytesWorld_size]; omega, fun k hk => Lib.bytesWorld_at_old w _ s k hk⟩
  · rw [Lib.bytesWorld_size]; omega

/-- The bytes of s lie at g, the first k of them lowered. -/
def LowI (s : ByteArray) (g k : Nat) (w : World) : Prop := ∀ j (h : j < s.size), w.cell? ⟨g, j, none⟩ = some (.int .u8 ((if j < k then lowB s[j] else s[j]).toNat : Int)) ∧ w.frozen? ⟨g, j, none⟩ = false
theorem LowI.keep {s : ByteArray} {g k : Nat} {w : World} (h : LowI s g k w) (hk : k < s.size) (hb : ¬ (65 ≤ s[k].toNat ∧ s[k].toNat ≤ 90)) : LowI s g (k + 1) w := by
  intro j hj
  have := h j hj
  by_cases e : j = k
  · subst e
    rw [if_neg (by omega)] at this
    rw [if_pos (by omega), show lowB s[j] = s[j] by unfold lowB; rw [if_neg hb]]
    exact this
  · have e2 : (j < k + 1) = (j < k) := by simp; omega
    simp only [e2]
    exact this
theorem LowI.set {s : ByteArray} {g k : Nat} {w : World} (h : LowI s g k w) (hk : k < s.size) (hb : 65 ≤ s[k].toNat ∧ s[k].toNat ≤ 90) : LowI s g (k + 1) (w.setCell ⟨g, k, none⟩ (.int .u8 ((s[k].toNat : Int) + 32))) := by
  intro j hj
  have h1 := h j hj
  refine ⟨?_, (World.frozen?_setCell _ _ _ _).trans h1.2⟩
  by_cases e : j = k
  · subst e
    rw [World.cell?_setCell_same _ _ _ h1.1, if_pos (by omega), lowB_toNat, if_pos hb]
    simp
  · have hne : (⟨g, k, none⟩ : Addr) ≠ ⟨g, j, none⟩ := fun e' => e (by simpa using e'.symm)
    rw [World.cell?_setCell_other _ _ _ _ hne, h1.1]
    have e2 : (j < k + 1) = (j < k) := by simp; omega
    simp only [e2]
theorem LowI.string {s : ByteArray} {g cap : Nat} {w : World} (h : LowI s g s.size w) : (convert 97 9 (.slice (some ⟨g, 0, none⟩) s.size cap)).run Tryz.prog w = .ok (.string (lowS s)) w := by
  have hl : (s.data.toList.map lowB).length = s.size := by simp
  have := run_convert_bytes_back (P := Tryz.prog) w 97 9 5 ⟨g, 0, none⟩ cap (s.data.toList.map lowB) Tryz.underlying97 Tryz.underlying5 Tryz.underlying9 ?_
  · rw [hl] at this; exact this
  · intro i hi
    rw [hl] at hi
    have hadd : (⟨g, 0, none⟩ : Addr).add i = ⟨g, i, none⟩ := by unfold Addr.add; split <;> simp_all
    rw [hadd, (h i hi).1, if_pos hi]
    simp
    rfl

set_option maxHeartbeats 1000000 in
theorem low_calls (s : ByteArray) (w : World) (hs : s.size ≤ 140737488351296) :
    Calls Tryz.prog 29 #[.string s] w fun e w' => e = .returned (.string (lowS s)) ∧ Below w.heap.size w w' := by
  obtain ⟨cap, w1, hrun, hcells, hb1, hs1⟩ := conv_bytes w s s.size rfl
  have HI0 : Hid (LowI s w.heap.size 0 w1) := fun j hj => by
    have := hcells j hj
    rw [if_neg (by omega)]
    refine ⟨?_, this.2⟩
    rw [this.1, show s.data.toList.getD j 0 = s[j] by rw [List.getD_eq_getElem?_getD, List.getElem?_eq_getElem (by simpa using hj)]; rfl]
  have HB1 : Hid (Below w.heap.size w w1) := hb1
  clear hcells hb1 hs1
  go_enter Tryz.func29, Tryz.ntmps29
  go_wp2
  go_loopw [4, 5, 10] (fun a4 a5 x wr => ∃ k : Nat, k ≤ s.size ∧ x = .int .i64 k ∧ Hid (LowI s w.heap.size k wr) ∧ Hid (Below w.heap.size w wr)) (fun _ _ x _ => s.size - (intOf x).toNat)
  case atStart => exact ⟨0, Nat.zero_le _, rfl, HI0, HB1⟩
  case round =>
    obtain ⟨k, hk, rfl, HI, HB⟩ := hrel
    clear hrun HI0 HB1
    by_cases hlt : k < s.size
    · have c0 := (HI.out k hlt).1
      have z0 := (HI.out k hlt).2
      rw [if_neg (by omega)] at c0
      have hby : (s[k].toNat : Int) ≤ 255 := by have := s[k].toNat_lt; omega
      by_cases hb : 65 ≤ s[k].toNat ∧ s[k].toNat ≤ 90
      · have q1 : (65 : Int) ≤ (s[k].toNat : Int) := by omega
        have q2 : (s[k].toNat : Int) ≤ 90 := by omega
        have HN : Hid (LowI s w.heap.size (k + 1) (wr.setCell ⟨w.heap.size, k, none⟩ (.int .u8 ((s[k].toNat : Int) + 32)))) := HI.out.set hlt hb
        have qa : (s[k].toNat : Int) + 97 - 65 = (s[k].toNat : Int) + 32 := by omega
        clear hb
        go_wp2
        go_roundw
        case rel => exact ⟨k + 1, by omega, by go_num, by first | exact HN | (rw [qa]; exact HN), HB.out.setCell (Nat.le_refl _) _⟩
        case measure => simp [intOf]; omega
      · have HN : Hid (LowI s w.heap.size (k + 1) wr) := HI.out.keep hlt hb
        by_cases h65 : 65 ≤ s[k].toNat
        · have q1 : (65 : Int) ≤ (s[k].toNat : Int) := by omega
          have q2 : ¬ ((s[k].toNat : Int) ≤ 90) := by omega
          clear hb h65
          go_wp2
          go_roundw
          case rel => exact ⟨k + 1, by omega, by go_num, HN, HB⟩
          case measure => simp [intOf]; omega
        · have q1 : ¬ ((65 : Int) ≤ (s[k].toNat : Int)) := by omega
          clear hb h65
          go_wp2
          go_roundw
          case rel => exact ⟨k + 1, by omega, by go_num, HN, HB⟩
          case measure => simp [intOf]; omega
    · obtain rfl : k = s.size := by omega
      have hst := HI.out.string (cap := cap)
      go_wp2
      go_ret
      exact ⟨rfl, HB.out⟩

end Go.Proofs.YtgjcchafmcccjaaGreatDoor

/- What was written byte by byte, as a text. -/
namespace Go.Proofs.YtgjcchafmcccjaaGreatDoor
open Go.RowKit
set_option linter.unusedVariables false

theorem Own.string {w : World} {B : Nat} {v : Value} {l : List UInt8} (h : Own w B v l) : (convert 97 9 v).run Tryz.prog w = .ok (.string ⟨l.toArray⟩) w := by
  rcases h.2 with ⟨rfl, h0⟩ | ⟨g, cap, cur, rfl, _, _, _, _, _, _⟩
  · rw [run_convert_bytes_nil w _ _ Tryz.underlying97 Tryz.underlying5 0 0 _ Tryz.underlying9]
    rw [List.length_eq_zero_iff.1 h0]; rfl
  · refine run_convert_bytes_back w _ _ _ _ _ l Tryz.underlying97 Tryz.underlying5 Tryz.underlying9 ?_
    intro j hj
    refine World.ownsRow.cells h (g := g) rfl j _ ?_
    simp [bs, hj]

end Go.Proofs.YtgjcchafmcccjaaGreatDoor

/- Layer 7 (rows): the document's Low; RowsLow. -/
namespace Go.Proofs.YtgjcchafmcccjaaGreatDoor
open Go.RowKit
set_option linter.unusedVariables false

def lowTo (s : ByteArray) (k : Nat) : List UInt8 := (s.data.toList.take k).map lowB
theorem lowTo_succ (s : ByteArray) (k : Nat) (hk : k < s.size) : lowTo s (k + 1) = lowTo s k ++ [lowB s[k]] := by
  unfold lowTo
  rw [List.take_succ_eq_append_getElem (by simpa using hk), List.map_append]
  rfl
theorem lowTo_all (s : ByteArray) : (⟨(lowTo s s.size).toArray⟩ : ByteArray) = lowS s := by
  unfold lowTo lowS
  rw [List.take_of_length_le (by simp)]
theorem lowTo_len (s : ByteArray) (k : Nat) (hk : k ≤ s.size) : (lowTo s k).length = k := by
  unfold lowTo
  rw [List.length_map, List.length_take]
  simp only [Array.length_toList]
  exact Nat.min_eq_left hk

end Go.Proofs.YtgjcchafmcccjaaGreatDoor
