/- Layer 6 (schema): two texts one behind the other (plain). -/
import Derived.Test.YtojedpkbhkbaoaaDoorSPure2
namespace Go.Proofs.YtojedpkbhkbaoaaDoor
open Go.RowKit
set_option linter.unusedVariables false

def inN (N : List ByteArray) (n : ByteArray) : Bool := N.any fun m => decide (m = n)
def nmsT (ts : List Tb) : List ByteArray := ts.map (·.n)
/-- The error that the tables of these names meet, behind L tables that bear the names in N. -/
def joinE (N : List ByteArray) : Nat → List ByteArray → Option Int
  | _, [] => none
  | L, n :: r => if inN N n = true then some 64 else if L = 16 then some 65 else joinE N (L + 1) r

theorem last_app {ss us : List Tb} {t : Tb} (h : us.getLast? = some t) : (ss ++ us).getLast? = some t ∧ (ss ++ us).dropLast = ss ++ us.dropLast := by
  rcases nil_or_snoc us with rfl | ⟨vs, v, rfl⟩
  · simp at h
  · simp at h; subst h
    rw [← List.append_assoc]
    simp
theorem bare_app {ss us : List Tb} (h : bareB us = false) (hs : bareB ss = false) : bareB (ss ++ us) = false := by
  rcases nil_or_snoc us with rfl | ⟨vs, v, rfl⟩
  · simpa using hs
  · rw [← List.append_assoc]
    unfold bareB at h ⊢
    simp at h ⊢
    exact h
theorem names_last {us : List Tb} {t t' : Tb} (h : us.getLast? = some t) (hn : t'.n = t.n) : nmsT (us.dropLast ++ [t']) = nmsT us := by
  conv => rhs; rw [dropLast_getLast h]
  simp [nmsT, hn]

/-- What one line does behind the tables ss, where it is right without them. -/
theorem rLine_joins {ln : Int} {ws : List ByteArray} {st st' : St} (h : rLine ln ws st = .ok st') :
    (nmsT st'.1 = nmsT st.1 ∧ ∀ (ss : List Tb) (ln2 bg2 : Int), ∃ bg3, rLine ln2 ws (ss ++ st.1, bg2) = .ok (ss ++ st'.1, bg3)) ∨
    (∃ nm, nmsT st'.1 = nmsT st.1 ++ [nm] ∧ ∀ (ss : List Tb) (ln2 bg2 : Int), bareB ss = false →
      if inN (nmsT ss) nm = true then rLine ln2 ws (ss ++ st.1, bg2) = .error (ln2, 64) else if ss.length + st.1.length = 16 then rLine ln2 ws (ss ++ st.1, bg2) = .error (ln2, 65) else rLine ln2 ws (ss ++ st.1, bg2) = .ok (ss ++ st'.1, ln2)) := by
  unfold rLine at h ⊢
  by_cases h1 : ws.getD 0 ⟨#[]⟩ = tableW
  · rw [if_pos h1] at h
    right
    simp only [if_pos h1]
    unfold rTable at h ⊢
    split at h
    · cases h
    split at h
    · cases h
    split at h
    · cases h
    split at h
    · cases h
    split at h
    · cases h
    next g1 g2 g3 g4 g5 =>
    cases h
    refine ⟨ws.getD 1 ⟨#[]⟩, by simp [nmsT], fun ss ln2 bg2 hs => ?_⟩
    have g3' : bareB (ss ++ st.1) = false := bare_app (by simpa using g3) hs
    have e : (ss ++ st.1).any (fun t => decide (t.n = ws.getD 1 ⟨#[]⟩)) = ss.any (fun t => decide (t.n = ws.getD 1 ⟨#[]⟩)) := by
      rw [List.any_append]
      have : st.1.any (fun t => decide (t.n = ws.getD 1 ⟨#[]⟩)) = false := by simpa using g4
      rw [this, Bool.or_false]
    have e2 : ss.any (fun t => decide (t.n = ws.getD 1 ⟨#[]⟩)) = inN (nmsT ss) (ws.getD 1 ⟨#[]⟩) := by unfold inN nmsT; rw [List.any_map]; rfl
    simp only [if_neg g1, if_neg g2, g3', e, e2, List.length_append, Bool.false_eq_true, if_false]
    by_cases hm : inN (nmsT ss) (ws.getD 1 ⟨#[]⟩) = true
    · rw [if_pos hm, if_pos hm]
    · rw [if_neg hm, if_neg hm]
      by_cases hL : ss.length + st.1.length = 16
      · rw [if_pos hL, if_pos hL]
      · rw [if_neg hL, if_neg hL, List.append_assoc]
  · rw [if_neg h1] at h
    left
    simp only [if_neg h1]
    by_cases h2 : ws.getD 0 ⟨#[]⟩ = fieldW
    · rw [if_pos h2] at h
      simp only [if_pos h2]
      unfold rField at h ⊢
      split at h
      · cases h
      split at h
      · cases h
      split at h
      · cases h
      next g1 g2 g3 =>
      cases hl : st.1.getLast? with
      | none => rw [hl] at h; cases h
      | some t =>
        rw [hl] at h
        dsimp only at h
        split at h
        · cases h
        split at h
        · cases h
        split at h
        · cases h
        next g4 g5 g6 =>
        cases h
        refine ⟨names_last hl rfl, fun ss ln2 bg2 => ⟨bg2, ?_⟩⟩
        obtain ⟨k1, k2⟩ := last_app (ss := ss) hl
        rw [if_neg g1, if_neg g2, if_neg g3]
        dsimp only
        rw [k1]
        dsimp only
        rw [if_neg g4, if_neg g5, if_neg g6, k2, List.append_assoc]
    · rw [if_neg h2] at h
      simp only [if_neg h2]
      by_cases h3 : ws.getD 0 ⟨#[]⟩ = indexW
      · rw [if_pos h3] at h
        simp only [if_pos h3]
        unfold rIndex at h ⊢
        split at h
        · cases h
        split at h
        · cases h
        split at h
        · cases h
        next g1 g2 g3 =>
        cases hl : st.1.getLast? with
        | none => rw [hl] at h; cases h
        | some t =>
          rw [hl] at h
          dsimp only at h
          split at h
          · cases h
          split at h
          · cases h
          split at h
          · cases h
          split at h
          · cases h
          next g4 g5 g6 g7 =>
          cases h
          refine ⟨names_last hl rfl, fun ss ln2 bg2 => ⟨bg2, ?_⟩⟩
          obtain ⟨k1, k2⟩ := last_app (ss := ss) hl
          rw [if_neg g1, if_neg g2, if_neg g3]
          dsimp only
          rw [k1]
          dsimp only
          rw [if_neg g4, if_neg g5, if_neg g6, if_neg g7, k2, List.append_assoc]
      · rw [if_neg h3] at h
        cases h

theorem rLines_joins : ∀ {ls : List ByteArray} {ln : Int} {st st' : St}, rLines ln ls st = .ok st' → ∃ r, nmsT st'.1 = nmsT st.1 ++ r ∧ ∀ (ss : List Tb) (ln2 bg2 : Int), bareB ss = false →
    match joinE (nmsT ss) (ss.length + st.1.length) r with
    | none => ∃ bg3, rLines ln2 ls (ss ++ st.1, bg2) = .ok (ss ++ st'.1, bg3)
    | some c => ∃ l, rLines ln2 ls (ss ++ st.1, bg2) = .error (l, c)
  | [], ln, st, st', h => by
    simp only [rLines, Except.ok.injEq] at h
    subst h
    exact ⟨[], by simp, fun ss ln2 bg2 _ => ⟨bg2, by simp [rLines]⟩⟩
  | l :: ls, ln, st, st', h => by
    rw [rLines] at h
    by_cases he : l = ⟨#[]⟩
    · rw [if_pos he] at h
      obtain ⟨r, hr, hh⟩ := rLines_joins h
      refine ⟨r, hr, fun ss ln2 bg2 hs => ?_⟩
      have := hh ss (ln2 + 1) bg2 hs
      rw [rLines, if_pos he]
      exact this
    · rw [if_neg he] at h
      cases hr1 : rLine ln (wsOf l 32) st with
      | error e => rw [hr1] at h; cases h
      | ok s1 =>
        rw [hr1] at h
        obtain ⟨r, hr, hh⟩ := rLines_joins h
        rcases rLine_joins hr1 with ⟨hn, hj⟩ | ⟨nm, hn, hj⟩
        · refine ⟨r, by rw [hr, hn], fun ss ln2 bg2 hs => ?_⟩
          obtain ⟨bg3, hj⟩ := hj ss ln2 bg2
          have hl : st.1.length = s1.1.length := by have := congrArg List.length hn; simpa [nmsT] using this.symm
          have := hh ss (ln2 + 1) bg3 hs
          rw [rLines, if_neg he, hj, hl]
          exact this
        · refine ⟨nm :: r, by rw [hr, hn]; simp, fun ss ln2 bg2 hs => ?_⟩
          have hj := hj ss ln2 bg2 hs
          have hl : s1.1.length = st.1.length + 1 := by have := congrArg List.length hn; simpa [nmsT] using this
          rw [rLines, if_neg he, joinE]
          by_cases hm : inN (nmsT ss) nm = true
          · rw [if_pos hm] at hj ⊢
            rw [hj]
            exact ⟨_, rfl⟩
          · rw [if_neg hm] at hj ⊢
            by_cases hL : ss.length + st.1.length = 16
            · rw [if_pos hL] at hj ⊢
              rw [hj]
              exact ⟨_, rfl⟩
            · rw [if_neg hL] at hj ⊢
              rw [hj]
              have := hh ss (ln2 + 1) ln2 hs
              rw [hl, ← Nat.add_assoc] at this
              exact this

theorem rLines_app : ∀ (l1 l2 : List ByteArray) (ln : Int) (st : St), rLines ln (l1 ++ l2) st = match rLines ln l1 st with | .error e => .error e | .ok s => rLines (ln + l1.length) l2 s
  | [], l2, ln, st => by simp [rLines]
  | l :: l1, l2, ln, st => by
    rw [List.cons_append, rLines, rLines]
    split
    · rw [rLines_app l1 l2]
      have : ln + 1 + (l1.length : Int) = ln + ((l :: l1).length : Int) := by simp; omega
      rw [this]
    · split
      · rfl
      · rw [rLines_app l1 l2]
        have : ln + 1 + (l1.length : Int) = ln + ((l :: l1).length : Int) := by simp; omega
        rw [this]
theorem sp_app (c : UInt8) : ∀ (a b : List UInt8), sp c (a ++ c :: b) = sp c a ++ sp c b
  | [], b => by
    show sp c (c :: b) = _
    rw [sp_cons, if_pos rfl]; rfl
  | x :: a, b => by
    show sp c (x :: (a ++ c :: b)) = _
    rw [sp_cons, sp_cons, sp_app c a b]
    split
    · rfl
    · cases hs : sp c a with
      | nil => exact absurd hs (sp_ne c a)
      | cons p r => rfl
theorem ws_join (a b x : ByteArray) (c : UInt8) (hx : x.data.toList = a.data.toList ++ c :: b.data.toList) : wsOf x c = wsOf a c ++ wsOf b c := by
  have h : (wsOf x c).map (fun a : ByteArray => a.data.toList) = (wsOf a c ++ wsOf b c).map (fun a : ByteArray => a.data.toList) := by
    rw [ws_sp, hx, sp_app, List.map_append, ws_sp, ws_sp]
  exact List.map_inj_right (fun a b hab => Go.WideShapes.bytes_inj hab) |>.1 h

theorem parse_inner {text : ByteArray} {us : List Tb} (h : parseP text = .ok us) : text.size ≤ 8192 ∧ bareB us = false ∧ ∃ bg, rLines 1 (wsOf text 10) ([], 0) = .ok (us, bg) := by
  unfold parseP at h
  split at h
  · cases h
  cases hr : rLines 1 (wsOf text 10) ([], 0) with
  | error e => rw [hr] at h; cases h
  | ok st =>
    rw [hr] at h
    dsimp only at h
    split at h
    · cases h
    next hb =>
    cases h
    exact ⟨by omega, by simpa using hb, st.2, rfl⟩
/-- Parse of two right texts, one behind the other. -/
theorem parse_joins {a b x : ByteArray} {ss us : List Tb} (ha : parseP a = .ok ss) (hb : parseP b = .ok us) (hx : x.data.toList = a.data.toList ++ 10 :: b.data.toList) (hsz : x.size ≤ 8192) :
    match joinE (nmsT ss) ss.length (nmsT us) with
    | none => parseP x = .ok (ss ++ us)
    | some c => ∃ l, parseP x = .error (l, c) := by
  obtain ⟨_, ba, bga, ra⟩ := parse_inner ha
  obtain ⟨_, bb, bgb, rb⟩ := parse_inner hb
  obtain ⟨r, hr, hh⟩ := rLines_joins rb
  have hr : nmsT us = r := by simpa [nmsT] using hr
  have := hh ss (1 + ((wsOf a 10).length : Int)) bga ba
  have hp : parseP x = match rLines (1 + ((wsOf a 10).length : Int)) (wsOf b 10) (ss, bga) with
    | .error e => .error e
    | .ok st => if bareB st.1 then .error (st.2, 68) else .ok st.1 := by
    unfold parseP
    rw [if_neg (by omega), ws_join a b x 10 hx, rLines_app, ra]
    rfl
  rw [hr, show ss.length = ss.length + ([] : List Tb).length by simp]
  simp only [List.append_nil] at this
  cases hj : joinE (nmsT ss) (ss.length + ([] : List Tb).length) r with
  | none =>
    rw [hj] at this
    obtain ⟨bg3, h3⟩ := this
    dsimp only
    rw [hp, h3]
    dsimp only
    rw [bare_app bb ba]
    rfl
  | some c =>
    rw [hj] at this
    obtain ⟨l, h3⟩ := this
    refine ⟨l, ?_⟩
    rw [hp, h3]
end Go.Proofs.YtojedpkbhkbaoaaDoor
