/- Layer 6 (schema): what is printed is what was read (plain). -/
import Derived.Test.YtbpmahchinblhaaDoorSPrint
import Derived.Lib.IndexLaws
import Derived.Lib.IndexBytes
namespace Go.Proofs.YtbpmahchinblhaaDoor
open Go.RowKit
set_option linter.unusedVariables false

/-- The pieces between the bytes c. -/
def sp (c : UInt8) : List UInt8 → List (List UInt8)
  | [] => [[]]
  | b :: l => if b = c then [] :: sp c l else match sp c l with
    | p :: r => (b :: p) :: r
    | [] => [[b]]
theorem sp_cons (c b : UInt8) (l : List UInt8) : sp c (b :: l) = if b = c then [] :: sp c l else match sp c l with
    | p :: r => (b :: p) :: r
    | [] => [[b]] := rfl
theorem sp_ne (c : UInt8) : ∀ l, sp c l ≠ []
  | [] => by simp [sp]
  | b :: l => by
    unfold sp
    split
    · simp
    · split <;> simp
theorem sp_none (c : UInt8) : ∀ l : List UInt8, (∀ k : Nat, l[k]? ≠ some c) → sp c l = [l]
  | [], _ => rfl
  | b :: l, h => by
    have h0 : b ≠ c := fun e => h 0 (by simp [e])
    have ih := sp_none c l (fun k => by simpa using h (k + 1))
    rw [sp_cons, if_neg h0, ih]
theorem sp_hit (c : UInt8) : ∀ (o : Nat) (l : List UInt8), l[o]? = some c → (∀ k : Nat, k < o → l[k]? ≠ some c) → sp c l = l.take o :: sp c (l.drop (o + 1))
  | _, [], h, _ => by simp at h
  | 0, b :: l, h, _ => by
    simp at h
    rw [sp_cons, if_pos h]
    simp
  | o + 1, b :: l, h, hk => by
    have h0 : b ≠ c := fun e => hk 0 (by omega) (by simp [e])
    have ih := sp_hit c o l (by simpa using h) (fun k hkl => by simpa using hk (k + 1) (by omega))
    rw [sp_cons, if_neg h0, ih]
    simp
theorem splitK_sp (c : UInt8) : ∀ (n : Nat) (l : List UInt8), l.length ≤ n → Lib.splitK [c] 0 (Lib.count l [c]) l = sp c l
  | n, l, hn => by
    have hge := Lib.index_ge l [c]
    by_cases hm : Lib.index l [c] = -1
    · rw [Lib.count_miss hm]
      rw [Lib.index_one] at hm
      rw [sp_none c l (Lib.indexByte_none hm)]
      rfl
    · obtain ⟨i, hi⟩ : ∃ i : Nat, Lib.index l [c] = i := ⟨(Lib.index l [c]).toNat, by omega⟩
      have hi2 := hi
      rw [Lib.index_one] at hi2
      obtain ⟨h1, h2⟩ := Lib.indexByte_some hi2
      have hlt : i < l.length := (List.getElem?_eq_some_iff.1 h1).1
      rw [Lib.count_hit (by simp) hi, Nat.add_comm 1, Lib.splitK, if_neg (by rw [hi]; simp), hi, sp_hit c i l h1 h2]
      cases n with
      | zero => omega
      | succ n =>
        have := splitK_sp c n (l.drop (i + 1)) (by simp; omega)
        simp only [Int.toNat_natCast, Nat.add_zero, List.length_cons, List.length_nil, Nat.zero_add]
        rw [this]
theorem ws_sp (s : ByteArray) (c : UInt8) : (wsOf s c).map (·.data.toList) = sp c s.data.toList := by
  unfold wsOf
  rw [Lib.splitB_data]
  exact splitK_sp c _ _ (Nat.le_refl _)

theorem join_cons (a : List UInt8) (r : List (List UInt8)) (c : UInt8) (h : r ≠ []) : Lib.join (a :: r) [c] = a ++ c :: Lib.join r [c] := by
  cases r with
  | nil => exact absurd rfl h
  | cons b r => simp [Lib.join, List.intercalate, List.intersperse]
theorem join_sp (c : UInt8) : ∀ l, Lib.join (sp c l) [c] = l
  | [] => by simp [sp, Lib.join, List.intercalate]
  | b :: l => by
    have ih := join_sp c l
    unfold sp
    split
    · next h => rw [join_cons _ _ _ (sp_ne c l), ih, h]; rfl
    · have hne := sp_ne c l
      cases hs : sp c l with
      | nil => exact absurd hs hne
      | cons p r =>
        rw [hs] at ih
        dsimp only
        cases r with
        | nil => rw [Lib.join_one] at ih ⊢; rw [ih]
        | cons q r =>
          rw [join_cons _ _ _ (by simp)] at ih ⊢
          rw [List.cons_append, ih]
theorem join_ws (s : ByteArray) (c : UInt8) : Lib.join ((wsOf s c).map (·.data.toList)) [c] = s.data.toList := by rw [ws_sp, join_sp]
theorem sp_free (c : UInt8) : ∀ l, ∀ p ∈ sp c l, c ∉ p
  | [], p, hp => by simp [sp] at hp; subst hp; simp
  | b :: l, p, hp => by
    have ih := sp_free c l
    unfold sp at hp
    split at hp
    · rcases List.mem_cons.1 hp with rfl | hp
      · simp
      · exact ih p hp
    · next hb =>
      cases hs : sp c l with
      | nil => exact absurd hs (sp_ne c l)
      | cons q r =>
        rw [hs] at hp ih
        rcases List.mem_cons.1 hp with rfl | hp
        · have := ih q (by simp)
          simp [this, Ne.symm hb]
        · exact ih p (by simp [hp])
theorem sp_piece (c : UInt8) : ∀ (p l : List UInt8), c ∉ p → sp c (p ++ c :: l) = p :: sp c l
  | [], l, _ => by
    show sp c (c :: l) = _
    rw [sp_cons, if_pos rfl]
  | b :: p, l, h => by
    simp only [List.mem_cons, not_or] at h
    show sp c (b :: (p ++ c :: l)) = _
    rw [sp_cons, if_neg (Ne.symm h.1), sp_piece c p l h.2]
theorem sp_lines (c : UInt8) : ∀ ls : List (List UInt8), (∀ p ∈ ls, c ∉ p) → sp c (ls.flatMap (fun p => p ++ [c])) = ls ++ [[]]
  | [], _ => rfl
  | p :: ls, h => by
    have e : (p :: ls).flatMap (fun p => p ++ [c]) = p ++ c :: ls.flatMap (fun p => p ++ [c]) := by simp
    rw [e, sp_piece c p _ (h p (by simp)), sp_lines c ls (fun q hq => h q (by simp [hq]))]
    rfl

/-- The text without its empty lines. -/
def fullL (text : ByteArray) : List ByteArray := (wsOf text 10).filter fun l => decide (¬ l = ⟨#[]⟩)
def plainL (text : ByteArray) : List UInt8 := (fullL text).flatMap fun l => l.data.toList ++ [10]

/-! ### A line adds itself to what is printed -/
theorem word_kind {s : ByteArray} (h : ¬ kindB s = 0) : wordB (kindB s) = s := by
  unfold kindB at h ⊢
  split
  · next e => rw [e]; rfl
  · split
    · next e => rw [e]; rfl
    · split
      · next e => rw [e]; rfl
      · simp_all
theorem place_name {fs : List Fd} {n : ByteArray} (h : placeF fs n ≠ -1) : nmAt fs (placeF fs n) = n := by
  unfold placeF at h ⊢
  cases hf : fs.findIdx? (fun f => decide (f.n = n)) with
  | none => rw [hf] at h; exact absurd rfl h
  | some i =>
    rw [List.findIdx?_eq_some_iff_getElem] at hf
    obtain ⟨hi, hp, _⟩ := hf
    show (fs.getD ((i : Int)).toNat ⟨⟨#[]⟩, 0⟩).n = n
    rw [Int.toNat_natCast, List.getD_eq_getElem?_getD, List.getElem?_eq_getElem hi]
    simpa using hp
theorem takeF_back (f : ByteArray) (l : List ByteArray) : (if (takeF f l).1 then [f] else []) ++ (takeF f l).2 = l := by
  cases l with
  | nil => rfl
  | cons a l =>
    show (if (if a = f then (true, l) else (false, a :: l)).1 then [f] else []) ++ (if a = f then (true, l) else (false, a :: l)).2 = a :: l
    split
    · next h => rw [h]; rfl
    · rfl
theorem flags_back {d : List ByteArray} (h : ¬ (flagsW d).2.length > 0) : flagsL (flagsW d).1.1 (flagsW d).1.2.1 (flagsW d).1.2.2 = d := by
  have h0 : (flagsW d).2 = [] := List.length_eq_zero_iff.1 (by omega)
  unfold flagsW at h0 ⊢
  dsimp only at h0 ⊢
  have e1 := takeF_back uniqueW d
  have e2 := takeF_back lowerW (takeF uniqueW d).2
  have e3 := takeF_back looseW (takeF lowerW (takeF uniqueW d).2).2
  rw [h0, List.append_nil] at e3
  unfold flagsL
  rw [e3, e2, e1]
theorem printL_snoc (ts : List Tb) (t : Tb) : printL (ts ++ [t]) = printL ts ++ tabL t := by simp [printL]
theorem dropLast_getLast {ts : List Tb} {t : Tb} (h : ts.getLast? = some t) : ts = ts.dropLast ++ [t] := by
  rcases nil_or_snoc ts with rfl | ⟨us, u, rfl⟩
  · simp at h
  · simp at h; subst h; simp
theorem words_all {ws : List ByteArray} (h : 3 ≤ ws.length) : ws = [ws.getD 0 ⟨#[]⟩, ws.getD 1 ⟨#[]⟩, ws.getD 2 ⟨#[]⟩] ++ ws.drop 3 := by
  match ws, h with
  | a :: b :: c :: r, _ => rfl
end Go.Proofs.YtbpmahchinblhaaDoor
