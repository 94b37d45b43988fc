/- What the readers find, said of lists of bytes. -/
import Derived.Test.YtehbclliiphglabKRead
namespace Go.Proofs.Ytehbclliiphglab
open Go.RowKit
set_option linter.unusedVariables false

def rdPiece : List UInt8 → Option (Pt × Nat)
  | [] => none
  | c :: r =>
    if c = 1 then (rt r [] 1).map fun x => (⟨1, ⟨x.1.toArray⟩, 0⟩, x.2)
    else if c = 2 then if 8 ≤ r.length then some (⟨2, ⟨#[]⟩, numOf (r.take 8)⟩, 9) else none
    else if c = 3 then match r with
      | d :: _ => if d.toNat ≤ 1 then some (⟨3, ⟨#[]⟩, d.toNat⟩, 2) else none
      | [] => none
    else none

theorem list_cons (s : ByteArray) (h : 0 < s.size) : s.data.toList = s[0] :: s.data.toList.drop 1 := by
  have := List.drop_eq_getElem_cons (l := s.data.toList) (i := 0) (by simpa using h)
  rw [List.drop_zero] at this
  exact this

theorem rdPiece_text (s : ByteArray) (h : 0 < s.size) (hc : s[0] = 1) : rdPiece s.data.toList = rdText s := by
  rw [list_cons s h]; simp [rdPiece, hc, rdText]
theorem rdPiece_num (s : ByteArray) (h : 0 < s.size) (hc : s[0] = 2) : rdPiece s.data.toList = rdNum s := by
  rw [list_cons s h]; simp only [rdPiece, hc, rdNum]
  have : (s.data.toList.drop 1).length = s.size - 1 := by simp
  by_cases h9 : 9 ≤ s.size
  · rw [if_neg (by decide), if_pos trivial, if_pos (by omega), if_pos h9]
  · rw [if_neg (by decide), if_pos trivial, if_neg (by omega), if_neg h9]
theorem rdPiece_flag (s : ByteArray) (h : 0 < s.size) (hc : s[0] = 3) : rdPiece s.data.toList = rdFlag s := by
  rw [list_cons s h]; simp only [rdPiece, hc, rdFlag]
  rw [if_neg (by decide), if_neg (by decide), if_pos trivial]
  by_cases h1 : 1 < s.size
  · rw [dif_pos h1]
    have : s.data.toList.drop 1 = s[1] :: s.data.toList.drop 2 := List.drop_eq_getElem_cons (by simpa using h1)
    rw [this]
  · rw [dif_neg h1, List.drop_eq_nil_of_le (by simp; omega)]
theorem rdPiece_none (s : ByteArray) (h : 0 < s.size) (h1 : ¬ s[0] = 1) (h2 : ¬ s[0] = 2) (h3 : ¬ s[0] = 3) : rdPiece s.data.toList = none := by
  rw [list_cons s h]; simp [rdPiece, h1, h2, h3]

theorem readAns_none : readAns none = .tuple #[.agg #[.int .i64 0, .string ⟨#[]⟩, .int .u64 0], .int .i64 0] := rfl

set_option maxHeartbeats 1000000 in
theorem readPiece_calls (s : ByteArray) (w : World) (hs : s.size ≤ 1024) (h0 : 0 < s.size) :
    Calls Try.prog 23 #[.string s] w fun e w' => e = .returned (readAns (rdPiece s.data.toList)) ∧ Below w.heap.size w w' := by
  have key : ∀ (x : Option (Pt × Nat)), ∃ (k n m : Int) (t : ByteArray), readAns x = .tuple #[.agg #[.int .i64 k, .string t, .int .u64 n], .int .i64 m] := by
    intro x
    match x with
    | none => exact ⟨0, 0, 0, _, rfl⟩
    | some (p, m) => exact ⟨p.k, p.n, m, p.t, rfl⟩
  have KEY := key
  clear key
  by_cases h1 : s[0] = 1
  · have h1b : ((s[0].toNat : Int) == 1) = true := byte_eq (n := 1) (by omega) h1
    have HR : Hid (rdPiece s.data.toList = rdText s) := rdPiece_text s h0 h1
    clear h1
    have HK : Hid (∃ (k n m : Int) (t : ByteArray), readAns (rdText s) = .tuple #[.agg #[.int .i64 k, .string t, .int .u64 n], .int .i64 m]) := KEY _
    clear KEY
    go_enter Try.func23, Try.ntmps23
    go_wp2_with fail
    refine (readText_calls s _ hs).mono ?_
    rintro e w1 ⟨rfl, hb1⟩
    obtain ⟨k, n, m, t, hk⟩ := HK.out
    rw [hk]
    have HK2 : Hid (readAns (rdText s) = .tuple #[.agg #[.int .i64 k, .string t, .int .u64 n], .int .i64 m]) := hk
    clear hk
    have hb2 : Below w.heap.size w w1 := ((Below.refl _ _).alloc (Nat.le_refl _) _).trans (hb1.mono (by simp))
    have hc0 : w1.cell? ⟨w.heap.size, 0, none⟩ = some (.int .i64 0) := by rw [hb1.cell (by simp), World.cell?_alloc_mark]; rfl
    have hc1 : w1.cell? ⟨w.heap.size, 1, none⟩ = some (.string ⟨#[]⟩) := by rw [hb1.cell (by simp), World.cell?_alloc_mark]; rfl
    have hc2 : w1.cell? ⟨w.heap.size, 2, none⟩ = some (.int .u64 0) := by rw [hb1.cell (by simp), World.cell?_alloc_mark]; rfl
    have hf : ∀ j, w1.frozen? ⟨w.heap.size, j, none⟩ = false := fun j => by rw [hb1.frozen (by simp)]; simp
    have hf0 := hf 0
    have hf1 := hf 1
    have hf2 := hf 2
    clear hf
    go_wp2
    go_light
    refine bodyPost_ret (v := .tuple #[.agg #[.int .i64 k, .string t, .int .u64 n], .int .i64 m]) (by simp [results, Try.results23, go_sem, hc0, hc1, hc2]) rfl ⟨?_, ?_⟩
    · rw [HR.out, HK2.out]
    · exact (((hb2.setCell (by simp) _).setCell (by simp) _).setCell (by simp) _)
  · have h1b : ((s[0].toNat : Int) == 1) = false := byte_ne (n := 1) (by omega) h1
    by_cases h2 : s[0] = 2
    · have h2b : ((s[0].toNat : Int) == 2) = true := byte_eq (n := 2) (by omega) h2
      have HR : Hid (rdPiece s.data.toList = rdNum s) := rdPiece_num s h0 h2
      clear h1 h2
      have HK : Hid (∃ (k n m : Int) (t : ByteArray), readAns (rdNum s) = .tuple #[.agg #[.int .i64 k, .string t, .int .u64 n], .int .i64 m]) := KEY _
      clear KEY
      go_enter Try.func23, Try.ntmps23
      go_wp2_with fail
      refine (readNum_calls s _ hs).mono ?_
      rintro e w1 ⟨rfl, hb1⟩
      obtain ⟨k, n, m, t, hk⟩ := HK.out
      rw [hk]
      have HK2 : Hid (readAns (rdNum s) = .tuple #[.agg #[.int .i64 k, .string t, .int .u64 n], .int .i64 m]) := hk
      clear hk
      have hb2 : Below w.heap.size w w1 := ((Below.refl _ _).alloc (Nat.le_refl _) _).trans (hb1.mono (by simp))
      have hc0 : w1.cell? ⟨w.heap.size, 0, none⟩ = some (.int .i64 0) := by rw [hb1.cell (by simp), World.cell?_alloc_mark]; rfl
      have hc1 : w1.cell? ⟨w.heap.size, 1, none⟩ = some (.string ⟨#[]⟩) := by rw [hb1.cell (by simp), World.cell?_alloc_mark]; rfl
      have hc2 : w1.cell? ⟨w.heap.size, 2, none⟩ = some (.int .u64 0) := by rw [hb1.cell (by simp), World.cell?_alloc_mark]; rfl
      have hf : ∀ j, w1.frozen? ⟨w.heap.size, j, none⟩ = false := fun j => by rw [hb1.frozen (by simp)]; simp
      have hf0 := hf 0
      have hf1 := hf 1
      have hf2 := hf 2
      clear hf
      go_wp2
      go_light
      refine bodyPost_ret (v := .tuple #[.agg #[.int .i64 k, .string t, .int .u64 n], .int .i64 m]) (by simp [results, Try.results23, go_sem, hc0, hc1, hc2]) rfl ⟨?_, ?_⟩
      · rw [HR.out, HK2.out]
      · exact (((hb2.setCell (by simp) _).setCell (by simp) _).setCell (by simp) _)
    · have h2b : ((s[0].toNat : Int) == 2) = false := byte_ne (n := 2) (by omega) h2
      by_cases h3 : s[0] = 3
      · have h3b : ((s[0].toNat : Int) == 3) = true := byte_eq (n := 3) (by omega) h3
        have HR : Hid (rdPiece s.data.toList = rdFlag s) := rdPiece_flag s h0 h3
        clear h1 h2 h3
        have HK : Hid (∃ (k n m : Int) (t : ByteArray), readAns (rdFlag s) = .tuple #[.agg #[.int .i64 k, .string t, .int .u64 n], .int .i64 m]) := KEY _
        clear KEY
        go_enter Try.func23, Try.ntmps23
        go_wp2_with fail
        refine (readFlag_calls s _ hs).mono ?_
        rintro e w1 ⟨rfl, hb1⟩
        obtain ⟨k, n, m, t, hk⟩ := HK.out
        rw [hk]
        have HK2 : Hid (readAns (rdFlag s) = .tuple #[.agg #[.int .i64 k, .string t, .int .u64 n], .int .i64 m]) := hk
        clear hk
        have hb2 : Below w.heap.size w w1 := ((Below.refl _ _).alloc (Nat.le_refl _) _).trans (hb1.mono (by simp))
        have hc0 : w1.cell? ⟨w.heap.size, 0, none⟩ = some (.int .i64 0) := by rw [hb1.cell (by simp), World.cell?_alloc_mark]; rfl
        have hc1 : w1.cell? ⟨w.heap.size, 1, none⟩ = some (.string ⟨#[]⟩) := by rw [hb1.cell (by simp), World.cell?_alloc_mark]; rfl
        have hc2 : w1.cell? ⟨w.heap.size, 2, none⟩ = some (.int .u64 0) := by rw [hb1.cell (by simp), World.cell?_alloc_mark]; rfl
        have hf : ∀ j, w1.frozen? ⟨w.heap.size, j, none⟩ = false := fun j => by rw [hb1.frozen (by simp)]; simp
        have hf0 := hf 0
        have hf1 := hf 1
        have hf2 := hf 2
        clear hf
        go_wp2
        go_light
        refine bodyPost_ret (v := .tuple #[.agg #[.int .i64 k, .string t, .int .u64 n], .int .i64 m]) (by simp [results, Try.results23, go_sem, hc0, hc1, hc2]) rfl ⟨?_, ?_⟩
        · rw [HR.out, HK2.out]
        · exact (((hb2.setCell (by simp) _).setCell (by simp) _).setCell (by simp) _)
      · have h3b : ((s[0].toNat : Int) == 3) = false := byte_ne (n := 3) (by omega) h3
        have HR : Hid (rdPiece s.data.toList = none) := rdPiece_none s h0 h1 h2 h3
        clear h1 h2 h3 KEY
        go_enter Try.func23, Try.ntmps23
        go_wp2
        go_light
        exact bodyPost_ret (v := .tuple #[.agg #[.int .i64 0, .string ⟨#[]⟩, .int .u64 0], .int .i64 0]) (by simp [results, Try.results23, go_sem]) rfl ⟨by rw [HR.out]; rfl, (Below.refl _ _).alloc (Nat.le_refl _) _⟩

/-- The list whose key it is, read piece by piece. -/
def decF : Nat → List UInt8 → Option (List Pt)
  | 0, l => if l.isEmpty then some [] else none
  | f + 1, l => if l.isEmpty then some [] else match rdPiece l with
    | none => none
    | some (p, n) => (decF f (l.drop n)).map fun r => p :: r
def dec (l : List UInt8) : Option (List Pt) := decF l.length l

theorem rt_bounds (l : List UInt8) : ∀ (plain : List UInt8) (i : Nat) (x : List UInt8 × Nat), rt l plain i = some x → x.1.length + 2 ≤ plain.length + l.length ∧ i + 2 ≤ x.2 ∧ x.2 ≤ i + l.length := by
  suffices h : ∀ n (l : List UInt8), l.length ≤ n → ∀ (plain : List UInt8) (i : Nat) (x : List UInt8 × Nat), rt l plain i = some x → x.1.length + 2 ≤ plain.length + l.length ∧ i + 2 ≤ x.2 ∧ x.2 ≤ i + l.length from h l.length l (Nat.le_refl _)
  intro n
  induction n with
  | zero => intro l hl plain i x h; match l, hl with | [], _ => simp [rt] at h
  | succ n ih =>
    intro l hl plain i x h
    match l, hl with
    | [], _ => simp [rt] at h
    | [_], _ => simp [rt] at h
    | c :: d :: r, hl =>
      simp only [List.length_cons] at hl
      rw [rt] at h
      split at h
      · split at h
        · simp at h; subst h; simp
        · split at h
          · have := ih r (by omega) _ _ _ h; simp at this ⊢; omega
          · simp at h
      · have := ih (d :: r) (by simp; omega) _ _ _ h; simp at this ⊢; omega

/-- A part that was read is small. -/
def Pt.small (p : Pt) (m : Nat) : Prop := p.t.size ≤ m ∧ (1 ≤ p.k ∧ p.k ≤ 3) ∧ 0 ≤ p.n ∧ p.n ≤ 18446744073709551615

theorem rdPiece_bounds {l : List UInt8} {p : Pt} {n : Nat} (h : rdPiece l = some (p, n)) : 2 ≤ n ∧ n ≤ l.length ∧ p.small l.length := by
  match l with
  | [] => simp [rdPiece] at h
  | c :: r =>
    simp only [rdPiece] at h
    split at h
    · obtain ⟨x, hx, he⟩ := Option.map_eq_some_iff.1 h
      simp only [Prod.mk.injEq] at he
      obtain ⟨rfl, rfl⟩ := he
      have := rt_bounds r [] 1 x hx
      simp at this ⊢
      refine ⟨by omega, by omega, ?_, by simp, by simp, by simp⟩
      show x.1.toArray.size ≤ _
      simp; omega
    · split at h
      · split at h
        · simp at h
          obtain ⟨rfl, rfl⟩ := h
          have hn := numOf_lt (r.take 8)
          rw [List.length_take, Nat.min_eq_left (by omega)] at hn
          simp
          refine ⟨by omega, ?_, by simp, by simp, ?_⟩
          · show 0 ≤ _; omega
          · show ((numOf (r.take 8) : Nat) : Int) ≤ _
            omega
        · simp at h
      · split at h
        · split at h
          · split at h
            · simp at h
              obtain ⟨rfl, rfl⟩ := h
              simp
              refine ⟨?_, by simp, by simp, ?_⟩
              · show 0 ≤ _; omega
              · show ((_ : Nat) : Int) ≤ _
                omega
            · simp at h
          · simp at h
        · simp at h
end Go.Proofs.Ytehbclliiphglab
