/- Layer 18 (json): appendText. -/
import Derived.Test.YtelhgjepjieocaaDoorJxApC
namespace Go.Proofs.YtelhgjepjieocaaDoor
open Go.RowKit Go.Sort
set_option linter.unusedVariables false

theorem tooLong_calls (n cap : Nat) (ao : Option Addr) (w : World) : Calls Tryd.prog 32 #[.slice ao n cap] w (fun e w' => e = .returned (.bool (decide (65536 < (n : Int)))) ∧ w' = w) := by
  go_enter Tryd.func32, Tryd.ntmps32
  go_wp2
  go_ret
  exact ⟨rfl, rfl⟩

/-- The bytes of a text, printed behind l, till it is too long. -/
def chrsP : List Nat → List Nat → List Nat
  | [], l => l
  | c :: cs, l => if 65536 < l.length then l else chrsP cs (l ++ chrP c)
def bytesN (s : ByteArray) (k : Nat) : List Nat := (tl s k).map UInt8.toNat
def txtP (s : ByteArray) (l : List Nat) : List Nat := chrsP (bytesN s 0) (l ++ [34]) ++ [34]
theorem bytesN_nil {s : ByteArray} : bytesN s s.size = [] := by simp [bytesN, tl]
theorem bytesN_cons {s : ByteArray} {k : Nat} (h : k < s.size) : bytesN s k = s[k].toNat :: bytesN s (k + 1) := by
  unfold bytesN; rw [tl_cons h]; rfl
theorem chrsP_long {cs l : List Nat} (h : 65536 < l.length) : chrsP cs l = l := by
  cases cs with
  | nil => rfl
  | cons c cs => simp [chrsP, h]
theorem chrsP_cons {c : Nat} {cs l : List Nat} (h : ¬ 65536 < l.length) : chrsP (c :: cs) l = chrsP cs (l ++ chrP c) := by simp [chrsP, h]
theorem chrP_len (c : Nat) : (chrP c).length ≤ 6 := by
  unfold chrP
  split
  · simp
  · split <;> simp
theorem chrP_pos (c : Nat) : 0 < (chrP c).length := by
  unfold chrP
  split
  · simp
  · split <;> simp
/-- How far the text's bytes are written. -/
structure ApI (w : World) (B : Nat) (v : Value) (s : ByteArray) (all : List Nat) (k : Nat) (x : Value) (l : List Nat) (wr : World) : Prop where
  own : Ow wr B 5 x (nbs l)
  grew : Grew w wr v x
  rest : chrsP (bytesN s k) l = all
  small : l.length ≤ 1048600
  base : B ≤ wr.heap.size

set_option maxRecDepth 100000 in
set_option maxHeartbeats 4000000 in
theorem appendText_calls (s : ByteArray) (hs : s.size ≤ 1152921504606846976) (v : Value) (B : Nat) (l : List Nat) (w : World) (hl : l.length ≤ 1048590) (ho : Ow w B 5 v (nbs l)) (hB : B ≤ w.heap.size) :
    Calls Tryd.prog 50 #[v, .string s] w (fun e w' => ∃ v', e = .returned v' ∧ Ow w' B 5 v' (nbs (txtP s l)) ∧ Grew w w' v v') := by
  obtain ⟨ao, cap, rfl, -, -, -⟩ := ho.shape
  obtain ⟨all, Hall⟩ : ∃ all : List Nat, Hid (all = chrsP (bytesN s 0) (l ++ [34])) := ⟨chrsP (bytesN s 0) (l ++ [34]), (Eq.refl _ : chrsP (bytesN s 0) (l ++ [34]) = _)⟩
  have HO : Hid (Ow w B 5 (.slice ao (nbs l).length cap) (nbs l) ∧ l.length ≤ 1048590 ∧ B ≤ w.heap.size) := ⟨ho, hl, hB⟩
  have HS : Hid (s.size ≤ 1152921504606846976) := hs
  clear ho hl hB hs
  rw [nbs_length] at HO ⊢
  unfold txtP
  rw [← Hall.out]
  go_enter Tryd.func50, Tryd.ntmps50
  go_wp2_with (at_builtin; go_must (refine append_lit w rfl (.tmp 6) (.tmp 7) rfl B _ l rfl [34] 1 _ rfl rfl rfl HO.out.1 (by have := HO.out.2.1; omega) HO.out.2.2 ?_))
  intro v1 w1 ho1 hg1
  have HI : Hid (ApI w B (.slice ao l.length cap) s all 0 v1 (l ++ [34]) w1) := ⟨ho1, hg1, Hall.out.symm, by have := HO.out.2.1; simp; omega, Nat.le_trans HO.out.2.2 hg1.size⟩
  clear ho1 hg1 HO Hall
  go_wp2
  go_loopw [0, 5] (fun x i wr => ∃ (k : Nat) (L : List Nat) (a2 : Option Addr) (n2 c2 : Nat), k ≤ s.size ∧ x = .slice a2 n2 c2 ∧ i = .int .i64 (k : Int) ∧ Hid (L.length = n2) ∧ Hid (ApI w B (.slice ao l.length cap) s all k x L wr)) (fun _ i _ => s.size - (intOf i).toNat)
  case atStart =>
    obtain ⟨a1, c1, rfl, -, -, -⟩ := HI.out.own.shape
    exact ⟨0, _, a1, _, c1, Nat.zero_le _, rfl, rfl, (nbs_length _).symm, HI⟩
  case round =>
    clear HI
    obtain ⟨k, L, a2, n2, c2, hk, rfl, rfl, HL, HI⟩ := hrel
    by_cases hlt : k < s.size
    · have HT := tooLong_calls n2 c2 a2
      by_cases h65 : (65536 : Int) < (n2 : Int)
      · rw [show decide ((65536 : Int) < (n2 : Int)) = true from decide_eq_true h65] at HT
        have HR : Hid (L = all) := by
          have h := HI.out.rest
          rw [chrsP_long (by rw [HL.out]; omega)] at h
          exact h
        clear h65
        go_wp2_with fail
        refine (HT _).mono ?_
        rintro e w2 ⟨rfl, rfl⟩
        go_wp2_with (at_builtin; go_must (refine append_lit w2 rfl (.tmp 25) (.tmp 26) rfl B _ L rfl [34] 1 _ rfl rfl rfl HI.out.own (by have := HI.out.small; omega) HI.out.base ?_))
        intro v5 w5 ho5 hg5
        go_wp2
        go_ret
        refine ⟨_, rfl, ?_, HI.out.grew.trans hg5⟩
        rw [← HR.out]
        exact ho5
      · rw [show decide ((65536 : Int) < (n2 : Int)) = false from decide_eq_false h65] at HT
        obtain ⟨c, Hc⟩ : ∃ c : Nat, Hid (s[k].toNat = c) := ⟨s[k].toNat, (Eq.refl _ : s[k].toNat = _)⟩
        have HA := appendCharacter_calls c (by rw [← Hc.out]; exact s[k].toNat_lt) a2 n2 c2 B L wr HL.out (by omega) (by have h := HI.out.own; exact h) HI.out.base
        have HR : Hid (chrsP (bytesN s (k + 1)) (L ++ chrP c) = all ∧ n2 ≤ 65536) := by
          have h := HI.out.rest
          rw [bytesN_cons hlt, chrsP_cons (by rw [HL.out]; omega), Hc.out] at h
          exact ⟨h, by omega⟩
        clear h65
        go_wp2_with fail
        refine (HT _).mono ?_
        rintro e w2 ⟨rfl, rfl⟩
        go_wp2_with fail
        rw [Hc.out]
        refine HA.mono ?_
        clear HA HT
        rintro e w3 ⟨v3, rfl, ho3, hg3⟩
        have HN : Hid (ApI w B (.slice ao l.length cap) s all (k + 1) v3 (L ++ chrP c) w3) := ⟨ho3, HI.out.grew.trans hg3, HR.out.1, by have := chrP_len c; have := HR.out.2; have := HL.out; rw [List.length_append]; omega, Nat.le_trans HI.out.base hg3.size⟩
        clear HI HR HL Hc ho3 hg3
        obtain ⟨a3, c3, rfl, -, -, -⟩ := HN.out.own.shape
        rw [nbs_length] at HN ⊢
        generalize hn3 : (L ++ chrP c).length = n3 at HN ⊢
        have Hn3 : Hid ((L ++ chrP c).length = n3) := hn3
        clear hn3
        have hs2 : (k : Int) + 1 ≤ 1152921504606846976 := by have := HS.out; omega
        go_wp2
        go_roundw
        case rel => exact ⟨k + 1, _, _, _, _, by omega, rfl, by go_num, Hn3, HN⟩
        case measure => simp [intOf]; omega
    · have HR : Hid (L = all) := by
        have h := HI.out.rest
        have hkn : k = s.size := by omega
        rw [hkn, bytesN_nil] at h
        exact h
      go_wp2_with (at_builtin; go_must (refine append_lit wr rfl (.tmp 25) (.tmp 26) rfl B _ L rfl [34] 1 _ rfl rfl rfl HI.out.own (by have := HI.out.small; omega) HI.out.base ?_))
      intro v5 w5 ho5 hg5
      go_wp2
      go_ret
      refine ⟨_, rfl, ?_, HI.out.grew.trans hg5⟩
      rw [← HR.out]
      exact ho5
end Go.Proofs.YtelhgjepjieocaaDoor
