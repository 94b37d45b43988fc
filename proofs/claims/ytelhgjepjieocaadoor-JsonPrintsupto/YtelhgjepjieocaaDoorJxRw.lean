/- Layer 18 (json): the document's Write and Print. -/
import Derived.Test.YtelhgjepjieocaaDoorJxRwA
import Derived.Test.YtelhgjepjieocaaDoorJxRwB
import Derived.Test.YtelhgjepjieocaaDoorJxRwC
namespace Go.Proofs.YtelhgjepjieocaaDoor
open Go.RowKit Go.MapKept Go.Sort
set_option linter.unusedVariables false

set_option maxRecDepth 100000 in
set_option maxHeartbeats 2000000 in
theorem writeLong_calls (v : Js) (w : World) (cs : Array Value) (S : Nat → Prop) (hj : JAt w S v cs) (B : Nat) (vt : Value) (l : List Nat) (ho : Ow w B 5 vt (nbs l)) (hl : 65536 < l.length) :
    Calls Tryd.prog 29 #[vt, .agg cs] w (TxC w B vt (nbs l)) := by
  obtain ⟨xk, xn, xt, xa, xl, xc, ya, yl, yc, hcs⟩ := JAt.cs hj
  subst hcs
  obtain ⟨w1, Hw1⟩ : ∃ w1, Hid (w1 = w.alloc (.cells #[.int .i64 xk, .int .i64 xn, .string xt, .slice xa xl xc, .slice ya yl yc] 26)) := ⟨_, rfl⟩
  have HF1 : Hid (Below w.heap.size w w1) := by rw [Hid, Hw1.out]; exact below_new _ _
  have HG1 : Hid (Grew w w1 vt vt ∧ Ow w1 B 5 vt (nbs l)) := ⟨(Grew.refl _ _).below HF1.out, ho.below HF1.out⟩
  obtain ⟨at_, ct, hvt, -, -, -⟩ := ho.shape
  rw [nbs_length] at hvt
  obtain ⟨ln, Hln⟩ : ∃ ln, Hid (ln = l.length) := ⟨_, rfl⟩
  rw [← Hln.out] at hvt
  subst hvt
  have iln : (65536 : Int) < (ln : Int) := by rw [Hln.out]; omega
  clear hj ho hl
  go_enter Tryd.func29, Tryd.ntmps29
  go_upto_region 1 with fail
  rw [← Hw1.out]
  clear Hw1
  go_wp2
  go_ret
  exact ⟨_, rfl, HG1.out.2, HG1.out.1⟩
theorem specW_of (k n : Int) (t : List UInt8) (ns : List (List UInt8)) (its : List Js) (IH : ∀ x ∈ its, SpecW x) : SpecW (.mk k n t ns its) := by
  intro d w S cs B vt l hso hr hsm hj hSB ho hB
  by_cases hl : 65536 < l.length
  · have h : docW (.mk k n t ns its) l = l := by unfold docW; rw [if_pos hl]
    rw [h]
    exact writeLong_calls _ w cs S hj B vt l ho hl
  · unfold JAt at hj
    obtain ⟨na, nc, ia, ic, rfl, h2, h3, h4, h5⟩ := hj
    by_cases k1 : k = 1
    · subst k1; exact writeK1_calls n t ns its IH d _ nc _ ic na ia w S B vt l rfl rfl hso hr hsm h2 h3 h5 h4 hSB ho (by omega) hB
    by_cases k2 : k = 2
    · subst k2; exact writeK2_calls n t ns its IH d _ nc _ ic na ia w S B vt l rfl rfl hso hr hsm h2 h3 h5 h4 hSB ho (by omega) hB
    by_cases k3 : k = 3
    · subst k3; exact writeK3_calls n t ns its IH d _ nc _ ic na ia w S B vt l rfl rfl hso hr hsm h2 h3 h5 h4 hSB ho (by omega) hB
    by_cases k4 : k = 4
    · subst k4; exact writeK4_calls n t ns its IH d _ nc _ ic na ia w S B vt l rfl rfl hso hr hsm h2 h3 h5 h4 hSB ho (by omega) hB
    by_cases k5 : k = 5
    · subst k5; exact writeK5_calls n t ns its IH d _ nc _ ic na ia w S B vt l rfl rfl hso hr hsm h2 h3 h5 h4 hSB ho (by omega) hB
    by_cases k6 : k = 6
    · subst k6; exact writeK6_calls n t ns its IH d _ nc _ ic na ia w S B vt l rfl rfl hso hr hsm h2 h3 h5 h4 hSB ho (by omega) hB
    exfalso
    unfold soundJ at hso
    simp [k1, k2, k3, k4, k5, k6] at hso
mutual
theorem specW : ∀ v : Js, SpecW v
  | .mk k n t ns its => specW_of k n t ns its (specWs its)
theorem specWs : ∀ its : List Js, ∀ x ∈ its, SpecW x
  | [], x, hx => by cases hx
  | y :: ys, x, hx => by
    rcases List.mem_cons.1 hx with h | h
    · rw [h]; exact specW y
    · exact specWs ys x h
end
/-! ### what is written is what the program prints, or both are too long -/
def Lk (a b : List Nat) : Prop := a = b ∨ (65536 < a.length ∧ 65536 < b.length)
theorem Lk.app {a b : List Nat} (h : Lk a b) (x : List Nat) : Lk (a ++ x) (b ++ x) := by
  rcases h with rfl | ⟨h1, h2⟩
  · exact .inl rfl
  · exact .inr ⟨by rw [List.length_append]; omega, by rw [List.length_append]; omega⟩
theorem Lk.long {a b : List Nat} (h : Lk a b) : 65536 < a.length ↔ 65536 < b.length := by
  rcases h with rfl | ⟨h1, h2⟩
  · exact Iff.rfl
  · exact ⟨fun _ => h2, fun _ => h1⟩
theorem chrsP_lk : ∀ (cs l : List Nat), Lk (chrsP cs l) (l ++ cs.flatMap chrP)
  | [], l => .inl (by simp [chrsP])
  | c :: cs, l => by
    by_cases h : 65536 < l.length
    · rw [chrsP_long h]
      exact .inr ⟨h, by rw [List.length_append]; omega⟩
    · rw [chrsP_cons h, List.flatMap_cons, ← List.append_assoc]
      exact chrsP_lk cs (l ++ chrP c)
theorem txtP_lk (s : ByteArray) {a b : List Nat} (h : Lk a b) : Lk (txtP s a) (b ++ quoN s) := by
  unfold txtP quoN
  have h1 := chrsP_lk (bytesN s 0) (a ++ [34])
  have e : b ++ (34 :: (bytesN s 0).flatMap chrP ++ [34]) = (b ++ [34] ++ (bytesN s 0).flatMap chrP) ++ [34] := by simp
  rw [e]
  refine Lk.app ?_ [34]
  rcases h with rfl | ⟨ha, hb⟩
  · exact h1
  · refine .inr ⟨?_, by rw [List.length_append, List.length_append]; omega⟩
    rw [chrsP_long (by rw [List.length_append]; omega), List.length_append]
    omega
theorem chrsP_ge : ∀ (cs l : List Nat), l.length ≤ (chrsP cs l).length
  | [], l => by unfold chrsP; exact Nat.le_refl _
  | c :: cs, l => by
    by_cases h : 65536 < l.length
    · rw [chrsP_long h]; exact Nat.le_refl _
    · rw [chrsP_cons h]
      have := chrsP_ge cs (l ++ chrP c)
      rw [List.length_append] at this
      omega
theorem txtP_ge (s : ByteArray) (l : List Nat) : l.length ≤ (txtP s l).length := by
  unfold txtP
  have := chrsP_ge (bytesN s 0) (l ++ [34])
  rw [List.length_append] at this ⊢
  omega
mutual
theorem valP_ge : ∀ (v : Js) (l : List Nat), l.length ≤ (valP v l).length
  | .mk k n t ns its, l => by
    unfold valP
    split
    · rw [List.length_append]; omega
    split
    · rw [List.length_append]; omega
    split
    · exact txtP_ge _ _
    split
    · have := itsP_ge its false true ns (l ++ [91])
      rw [List.length_append] at this ⊢; omega
    split
    · have := itsP_ge its true true ns (l ++ [123])
      rw [List.length_append] at this ⊢; omega
    rw [List.length_append]; omega
theorem itsP_ge : ∀ (its : List Js) (obj first : Bool) (ns : List (List UInt8)) (l : List Nat), l.length ≤ (itsP obj first ns its l).length
  | [], _, _, _, l => by unfold itsP; exact Nat.le_refl _
  | x :: xs, obj, first, ns, l => by
    unfold itsP
    split
    · exact Nat.le_refl _
    · refine Nat.le_trans ?_ (itsP_ge xs _ _ _ _)
      refine Nat.le_trans ?_ (valP_ge x _)
      have h1 : l.length ≤ (if first = true then l else l ++ [44]).length := by split <;> simp
      split
      · have := txtP_ge (nmB (ns.headD [])) (if first = true then l else l ++ [44])
        rw [List.length_append]; omega
      · exact h1
end
mutual
theorem valP_lk : ∀ (v : Js) (d : Nat) (a b : List Nat), soundJ v d = true → Lk a b → Lk (valP v a) (docW v b)
  | .mk k n t ns its, d, a, b, hso, h => by
    by_cases hb : 65536 < b.length
    · have ha := h.long.2 hb
      have e : docW (.mk k n t ns its) b = b := by unfold docW; rw [if_pos hb]
      rw [e]
      exact .inr ⟨Nat.lt_of_lt_of_le ha (valP_ge _ _), hb⟩
    · obtain rfl : a = b := by
        rcases h with h | ⟨_, h⟩
        · exact h
        · exact absurd h hb
      unfold soundJ at hso
      unfold valP docW
      rw [if_neg hb]
      by_cases k1 : k = 1
      · subst k1; exact .inl rfl
      by_cases k2 : k = 2
      · subst k2; exact .inl rfl
      by_cases k3 : k = 3
      · subst k3; exact .inl rfl
      by_cases k4 : k = 4
      · subst k4
        exact txtP_lk _ (.inl rfl)
      rw [if_neg k2, if_neg k3, if_neg k4, if_neg k1, if_neg k2, if_neg k3, if_neg k4]
      by_cases k5 : k = 5
      · rw [if_pos k5, if_pos k5]
        have hall : allS its (d + 1) = true := by
          subst k5; simp at hso; exact hso.2.2
        exact itsP_lk its (d + 1) false true ns (a ++ [91]) hall [93]
      · by_cases k6 : k = 6
        · rw [if_neg k5, if_pos k6, if_neg k5]
          have hall : allS its (d + 1) = true := by
            subst k6; simp at hso; exact hso.1.2.2
          exact itsP_lk its (d + 1) true true ns (a ++ [123]) hall [125]
        · exfalso
          simp [k1, k2, k3, k4, k5, k6] at hso
theorem itsP_lk : ∀ (its : List Js) (d : Nat) (obj first : Bool) (ns : List (List UInt8)) (l : List Nat), allS its d = true → ∀ z : List Nat, Lk (itsP obj first ns its l ++ z) (match docI obj first ns its l with | (r, true) => r ++ z | (r, false) => r)
  | [], d, obj, first, ns, l, _, z => by unfold itsP docI; exact .inl rfl
  | x :: xs, d, obj, first, ns, l, hal, z => by
    unfold allS at hal
    rw [Bool.and_eq_true] at hal
    unfold itsP docI
    obtain ⟨P1, hP1⟩ : ∃ P1, P1 = (if obj = true then txtP (nmB (ns.headD [])) (if first = true then l else l ++ [44]) ++ [58] else (if first = true then l else l ++ [44])) := ⟨_, rfl⟩
    obtain ⟨P2, hP2⟩ : ∃ P2, P2 = (if obj = true then (if first = true then l else l ++ [44]) ++ quoN (nmB (ns.headD [])) ++ [58] else if first = true then l else l ++ [44]) := ⟨_, rfl⟩
    rw [← hP1, ← hP2]
    have hP : Lk P1 P2 := by
      rw [hP1, hP2]
      cases obj with
      | true => exact (txtP_lk _ (.inl rfl)).app [58]
      | false => exact .inl rfl
    have hge : l.length ≤ P2.length := by
      rw [hP2]
      cases obj <;> cases first <;> simp <;> omega
    have hge1 : l.length ≤ P1.length := by
      rw [hP1]
      have h1 : l.length ≤ (if first = true then l else l ++ [44]).length := by split <;> simp
      have := txtP_ge (nmB (ns.headD [])) (if first = true then l else l ++ [44])
      split
      · rw [List.length_append]; omega
      · exact h1
    have hV := valP_lk x d P1 P2 hal.1 hP
    by_cases hl : 65536 < l.length
    · rw [if_pos hl]
      have h2 : docW x P2 = P2 := by
        cases x with
        | mk k n t ns its => unfold docW; rw [if_pos (by omega)]
      rw [h2, if_pos (by omega)]
      exact .inr ⟨by rw [List.length_append]; omega, by show 65536 < P2.length; omega⟩
    · rw [if_neg hl]
      by_cases hd : 65536 < (docW x P2).length
      · rw [if_pos hd]
        have := hV.long.2 hd
        refine .inr ⟨?_, hd⟩
        rw [List.length_append]
        have := itsP_ge xs obj false ns.tail (valP x P1)
        omega
      · rw [if_neg hd]
        have e : valP x P1 = docW x P2 := by
          rcases hV with e | ⟨_, h⟩
          · exact e
          · exact absurd h hd
        rw [e]
        exact itsP_lk xs d obj false ns.tail (docW x P2) hal.2 z
end
/-- What the document's Print answers is what the program's answers. -/
def refPrJ (v : Js) : List Nat × Int := if soundJ v 0 then (if 65536 < (docW v []).length then ([], 180) else (docW v [], 0)) else ([], 184)
theorem refPrJ_eq (v : Js) : refPrJ v = printJ v := by
  unfold refPrJ printJ
  by_cases hs : soundJ v 0 = true
  · rw [if_pos hs, if_pos hs]
    have h := valP_lk v 0 [] [] hs (.inl rfl)
    by_cases hd : 65536 < (docW v []).length
    · rw [if_pos hd, if_pos (h.long.2 hd)]
    · rw [if_neg hd, if_neg (fun e => hd (h.long.1 e))]
      rcases h with e | ⟨_, h⟩
      · rw [e]
      · exact absurd h hd
  · rw [if_neg hs, if_neg hs]
end Go.Proofs.YtelhgjepjieocaaDoor
