import Derived.Test.YtpnmkfbdfggnaaaGreatRGood
import Derived.Test.YtpnmkfbdfggnaaaGreatRWay
import Derived.Test.YtpnmkfbdfggnaaaGreatRReach
/- Layer 3 (radix): Len, Get. -/
namespace Go.Proofs.YtpnmkfbdfggnaaaGreat
open Go.RowKit
set_option linter.unusedVariables false

theorem len_calls (tb : Nat) (t : Tr) (n : Int) (w : World) (h : TreeAt w tb t n) : Calls Tryz.prog 30 #[.pointer (some ⟨tb, 0, none⟩)] w fun e w' => e = .returned (.int .i64 n) ∧ w' = w := by
  have c1 : w.cell? ⟨tb, 1, none⟩ = some (.int .i64 n) := by rw [cell_of_blk h.blk]; rfl
  clear h
  go_enter Tryz.func30, Tryz.ntmps30
  go_wp2
  go_ret
  exact ⟨rfl, rfl⟩

theorem get_tree (tb : Nat) (t : Tr) (n : Int) (k : ByteArray) (w : World) (init : List Tr) (c : Tr) (h : TreeAt w tb t n) (hw : WF t) (hp : t.path <+: k.data.toList) (hks : k.size ≤ 140737488351296) (hA : Along k.data.toList t (init ++ [c])) :
    Calls Tryz.prog 31 #[.pointer (some ⟨tb, 0, none⟩), .string k] w fun e w' => e = .returned (.tuple #[held (valAt c k), .bool (valAt c k).isSome]) ∧ Below w.heap.size w w' := by
  have c0 : w.cell? ⟨tb, 0, none⟩ = some (.pointer (some ⟨t.a, 0, none⟩)) := by rw [cell_of_blk h.blk]; rfl
  have HV := valueOf_calls t k w init c hA h.tat hw hp hks
  have hv : ∀ x, valAt c k = some x → VAt w x := fun x hx => by
    unfold valAt at hx
    split at hx
    · cases hx
    · exact (along_tat hA h.tat c (by simp)).val' x hx
  have HVV : Hid (∀ x, valAt c k = some x → VAt w x) := hv
  clear h hw hp hA hv
  go_enter Tryz.func31, Tryz.ntmps31
  go_wp2_with fail
  refine HV.mono ?_
  clear HV
  rintro e w1 ⟨rfl, hb1⟩
  have HG := get_calls (valAt c k) w1 (fun x hx => (HVV.out x hx).below hb1)
  have HB : Hid (Below w.heap.size w w1) := hb1
  clear hb1 c0
  go_wp2_with fail
  refine HG.mono ?_
  clear HG
  rintro e w2 ⟨rfl, rfl⟩
  go_wp2
  go_ret2
  exact ⟨rfl, HB.out⟩
end Go.Proofs.YtpnmkfbdfggnaaaGreat

/- Layer 3 (radix): along, with whatever closure that has captured two variables. -/
namespace Go.Proofs.YtpnmkfbdfggnaaaGreat
open Go.RowKit
set_option linter.unusedVariables false
variable {R : Nat → Prop}

set_option maxRecDepth 100000 in
set_option maxHeartbeats 800000 in
theorem along2_calls (fid : Nat) (hcf : ∀ args W, (callFunc fid args).run Tryz.prog W = .ok (.enter fid args) W) (cv cv2 : Value) (t : Tr) (k : ByteArray) (l : List Tr) (I : Nat → World → Prop) (w : World) (hA : Along k.data.toList t l) (hw : WF t) (hp : t.path <+: k.data.toList) (hks : k.size ≤ 140737488351296)
    (h0 : I 0 w) (hI : ∀ i W W', I i W → Below W.heap.size W W' → I i W') (hT : ∀ i W, I i W → TAt R W t)
    (hstep : ∀ i (hi : i < l.length) W, I i W → TAt R W l[i] → Calls Tryz.prog fid #[.pointer (some ⟨l[i].a, 0, none⟩), cv, cv2] W fun e W' => e = .returned (.tuple #[]) ∧ I (i + 1) W') :
    Calls Tryz.prog 88 #[.pointer (some ⟨t.a, 0, none⟩), .string k, .func (.func fid) #[] #[cv, cv2]] w fun e w' => e = .returned (.tuple #[]) ∧ I l.length w' := by
  have hin := hA.inc hw
  have hpre := hA.pre hp
  have hwf := hA.wf hw
  have hst := hA.step
  have htat := fun W (h : TAt R W t) => along_tat hA h
  obtain ⟨r, hr⟩ := hA.head
  have hl0 : 0 < l.length := by rw [hr]; simp
  have hh0 : l[0] = t := by subst hr; rfl
  have H0 : Hid (I 0 w) := h0
  have HI : Hid (∀ i W W', I i W → Below W.heap.size W W' → I i W') := hI
  have HT : Hid (∀ i W, I i W → ∀ c ∈ l, TAt R W c) := fun i W h => htat W (hT i W h)
  have HST : Hid (∀ i (hi : i < l.length), nx l[i] k.data.toList = l[i + 1]?) := hst
  have HIN : Hid ((l.map (·.p.size)).Pairwise (· < ·)) := hin.1
  have HPRE : Hid (∀ c ∈ l, c.path <+: k.data.toList) := hpre
  have HWF : Hid (∀ c ∈ l, WF c) := hwf
  have HS : Hid (∀ i (hi : i < l.length) W, I i W → TAt R W l[i] → Calls Tryz.prog fid #[.pointer (some ⟨l[i].a, 0, none⟩), cv, cv2] W fun e W' => e = .returned (.tuple #[]) ∧ I (i + 1) W') := hstep
  have hh0' : t.a = l[0].a := by rw [hh0]
  rw [hh0']
  clear hin hpre hwf hst htat hr r hh0 hh0' h0 hI hT hA hw hp hstep
  clear t
  go_enter Tryz.func88, Tryz.ntmps88
  go_wp2
  go_loopw [0] (fun n wr => ∃ i : Nat, i ≤ l.length ∧ n = .pointer (nptr l[i]?) ∧ Hid (I i wr)) (fun n wr => leftOf k n wr)
  case atStart => exact ⟨0, Nat.zero_le _, by rw [List.getElem?_eq_getElem hl0]; rfl, H0⟩
  case round =>
    obtain ⟨i, hi, rfl, HJ⟩ := hrel
    by_cases hlt : i < l.length
    · rw [List.getElem?_eq_getElem hlt]
      simp only [nptr]
      have hmem := List.getElem_mem hlt
      have HC := HS.out i hlt wr HJ.out (HT.out i wr HJ.out _ hmem)
      have hle : l[i].p.size ≤ k.size := by have := (HPRE.out _ hmem).length_le; rw [path_length] at this; simpa using this
      have HM : Hid (leftOf k (.pointer (some ⟨l[i].a, 0, none⟩)) wr = k.size + 1 - l[i].p.size) := leftOf_at (HT.out i wr HJ.out _ hmem)
      go_wp2_with fail
      refine HC.mono ?_
      clear HC
      rintro e w1 ⟨rfl, hJ1⟩
      have HN := next_calls l[i] k w1 (HT.out _ w1 hJ1 _ hmem) (HWF.out _ hmem) (HPRE.out _ hmem) hks
      rw [HST.out i hlt] at HN
      have HJ1 : Hid (I (i + 1) w1) := hJ1
      clear hJ1 HJ
      go_wp2_with fail
      refine HN.mono ?_
      clear HN
      rintro e w2 ⟨rfl, hb2⟩
      have HJ2 : Hid (I (i + 1) w2) := HI.out _ _ _ HJ1.out hb2
      clear hb2 HJ1
      go_wp2
      go_roundw
      case rel => exact ⟨i + 1, by omega, rfl, HJ2⟩
      case measure =>
        rw [HM.out]
        by_cases h1 : i + 1 < l.length
        · have hlt2 := List.pairwise_iff_getElem.1 HIN.out i (i + 1) (by simpa using hlt) (by simpa using h1) (by omega)
          simp only [List.getElem_map] at hlt2
          rw [List.getElem?_eq_getElem h1]
          simp only [nptr]
          rw [leftOf_at (HT.out _ w2 HJ2.out _ (List.getElem_mem h1))]
          omega
        · rw [List.getElem?_eq_none (by omega)]
          simp only [nptr, leftOf]
          omega
    · have hil : i = l.length := by omega
      subst hil
      rw [List.getElem?_eq_none (Nat.le_refl _)]
      simp only [nptr]
      go_wp2
      go_end0
      exact ⟨rfl, HJ.out⟩
end Go.Proofs.YtpnmkfbdfggnaaaGreat
