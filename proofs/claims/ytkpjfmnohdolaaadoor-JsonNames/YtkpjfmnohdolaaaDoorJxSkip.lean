/- Layer 18 (json): skipSpace, takeWord. -/
import Derived.Test.YtkpjfmnohdolaaaDoorJxM
namespace Go.Proofs.YtkpjfmnohdolaaaDoor
open Go.RowKit
set_option linter.unusedVariables false

def isSpN (c : Nat) : Bool := c == 32 || c == 9 || c == 10 || c == 13
/-- Behind the space. -/
def spL : List UInt8 → List UInt8
  | [] => []
  | x :: l => if isSpN x.toNat then spL l else x :: l
theorem spL_yes {l : List UInt8} {c : Nat} (h : hdN l = some c) (hc : isSpN c = true) : spL l.tail = spL l := by
  cases l with
  | nil => cases h
  | cons x l =>
    cases h
    show spL l = if isSpN x.toNat then spL l else x :: l
    rw [if_pos hc]
theorem spL_no {l : List UInt8} (h : ∀ c, hdN l = some c → isSpN c = false) : spL l = l := by
  cases l with
  | nil => rfl
  | cons x l =>
    show (if isSpN x.toNat then spL l else x :: l) = _
    rw [h x.toNat rfl]; rfl
theorem spL_len : ∀ (l : List UInt8), (spL l).length ≤ l.length
  | [] => Nat.le_refl _
  | x :: l => by
    show (if isSpN x.toNat then spL l else x :: l).length ≤ _
    split
    · have := spL_len l; simp; omega
    · exact Nat.le_refl _
theorem spL_not (l : List UInt8) : ∀ c, hdN (spL l) = some c → isSpN c = false := by
  induction l with
  | nil => intro c h; cases h
  | cons x l ih =>
    intro c h
    have e : spL (x :: l) = if isSpN x.toNat then spL l else x :: l := rfl
    rw [e] at h
    split at h
    · exact ih c h
    · rename_i h0
      cases h
      exact Bool.eq_false_iff.2 h0
theorem spL_spL (l : List UInt8) : spL (spL l) = spL l := spL_no (spL_not l)
def rdAt (w : World) (rb : Nat) : Nat := match w.cell? ⟨rb, 1, none⟩ with
  | some (.int _ v) => v.toNat
  | _ => 0
theorem Rd.at {w : World} {rb n : Nat} {s : ByteArray} {l : List UInt8} (h : Rd w rb s n l) : rdAt w rb = n := by
  unfold rdAt
  rw [h.cells.2.1]
  simp
theorem jsp_none {l : List UInt8} (h1 : ¬ hdN l = some 32) (h2 : ¬ hdN l = some 9) (h3 : ¬ hdN l = some 10) (h4 : ¬ hdN l = some 13) : spL l = l := spL_no fun c hc => by
  have k1 : c ≠ 32 := fun e => h1 (by rw [hc, e])
  have k2 : c ≠ 9 := fun e => h2 (by rw [hc, e])
  have k3 : c ≠ 10 := fun e => h3 (by rw [hc, e])
  have k4 : c ≠ 13 := fun e => h4 (by rw [hc, e])
  simp [isSpN, k1, k2, k3, k4]

set_option maxRecDepth 100000 in
set_option maxHeartbeats 2000000 in
theorem skip_calls (w : World) (rb n : Nat) (s : ByteArray) (l : List UInt8) (h : Rd w rb s n l) :
    Calls Tryd.prog 42 #[.pointer (some ⟨rb, 0, none⟩)] w fun e w' => e = .returned (.tuple #[]) ∧ RdP w rb s (spL l) w' := by
  have HI : Hid (∃ m l', Rd w rb s m l' ∧ spL l' = spL l ∧ Frm (fun k => k = rb) w w) := ⟨n, l, h, rfl, Frm.refl _ _⟩
  clear h
  go_enter Tryd.func42, Tryd.ntmps42
  go_wp2_with fail
  go_loopw [] (fun wr => Hid (∃ m l', Rd wr rb s m l' ∧ spL l' = spL l ∧ Frm (fun k => k = rb) w wr)) (fun wr => s.size - rdAt wr rb)
  case atStart => exact HI
  case round =>
    clear HI
    obtain ⟨m, l', h', hs, hf⟩ := hrel.out
    clear hrel
    go_wp2_with fail
    refine (take_calls wr rb m s l' 32 32 h' rfl).mono ?_
    rintro e w1 ⟨rfl, ⟨m1, h1⟩, f1⟩
    have g1 := hf.trans f1
    by_cases k0 : hdN l' = some 32
    · have hm := h'.len
      have hn := h'.at
      rw [tkL_yes k0] at h1
      rw [decide_eq_true k0]
      have hm1 := h1.len
      have hn1 := h1.at
      have hl : l'.length = l'.tail.length + 1 := by
        cases l' with
        | nil => cases k0
        | cons x l' => rfl
      have HN : Hid (∃ m l'', Rd w1 rb s m l'' ∧ spL l'' = spL l ∧ Frm (fun k => k = rb) w w1) := ⟨_, _, h1, (spL_yes k0 rfl).trans hs, g1⟩
      clear h' hf f1 g1 h1 hs
      go_wp2
      go_roundw
      case rel => exact HN
      case measure => rw [hn, hn1]; omega
    · rw [tkL_no k0] at h1
      rw [decide_eq_false k0]
      go_wp2_with fail
      refine (take_calls w1 rb m1 s l' 9 9 h1 rfl).mono ?_
      rintro e w2 ⟨rfl, ⟨m2, h2⟩, f2⟩
      have g2 := g1.trans f2
      by_cases k1 : hdN l' = some 9
      · have hm := h'.len
        have hn := h'.at
        rw [tkL_yes k1] at h2
        rw [decide_eq_true k1]
        have hm1 := h2.len
        have hn1 := h2.at
        have hl : l'.length = l'.tail.length + 1 := by
          cases l' with
          | nil => cases k1
          | cons x l' => rfl
        have HN : Hid (∃ m l'', Rd w2 rb s m l'' ∧ spL l'' = spL l ∧ Frm (fun k => k = rb) w w2) := ⟨_, _, h2, (spL_yes k1 rfl).trans hs, g2⟩
        clear h' hf f2 g2 h2 hs
        go_wp2
        go_roundw
        case rel => exact HN
        case measure => rw [hn, hn1]; omega
      · rw [tkL_no k1] at h2
        rw [decide_eq_false k1]
        go_wp2_with fail
        refine (take_calls w2 rb m2 s l' 10 10 h2 rfl).mono ?_
        rintro e w3 ⟨rfl, ⟨m3, h3⟩, f3⟩
        have g3 := g2.trans f3
        by_cases k2 : hdN l' = some 10
        · have hm := h'.len
          have hn := h'.at
          rw [tkL_yes k2] at h3
          rw [decide_eq_true k2]
          have hm1 := h3.len
          have hn1 := h3.at
          have hl : l'.length = l'.tail.length + 1 := by
            cases l' with
            | nil => cases k2
            | cons x l' => rfl
          have HN : Hid (∃ m l'', Rd w3 rb s m l'' ∧ spL l'' = spL l ∧ Frm (fun k => k = rb) w w3) := ⟨_, _, h3, (spL_yes k2 rfl).trans hs, g3⟩
          clear h' hf f3 g3 h3 hs
          go_wp2
          go_roundw
          case rel => exact HN
          case measure => rw [hn, hn1]; omega
        · rw [tkL_no k2] at h3
          rw [decide_eq_false k2]
          go_wp2_with fail
          refine (take_calls w3 rb m3 s l' 13 13 h3 rfl).mono ?_
          rintro e w4 ⟨rfl, ⟨m4, h4⟩, f4⟩
          have g4 := g3.trans f4
          by_cases k3 : hdN l' = some 13
          · have hm := h'.len
            have hn := h'.at
            rw [tkL_yes k3] at h4
            rw [decide_eq_true k3]
            have hm1 := h4.len
            have hn1 := h4.at
            have hl : l'.length = l'.tail.length + 1 := by
              cases l' with
              | nil => cases k3
              | cons x l' => rfl
            have HN : Hid (∃ m l'', Rd w4 rb s m l'' ∧ spL l'' = spL l ∧ Frm (fun k => k = rb) w w4) := ⟨_, _, h4, (spL_yes k3 rfl).trans hs, g4⟩
            clear h' hf f4 g4 h4 hs
            go_wp2
            go_roundw
            case rel => exact HN
            case measure => rw [hn, hn1]; omega
          · rw [tkL_no k3] at h4
            rw [decide_eq_false k3]
            have e0 : l' = spL l := by rw [← hs, jsp_none k0 k1 k2 k3]
            rw [e0] at h4
            go_wp2
            go_end0
            exact ⟨rfl, ⟨m4, h4⟩, g4⟩
end Go.Proofs.YtkpjfmnohdolaaaDoor
