/- Layer 6 (schema): readLine, read, Parse. -/
import Derived.Test.YtbpmahchinblhaaDoorSIndex
import Derived.Defers
import Derived.Recover
namespace Go.Proofs.YtbpmahchinblhaaDoor
open Go.RowKit
set_option linter.unusedVariables false

set_option maxRecDepth 100000 in
set_option maxHeartbeats 2000000 in
theorem readLine_calls (rb wb cap : Nat) (B : Nat) (v : Value) (ts : List TV) (ln bg : Int) (ws : List ByteArray) (w : World) (mx : Int) (hB : B ≤ rb) (hr : RdAt w rb v ln bg) (ht : Tabs w B v ts) (hw : StrsAt w wb ws) (hmx : w.cell? ⟨1, 0, none⟩ = some (.int .i64 mx)) (hk : KindsAt w) (h1B : 1 < B) (hcap : ws.length ≤ cap) (h0 : 0 < ws.length) (hl : ws.length ≤ 100000) (hs : ∀ x ∈ ws, x.size ≤ 9000) :
    Calls Tryd.prog 28 #[.pointer (some ⟨rb, 0, none⟩), .slice (some ⟨wb, 0, none⟩) ws.length cap] w fun e w' => Behind B w rb ln (rLine ln ws (tbs ts, bg)) e w' := by
  have c0 := hw.cell 0 h0
  have hs' : ∀ x ∈ ws, x.size ≤ 100000 := fun x hx => by have := hs x hx; omega
  have hD : ws.getD 0 ⟨#[]⟩ = ws[0] := by rw [List.getD_eq_getElem?_getD, List.getElem?_eq_getElem h0]; rfl
  have HTb : Hid (Calls Tryd.prog 35 #[.pointer (some ⟨rb, 0, none⟩), .slice (some ⟨wb, 0, none⟩) ws.length cap] w fun e w' => Behind B w rb ln (rTable ln ws (tbs ts, bg)) e w') := readTable_calls rb wb cap B v ts ln bg ws w hB hr ht hw hl hs'
  have HFd : Hid (Calls Tryd.prog 36 #[.pointer (some ⟨rb, 0, none⟩), .slice (some ⟨wb, 0, none⟩) ws.length cap] w fun e w' => Behind B w rb ln (rField ln ws (tbs ts, bg)) e w') := readField_calls rb wb cap B v ts ln bg ws w hB hr ht hw hk hl hs'
  have HIx : Hid (Calls Tryd.prog 37 #[.pointer (some ⟨rb, 0, none⟩), .slice (some ⟨wb, 0, none⟩) ws.length cap] w fun e w' => Behind B w rb ln (rIndex ln ws (tbs ts, bg)) e w') := readIndex_calls rb wb cap B v ts ln bg ws w mx hB hr ht hw hmx h1B hcap hl hs
  have HR : Hid (RdAt w rb v ln bg) := hr
  have h0' : (0 : Int) < (ws.length : Int) := by omega
  obtain ⟨w0, hw0⟩ : ∃ z, z = ws[0] := ⟨_, rfl⟩
  rw [← hw0] at c0 hD
  have q1 : (w0.toList == [116, 97, 98, 108, 101]) = decide (w0 = tableW) := beq_lit w0 [116, 97, 98, 108, 101]
  have q2 : (w0.toList == [102, 105, 101, 108, 100]) = decide (w0 = fieldW) := beq_lit w0 [102, 105, 101, 108, 100]
  have q3 : (w0.toList == [105, 110, 100, 101, 120]) = decide (w0 = indexW) := beq_lit w0 [105, 110, 100, 101, 120]
  have HD : Hid (ws.getD 0 ⟨#[]⟩ = w0) := hD
  clear hr ht hw hmx hk hs hs' hw0 hD
  by_cases h1 : w0 = tableW
  · have HO : Hid (rLine ln ws (tbs ts, bg) = rTable ln ws (tbs ts, bg)) := by unfold rLine; rw [Hid, HD.out, if_pos h1]
    rw [decide_eq_true h1] at q1
    clear h1 q2 q3
    go_enter Tryd.func28, Tryd.ntmps28
    go_wp2_with fail
    refine HTb.out.mono ?_
    rintro e w1 hbe
    cases h : rTable ln ws (tbs ts, bg) with
    | error lc =>
      rw [h] at hbe
      obtain ⟨rfl, hF⟩ := hbe
      have HL : Hid (rLine ln ws (tbs ts, bg) = .error lc) := by rw [Hid, HO.out, h]
      have HF : Hid (Fr B w w1) := hF
      clear hF h
      go_wp2
      rw [HL.out]
      exact ⟨rfl, rfl, HF.out⟩
    | ok st =>
      rw [h] at hbe
      obtain ⟨rfl, hF⟩ := hbe
      have HL : Hid (rLine ln ws (tbs ts, bg) = .ok st) := by rw [Hid, HO.out, h]
      have HF : Hid _ := hF
      clear hF h
      go_wp2
      go_end0
      rw [HL.out]
      exact ⟨rfl, HF.out⟩
  rw [decide_eq_false h1] at q1
  by_cases h2 : w0 = fieldW
  · have HO : Hid (rLine ln ws (tbs ts, bg) = rField ln ws (tbs ts, bg)) := by unfold rLine; rw [Hid, HD.out, if_neg h1, if_pos h2]
    rw [decide_eq_true h2] at q2
    clear h1 h2 q3
    go_enter Tryd.func28, Tryd.ntmps28
    go_wp2_with fail
    refine HFd.out.mono ?_
    rintro e w1 hbe
    cases h : rField ln ws (tbs ts, bg) with
    | error lc =>
      rw [h] at hbe
      obtain ⟨rfl, hF⟩ := hbe
      have HL : Hid (rLine ln ws (tbs ts, bg) = .error lc) := by rw [Hid, HO.out, h]
      have HF : Hid (Fr B w w1) := hF
      clear hF h
      go_wp2
      rw [HL.out]
      exact ⟨rfl, rfl, HF.out⟩
    | ok st =>
      rw [h] at hbe
      obtain ⟨rfl, hF⟩ := hbe
      have HL : Hid (rLine ln ws (tbs ts, bg) = .ok st) := by rw [Hid, HO.out, h]
      have HF : Hid _ := hF
      clear hF h
      go_wp2
      go_end0
      rw [HL.out]
      exact ⟨rfl, HF.out⟩
  rw [decide_eq_false h2] at q2
  by_cases h3 : w0 = indexW
  · have HO : Hid (rLine ln ws (tbs ts, bg) = rIndex ln ws (tbs ts, bg)) := by unfold rLine; rw [Hid, HD.out, if_neg h1, if_neg h2, if_pos h3]
    rw [decide_eq_true h3] at q3
    clear h1 h2 h3
    go_enter Tryd.func28, Tryd.ntmps28
    go_wp2_with fail
    refine HIx.out.mono ?_
    rintro e w1 hbe
    cases h : rIndex ln ws (tbs ts, bg) with
    | error lc =>
      rw [h] at hbe
      obtain ⟨rfl, hF⟩ := hbe
      have HL : Hid (rLine ln ws (tbs ts, bg) = .error lc) := by rw [Hid, HO.out, h]
      have HF : Hid (Fr B w w1) := hF
      clear hF h
      go_wp2
      rw [HL.out]
      exact ⟨rfl, rfl, HF.out⟩
    | ok st =>
      rw [h] at hbe
      obtain ⟨rfl, hF⟩ := hbe
      have HL : Hid (rLine ln ws (tbs ts, bg) = .ok st) := by rw [Hid, HO.out, h]
      have HF : Hid _ := hF
      clear hF h
      go_wp2
      go_end0
      rw [HL.out]
      exact ⟨rfl, HF.out⟩
  have HO : Hid (rLine ln ws (tbs ts, bg) = .error (ln, 61)) := by unfold rLine; rw [Hid, HD.out, if_neg h1, if_neg h2, if_neg h3]
  rw [decide_eq_false h3] at q3
  clear h1 h2 h3
  go_enter Tryd.func28, Tryd.ntmps28
  go_wp2_with fail
  refine (refuse_do rb _ ln bg 61 _ HR.out).mono ?_
  rintro e w1 ⟨rfl, rfl⟩
  go_wp2
  rw [HO.out]
  exact ⟨rfl, rfl, Fr.refl _ _⟩
end Go.Proofs.YtbpmahchinblhaaDoor
