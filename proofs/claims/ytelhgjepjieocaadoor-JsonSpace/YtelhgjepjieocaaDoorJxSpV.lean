/- Layer 18 (json): space behind a text; a text within another (plain). -/
import Derived.Test.YtelhgjepjieocaaDoorJxSpE
import Derived.Test.YtelhgjepjieocaaDoorJxBkS
namespace Go.Proofs.YtelhgjepjieocaaDoor
open Go.RowKit Go.Sort
set_option linter.unusedVariables false

theorem elN_le {kind : Int} {ns ns' : List (List UInt8)} {l l1 : List UInt8} (h : elN kind ns l = .ok (ns', l1)) : l1.length ≤ l.length := by
  unfold elN at h
  split at h
  · split at h
    · rename_i t r hq
      cases h
      exact nameP_len hq
    · cases h
  · cases h
    exact Nat.le_refl _
theorem Ex.le {l l' : List UInt8} (h : Ex l l') : l.length ≤ l'.length := by
  obtain ⟨Q, _, rfl⟩ := h
  simp
theorem bareF_ex : ∀ (k : Nat), (∀ (k' d : Nat) (l l' : List UInt8), Ex l l' → 2 * l.length + 1 ≤ k → 2 * l'.length + 1 ≤ k' → ExV (bareF k d l) (bareF k' d l')) ∧
    (∀ (k' : Nat) (kind : Int) (e d : Nat) (l l' : List UInt8) (ns : List (List UInt8)) (its : List Js), isSpN e = false → Ex l l' → 2 * l.length + 2 ≤ k → 2 * l'.length + 2 ≤ k' → ExV (elF k kind e d l ns its) (elF k' kind e d l' ns its))
  | 0 => ⟨fun k' d l l' h h1 h2 => (by omega), fun k' kind e d l l' ns its he h h1 h2 => (by omega)⟩
  | k + 1 => by
    obtain ⟨ih1, ih2⟩ := bareF_ex k
    refine ⟨fun k' d l l' h h1 h2 => ?_, fun k' kind e d l l' ns its he h h1 h2 => ?_⟩
    · obtain ⟨k', rfl⟩ : ∃ m, k' = m + 1 := ⟨k' - 1, by omega⟩
      have hopen : ∀ (kind : Int) (e c : Nat), isSpN e = false → hdN l = some c → hdN l' = some c → ExV (if d = 16 then Except.error 182 else if hdN (spL l.tail) = some e then .ok (.mk kind 0 [] [] [], (spL l.tail).tail) else elF k kind e d (spL l.tail) [] []) (if d = 16 then Except.error 182 else if hdN (spL l'.tail) = some e then .ok (.mk kind 0 [] [] [], (spL l'.tail).tail) else elF k' kind e d (spL l'.tail) [] []) := fun kind e c he hc hc' => by
        have ht := (h.tl hc).sp
        by_cases h16 : d = 16
        · rw [if_pos h16, if_pos h16]; rfl
        · rw [if_neg h16, if_neg h16]
          by_cases h9 : hdN (spL l.tail) = some e
          · rw [if_pos h9, if_pos ((ht.hd e he).2 h9)]
            exact ⟨_, rfl, ht.tl h9⟩
          · rw [if_neg h9, if_neg (fun q => h9 ((ht.hd e he).1 q))]
            have a1 := tail_len9 hc
            have a2 := tail_len9 hc'
            have a3 := spL_len l.tail
            have a4 := spL_len l'.tail
            exact ih2 k' kind e d _ _ [] [] he ht (by omega) (by omega)
      unfold bareF
      by_cases h91 : hdN l = some 91
      · have h91' := (h.hd 91 (by decide)).2 h91
        rw [if_pos h91, if_pos h91']
        exact hopen 5 93 91 (by decide) h91 h91'
      rw [if_neg h91, if_neg (fun q => h91 ((h.hd 91 (by decide)).1 q))]
      by_cases h123 : hdN l = some 123
      · have h123' := (h.hd 123 (by decide)).2 h123
        rw [if_pos h123, if_pos h123']
        exact hopen 6 125 123 (by decide) h123 h123'
      rw [if_neg h123, if_neg (fun q => h123 ((h.hd 123 (by decide)).1 q))]
      by_cases h34 : hdN l = some 34
      · rw [if_pos h34, if_pos ((h.hd 34 (by decide)).2 h34)]
        have ht := textP_ex h
        cases hp : textP l with
        | none => rw [hp] at ht; rw [show textP l' = none from ht]; rfl
        | some p =>
          obtain ⟨t, r⟩ := p
          rw [hp] at ht
          obtain ⟨r', e, hr⟩ := ht
          rw [e]
          exact ⟨_, rfl, hr⟩
      rw [if_neg h34, if_neg (fun q => h34 ((h.hd 34 (by decide)).1 q))]
      have hpl : ∀ {a b : Option (Int × Int × List UInt8)}, ExP a b → ExV (plR a) (plR b) := fun {a b} hab => by
        cases a with
        | none => rw [show b = none from hab]; rfl
        | some p =>
          obtain ⟨x, y, r⟩ := p
          obtain ⟨r', e, hr⟩ := hab
          rw [e]
          exact ⟨_, rfl, hr⟩
      have hnum : (hdN l = some 45 ∨ dgN ((hdN l).getD 0) = true) ↔ (hdN l' = some 45 ∨ dgN ((hdN l').getD 0) = true) := by
        cases l with
        | nil =>
          obtain ⟨Q, hQ, e⟩ := h
          rw [List.nil_append] at e
          rw [e]
          cases Q with
          | nil => exact Iff.rfl
          | cons c Q =>
            have hv := sp_val hQ.tail.1
            have hd := sp_dg hQ.tail.1
            refine ⟨fun q => ?_, fun q => ?_⟩
            · rcases q with q | q
              · cases q
              · cases q
            · rcases q with q | q
              · exact absurd q (hdN_ne (by omega))
              · rw [show dgN ((hdN (c :: Q)).getD 0) = dgU c from rfl, hd] at q
                cases q
        | cons x l =>
          obtain ⟨Q, hQ, e⟩ := h
          rw [e]
          exact Iff.rfl
      by_cases hn : hdN l = some 45 ∨ dgN ((hdN l).getD 0) = true
      · rw [if_pos hn, if_pos (hnum.1 hn)]
        refine hpl (numP_ex h ?_)
        rintro rfl
        rcases hn with q | q <;> cases q
      · rw [if_neg hn, if_neg (fun q => hn (hnum.2 q))]
        exact hpl (wordP_ex h)
    · obtain ⟨k', rfl⟩ : ∃ m, k' = m + 1 := ⟨k' - 1, by omega⟩
      unfold elF
      have hN := elN_ex kind ns h
      cases hp : elN kind ns l with
      | error c => rw [hp] at hN; rw [show elN kind ns l' = .error c from hN]; rfl
      | ok p =>
        obtain ⟨ns', l1⟩ := p
        rw [hp] at hN
        obtain ⟨l1', e1, hl⟩ := hN
        rw [e1]
        have b1 := elN_le hp
        have b2 := elN_le e1
        have b3 := spL_len l1
        have b4 := spL_len l1'
        have hV := ih1 k' (d + 1) _ _ hl.sp (by omega) (by omega)
        show ExV (match bareF k (d + 1) (spL l1) with
          | Except.error c => Except.error c
          | Except.ok (x, r) => if hdN (spL r) = some e then Except.ok (Js.mk kind 0 [] ns' (its ++ [x]), (spL r).tail) else if hdN (spL r) = some 44 then elF k kind e d (spL r).tail ns' (its ++ [x]) else Except.error 181) (match bareF k' (d + 1) (spL l1') with
          | Except.error c => Except.error c
          | Except.ok (x, r) => if hdN (spL r) = some e then Except.ok (Js.mk kind 0 [] ns' (its ++ [x]), (spL r).tail) else if hdN (spL r) = some 44 then elF k' kind e d (spL r).tail ns' (its ++ [x]) else Except.error 181)
        cases hb : bareF k (d + 1) (spL l1) with
        | error c => rw [hb] at hV; rw [show bareF k' (d + 1) (spL l1') = .error c from hV]; rfl
        | ok p =>
          obtain ⟨x, r⟩ := p
          rw [hb] at hV
          obtain ⟨r', e2, hr⟩ := hV
          rw [e2]
          have c1 := (bareF_lens k).1 _ _ _ _ hb
          have c2 := (bareF_lens k').1 _ _ _ _ e2
          have c3 := spL_len r
          have c4 := spL_len r'
          show ExV (if hdN (spL r) = some e then Except.ok (Js.mk kind 0 [] ns' (its ++ [x]), (spL r).tail) else if hdN (spL r) = some 44 then elF k kind e d (spL r).tail ns' (its ++ [x]) else Except.error 181) (if hdN (spL r') = some e then Except.ok (Js.mk kind 0 [] ns' (its ++ [x]), (spL r').tail) else if hdN (spL r') = some 44 then elF k' kind e d (spL r').tail ns' (its ++ [x]) else Except.error 181)
          by_cases he1 : hdN (spL r) = some e
          · rw [if_pos he1, if_pos ((hr.sp.hd e he).2 he1)]
            exact ⟨_, rfl, hr.sp.tl he1⟩
          rw [if_neg he1, if_neg (fun q => he1 ((hr.sp.hd e he).1 q))]
          by_cases h44 : hdN (spL r) = some 44
          · have h44' := (hr.sp.hd 44 (by decide)).2 h44
            rw [if_pos h44, if_pos h44']
            have d1 := tail_len9 h44
            have d2 := tail_len9 h44'
            exact ih2 k' kind e d _ _ ns' (its ++ [x]) he (hr.sp.tl h44) (by omega) (by omega)
          · rw [if_neg h44, if_neg (fun q => h44 ((hr.sp.hd 44 (by decide)).1 q))]
            rfl
theorem spL_nil_ex {l l' : List UInt8} (h : Ex l l') : spL l = [] ↔ spL l' = [] := by
  obtain ⟨Q, hQ, e⟩ := h.sp
  refine ⟨fun h0 => ?_, fun h0 => ?_⟩
  · rw [h0, List.nil_append] at e
    have := spL_spL l'
    rw [e, sp_sp Q hQ] at this
    rw [e, ← this]
  · rw [h0] at e
    exact (List.append_eq_nil_iff.1 e.symm).1
/-- Space around a text changes nothing. -/
theorem parseJ_space (P s : List UInt8) (hP : Sp P) (hl : s.length + 2 * P.length ≤ 65536) : parseJ (nmB (P ++ s ++ P)) = parseJ (nmB s) := by
  have z1 : (nmB (P ++ s ++ P)).size = s.length + 2 * P.length := by simp [nmB, ByteArray.size]; omega
  have z2 : (nmB s).size = s.length := by simp [nmB, ByteArray.size]
  have t1 : tl (nmB (P ++ s ++ P)) 0 = P ++ s ++ P := by unfold tl nmB; simp
  have t2 : tl (nmB s) 0 = s := by unfold tl nmB; simp
  have hE : Ex (spL s) (spL (s ++ P)) := Ex.sp ⟨P, hP, rfl⟩
  have a1 := spL_len s
  have a2 := spL_len (s ++ P)
  have a3 : (s ++ P).length = s.length + P.length := List.length_append
  have hV := (bareF_ex (2 * (nmB s).size + 1)).1 (2 * (nmB (P ++ s ++ P)).size + 1) 0 _ _ hE (by omega) (by omega)
  unfold parseJ
  rw [if_neg (by omega), if_neg (by omega), t1, t2]
  unfold valF
  rw [show spL (P ++ s ++ P) = spL (s ++ P) by rw [List.append_assoc]; exact spL_front P _ hP]
  cases hb : bareF (2 * (nmB s).size + 1) 0 (spL s) with
  | error c => rw [hb] at hV; rw [show bareF (2 * (nmB (P ++ s ++ P)).size + 1) 0 (spL (s ++ P)) = .error c from hV]
  | ok p =>
    obtain ⟨x, r⟩ := p
    rw [hb] at hV
    obtain ⟨r', e, hr⟩ := hV
    rw [e]
    show (if spL r' = [] then Except.ok x else Except.error 181) = (if spL r = [] then Except.ok x else Except.error 181)
    by_cases h0 : spL r = []
    · rw [if_pos h0, if_pos ((spL_nil_ex hr).1 h0)]
    · rw [if_neg h0, if_neg (fun q => h0 ((spL_nil_ex hr).2 q))]
end Go.Proofs.YtelhgjepjieocaaDoor
