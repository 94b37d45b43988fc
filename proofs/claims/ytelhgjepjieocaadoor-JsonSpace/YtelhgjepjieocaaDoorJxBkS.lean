/- Layer 18 (json): what is read is sound, and its print is no longer. -/
import Derived.Test.YtelhgjepjieocaaDoorJxBkR
namespace Go.Proofs.YtelhgjepjieocaaDoor
open Go.RowKit Go.Sort
set_option linter.unusedVariables false

theorem chrP_len6 : ∀ c : Fin 256, (chrP c.val).length ≤ 6 := by decide +kernel
theorem escV_len2 : ∀ u : Fin 256, ((escV u.val).all fun v => decide (v < 256) && decide ((chrP v).length ≤ 2)) = true := by decide +kernel
theorem chrP_len1 : ∀ c : Fin 256, 32 ≤ c.val → c.val ≠ 34 → c.val ≠ 92 → (chrP c.val).length = 1 := by decide +kernel
theorem chB_len {c : Nat} (h : c < 256) : (chB c.toUInt8).length = (chrP c).length := by
  unfold chB
  rw [List.length_map, show (c.toUInt8).toNat = c by simp; omega]
theorem charP_cost {l r : List UInt8} {c : Nat} (h34 : ¬ hdN l = some 34) (h : charP l = some (c, r)) : (chB c.toUInt8).length + r.length ≤ l.length := by
  have hc := (charP_len h).1
  rw [chB_len hc]
  cases l with
  | nil => cases h
  | cons x l =>
    have hx := x.toNat_lt
    have h' : (if x.toNat = 92 then escP l else if x.toNat < 32 then none else some (x.toNat, l)) = some (c, r) := h
    split at h'
    · cases l with
      | nil => cases h'
      | cons u l =>
        have hu := u.toNat_lt
        have h2 : (if u.toNat = 117 then hex4P l else (escV u.toNat).map fun v => (v, l)) = some (c, r) := h'
        split at h2
        · unfold hex4P at h2
          split at h2
          · rename_i h4
            cases hq : hexF 0 (l.take 4) with
            | none => rw [hq] at h2; cases h2
            | some v =>
              rw [hq] at h2
              cases h2
              have := chrP_len6 ⟨c, hc⟩
              simp only [List.length_drop, List.length_cons] at this ⊢
              omega
          · cases h2
        · have hv := escV_len2 ⟨u.toNat, hu⟩
          cases hq : escV u.toNat with
          | none => rw [hq] at h2; cases h2
          | some v =>
            rw [hq] at h2
            simp only [hq] at hv
            cases h2
            simp only [Option.all_some, Bool.and_eq_true, decide_eq_true_eq] at hv
            simp only [List.length_cons]
            omega
    · split at h'
      · cases h'
      · rename_i n92 n32
        cases h'
        have := chrP_len1 ⟨x.toNat, hx⟩ (by simp; omega) (fun e => h34 (by show some x.toNat = _; exact congrArg some e)) n92
        simp only [List.length_cons] at this ⊢
        omega
theorem chF_cost : ∀ (k : Nat) {l t r : List UInt8}, chF k l = some (t, r) → (flB t).length + 1 + r.length ≤ l.length
  | 0, l, t, r, h => by cases h
  | k + 1, l, t, r, h => by
    by_cases h34 : hdN l = some 34
    · rw [chF_end h34] at h
      cases h
      cases l with
      | nil => cases h34
      | cons x l => simp [flB]; omega
    · rw [chF_step h34] at h
      cases hc : charP l with
      | none => rw [hc] at h; cases h
      | some p =>
        obtain ⟨c, r'⟩ := p
        rw [hc] at h
        have e9 : chS k (some (c, r')) = (chF k r').map fun p => (c.toUInt8 :: p.1, p.2) := rfl
        rw [e9] at h
        cases hk : chF k r' with
        | none => rw [hk] at h; cases h
        | some q =>
          obtain ⟨t', r2⟩ := q
          rw [hk] at h
          cases h
          have h1 := chF_cost k hk
          have h2 := charP_cost h34 hc
          simp only [flB, List.flatMap_cons, List.length_append] at h1 ⊢
          omega
theorem textP_cost {l t r : List UInt8} (h : textP l = some (t, r)) : (ptx t).length + r.length ≤ l.length := by
  unfold textP at h
  split at h
  · rename_i h34
    have h1 := chF_cost _ h
    cases l with
    | nil => cases h34
    | cons x l =>
      simp [ptx] at h1 ⊢
      omega
  · cases h
theorem tail_len9 {l : List UInt8} {c : Nat} (h : hdN l = some c) : l.tail.length + 1 = l.length := by
  cases l with
  | nil => cases h
  | cons x l => simp
theorem nameP_cost {ns : List (List UInt8)} {l t r : List UInt8} (h : nameP ns l = .ok (t, r)) : t ∉ ns ∧ (ptx t).length + 1 + r.length ≤ l.length := by
  unfold nameP at h
  split at h
  · cases h
  · rename_i t9 r9 ht
    have h1 := textP_cost ht
    have h2 := spL_len l
    have h3 := spL_len r9
    split at h
    · cases h
    · rename_i hni
      split at h
      · rename_i h58
        cases h
        have h4 := tail_len9 h58
        exact ⟨hni, by omega⟩
      · cases h
theorem numP_cost {l r : List UInt8} {k v : Int} (h : numP l = some (k, v, r)) : k = 3 ∧ (Lib.itoa v).length + r.length = l.length := by
  unfold numP at h
  split at h
  · split at h
    · rename_i v9 hq he
      cases h
      refine ⟨rfl, ?_⟩
      rw [he]
      conv => rhs; rw [← numT_R l]
      simp
    · cases h
  · cases h
theorem wordP_cost {l r : List UInt8} {k v : Int} (h : wordP l = some (k, v, r)) : (k = 1 ∧ v = 0 ∧ 4 + r.length ≤ l.length) ∨ (k = 2 ∧ v = 1 ∧ 4 + r.length ≤ l.length) ∨ (k = 2 ∧ v = 0 ∧ 5 + r.length ≤ l.length) := by
  unfold wordP at h
  split at h
  · rename_i hp
    have := hasPrefix_len hp
    cases h
    refine .inl ⟨rfl, rfl, ?_⟩
    have e : wNull.data.toList.length = 4 := by decide
    simp; omega
  · split at h
    · rename_i hp
      have := hasPrefix_len hp
      cases h
      refine .inr (.inl ⟨rfl, rfl, ?_⟩)
      have e : wTrue.data.toList.length = 4 := by decide
      simp; omega
    · split at h
      · rename_i hp
        have := hasPrefix_len hp
        cases h
        refine .inr (.inr ⟨rfl, rfl, ?_⟩)
        have e : wFalse.data.toList.length = 5 := by decide
        simp; omega
      · cases h
theorem allS_push : ∀ (its : List Js) (x : Js) (d : Nat), allS its d = true → soundJ x d = true → allS (its ++ [x]) d = true
  | [], x, d, _, h => by
    show allS [x] d = true
    unfold allS allS
    simp [h]
  | y :: ys, x, d, h, hx => by
    unfold allS at h
    simp only [Bool.and_eq_true] at h
    show allS (y :: (ys ++ [x])) d = true
    unfold allS
    simp only [Bool.and_eq_true]
    exact ⟨h.1, allS_push ys x d h.2 hx⟩
theorem pis_push6 (t : List UInt8) (x : Js) : ∀ (its : List Js) (first : Bool) (ns : List (List UInt8)), ns.length = its.length →
    (pis true first (ns ++ [t]) (its ++ [x])).length = (pis true first ns its).length + (if its = [] ∧ first = true then 0 else 1) + ((ptx t).length + 1) + (pv x).length
  | [], first, ns, h => by
    obtain rfl : ns = [] := List.eq_nil_of_length_eq_zero h
    show (pis true first [t] [x]).length = _
    rw [pis_cons, pis_nil, pis_nil]
    cases first <;> simp <;> omega
  | y :: ys, first, n :: ns, h => by
    show (pis true first (n :: (ns ++ [t])) (y :: (ys ++ [x]))).length = _
    rw [pis_cons, pis_cons]
    simp only [List.tail_cons, List.headD_cons, List.length_append]
    rw [pis_push6 t x ys false ns (by simpa using h)]
    cases first <;> simp <;> omega
theorem pis_push5 (x : Js) : ∀ (its : List Js) (first : Bool), (pis false first [] (its ++ [x])).length = (pis false first [] its).length + (if its = [] ∧ first = true then 0 else 1) + (pv x).length
  | [], first => by
    show (pis false first [] [x]).length = _
    rw [pis_cons, pis_nil]
    cases first <;> simp [pis_nil] <;> omega
  | y :: ys, first => by
    show (pis false first [] (y :: (ys ++ [x]))).length = _
    rw [pis_cons, pis_cons]
    simp only [List.tail_nil, List.length_append]
    rw [pis_push5 x ys false]
    cases first <;> simp <;> omega
theorem nodup_push {ns : List (List UInt8)} {t : List UInt8} (h : ns.Nodup) (ht : t ∉ ns) : (ns ++ [t]).Nodup := by
  rw [List.nodup_append]
  exact ⟨h, by simp, fun a ha b hb e => by rw [List.mem_singleton.1 hb] at e; exact ht (e ▸ ha)⟩
def isO (kind : Int) : Bool := decide (kind = 6)
theorem snd_of {kind : Int} {d : Nat} {ns : List (List UInt8)} {its : List Js} (hk : kind = 5 ∨ kind = 6) (hd : d < 16) (ha : allS its (d + 1) = true) (h6 : kind = 6 → ns.length = its.length ∧ ns.Nodup) (h5 : kind = 5 → ns = []) : soundJ (.mk kind 0 [] ns its) d = true := by
  unfold soundJ
  rcases hk with rfl | rfl
  · rw [h5 rfl]
    simp [hd, ha]
  · obtain ⟨h1, h2⟩ := h6 rfl
    simp [hd, ha, h1, h2]
theorem pv_of {kind : Int} {ns : List (List UInt8)} {its : List Js} (hk : kind = 5 ∨ kind = 6) : (pv (.mk kind 0 [] ns its)).length = (pis (isO kind) true ns its).length + 2 := by
  unfold pv
  rcases hk with rfl | rfl
  · simp [isO]
  · simp [isO]
theorem bareF_snd : ∀ (k : Nat), (∀ (d : Nat) (l : List UInt8) (x : Js) (r : List UInt8), bareF k d l = .ok (x, r) → d ≤ 16 → soundJ x d = true ∧ (pv x).length + r.length ≤ l.length) ∧
    (∀ (kind : Int) (e d : Nat) (l : List UInt8) (ns : List (List UInt8)) (its : List Js) (x : Js) (r : List UInt8), elF k kind e d l ns its = .ok (x, r) → (kind = 5 ∨ kind = 6) → d < 16 → allS its (d + 1) = true → (kind = 6 → ns.length = its.length ∧ ns.Nodup) → (kind = 5 → ns = []) →
      soundJ x d = true ∧ (pv x).length + r.length ≤ (pis (isO kind) true ns its).length + (if its = [] then 0 else 1) + l.length + 1)
  | 0 => ⟨fun d l x r h => (by unfold bareF at h; cases h), fun kind e d l ns its x r h => (by unfold elF at h; cases h)⟩
  | k + 1 => by
    obtain ⟨ih1, ih2⟩ := bareF_snd k
    refine ⟨fun d l x r h hd => ?_, fun kind e d l ns its x r h hk hd ha h6 h5 => ?_⟩
    · unfold bareF at h
      have h0 := spL_len l.tail
      have hw : ∀ (kind : Int) (e c : Nat), (kind = 5 ∨ kind = 6) → hdN l = some c → (if d = 16 then Except.error 182 else if hdN (spL l.tail) = some e then .ok (.mk kind 0 [] [] [], (spL l.tail).tail) else elF k kind e d (spL l.tail) [] []) = Except.ok (x, r) → soundJ x d = true ∧ (pv x).length + r.length ≤ l.length := fun kind e c hk hc h => by
        have h1 := tail_len9 hc
        split at h
        · cases h
        · rename_i h16
          split at h
          · rename_i he
            have h2 := tail_len9 he
            cases h
            refine ⟨snd_of hk (by omega) (by unfold allS; rfl) (fun _ => ⟨rfl, List.nodup_nil⟩) (fun _ => rfl), ?_⟩
            rw [pv_of hk, pis_nil]
            simp only [List.length_nil]
            omega
          · have := ih2 _ _ _ _ _ _ _ _ h hk (by omega) (by unfold allS; rfl) (fun _ => ⟨rfl, List.nodup_nil⟩) (fun _ => rfl)
            rw [pis_nil] at this
            refine ⟨this.1, ?_⟩
            have h3 := this.2
            simp only [List.length_nil, if_true] at h3
            omega
      split at h
      · rename_i hc
        exact hw _ _ _ (.inl rfl) hc h
      · split at h
        · rename_i hc
          exact hw _ _ _ (.inr rfl) hc h
        · split at h
          · cases ht : textP l with
            | none => rw [ht] at h; cases h
            | some p =>
              obtain ⟨t, r'⟩ := p
              rw [ht] at h
              cases h
              refine ⟨by unfold soundJ; simp, ?_⟩
              exact textP_cost ht
          · split at h
            · cases ht : numP l with
              | none => rw [ht] at h; cases h
              | some p =>
                obtain ⟨a, b, r'⟩ := p
                rw [ht] at h
                cases h
                obtain ⟨rfl, h1⟩ := numP_cost ht
                refine ⟨by unfold soundJ; simp, ?_⟩
                show (Lib.itoa b).length + _ ≤ _
                omega
            · cases ht : wordP l with
              | none => rw [ht] at h; cases h
              | some p =>
                obtain ⟨a, b, r'⟩ := p
                rw [ht] at h
                cases h
                rcases wordP_cost ht with ⟨rfl, rfl, h1⟩ | ⟨rfl, rfl, h1⟩ | ⟨rfl, rfl, h1⟩
                · exact ⟨rfl, h1⟩
                · exact ⟨rfl, h1⟩
                · exact ⟨rfl, h1⟩
    · unfold elF at h
      have hN : ∀ ns' l1, elN kind ns l = .ok (ns', l1) → (∀ x, (pis (isO kind) true ns' (its ++ [x])).length + l1.length ≤ (pis (isO kind) true ns its).length + (if its = [] then 0 else 1) + (pv x).length + l.length) ∧ (kind = 6 → ns'.length = its.length + 1 ∧ ns'.Nodup) ∧ (kind = 5 → ns' = []) := fun ns' l1 hh => by
        unfold elN at hh
        split at hh
        · rename_i hk6
          subst hk6
          split at hh
          · rename_i t r2 hq
            cases hh
            obtain ⟨h1, h2⟩ := nameP_cost hq
            obtain ⟨h7, h8⟩ := h6 rfl
            refine ⟨fun x => ?_, fun _ => ⟨by simp [h7], nodup_push h8 h1⟩, fun h => by omega⟩
            show (pis true true (ns ++ [t]) (its ++ [x])).length + _ ≤ (pis true true ns its).length + _ + _ + _
            rw [pis_push6 t x its true ns h7]
            simp only [and_true]
            omega
          · cases hh
        · rename_i hk6
          cases hh
          obtain rfl : kind = 5 := by rcases hk with h | h; exact h; exact absurd h hk6
          obtain rfl := h5 rfl
          refine ⟨fun x => ?_, fun h => absurd h hk6, fun _ => rfl⟩
          show (pis false true [] (its ++ [x])).length + _ ≤ (pis false true [] its).length + _ + _ + _
          rw [pis_push5 x its true]
          simp only [and_true]
          omega
      split at h
      · cases h
      · rename_i ns' l1 hq
        obtain ⟨h1, hn6, hn5⟩ := hN _ _ hq
        split at h
        · cases h
        · rename_i y r1 hb
          have h3 := spL_len l1
          obtain ⟨hys, hyl⟩ := ih1 _ _ _ _ hb (by omega)
          have h4 := spL_len r1
          have h9 := h1 y
          have ha2 := allS_push its y (d + 1) ha hys
          have hl6 : kind = 6 → ns'.length = (its ++ [y]).length ∧ ns'.Nodup := fun h => ⟨by rw [(hn6 h).1]; simp, (hn6 h).2⟩
          split at h
          · rename_i he
            have h5' := tail_len9 he
            cases h
            refine ⟨snd_of hk hd ha2 hl6 hn5, ?_⟩
            rw [pv_of hk]
            omega
          · split at h
            · rename_i he
              have h5' := tail_len9 he
              have := ih2 _ _ _ _ _ _ _ _ h hk hd ha2 hl6 hn5
              refine ⟨this.1, ?_⟩
              have h8 := this.2
              rw [if_neg (by simp)] at h8
              omega
            · cases h
theorem parseJ_snd {s : ByteArray} {v : Js} (h : parseJ s = .ok v) : soundJ v 0 = true ∧ (pv v).length ≤ s.size ∧ s.size ≤ 65536 := by
  unfold parseJ at h
  split at h
  · cases h
  · rename_i hs
    unfold valF at h
    have h0 := spL_len (tl s 0)
    have hl := tl_length s 0
    cases hb : bareF (2 * s.size + 1) 0 (spL (tl s 0)) with
    | error c => rw [hb] at h; cases h
    | ok p =>
      obtain ⟨x, r⟩ := p
      rw [hb] at h
      have hx := (bareF_snd _).1 _ _ _ _ hb (by omega)
      have h' : (if spL r = [] then Except.ok x else Except.error 181) = Except.ok (ε := Int) v := h
      split at h'
      · cases h'; exact ⟨hx.1, by omega, by omega⟩
      · cases h'
end Go.Proofs.YtelhgjepjieocaaDoor
