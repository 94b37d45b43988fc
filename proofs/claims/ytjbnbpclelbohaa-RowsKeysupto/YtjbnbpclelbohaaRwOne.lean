import Derived.Test.YtjbnbpclelbohaaRows
import Derived.Test.YtjbnbpclelbohaaRwArgs
import Derived.Test.YtjbnbpclelbohaaRwRefK
import Derived.Test.YtjbnbpclelbohaaSRParse
/- Layer 7 (rows): what the bulk of an argument of type api.Row bounds. -/
namespace Go.Proofs.Ytjbnbpclelbohaa
open Go.RowKit
set_option linter.unusedVariables false

theorem bulk_pos {H : Type} (d : DataW H) : 1 ≤ Rows.uptoBulk d := by
  cases d with
  | lit l => cases l <;> simp [Rows.uptoBulk]
  | _ => simp [Rows.uptoBulk]
theorem bulk_mem {H : Type} : ∀ {l : List (DataW H)} {d : DataW H}, d ∈ l → Rows.uptoBulk d ≤ Rows.uptoBulkAll l
  | e :: l, d, h => by
    simp only [Rows.uptoBulkAll]
    rcases List.mem_cons.1 h with rfl | h
    · omega
    · have := bulk_mem h; omega
theorem bulk_len {H : Type} : ∀ l : List (DataW H), l.length ≤ Rows.uptoBulkAll l
  | [] => by simp
  | d :: l => by
    have h1 := bulk_pos d
    have h2 := bulk_len l
    simp only [Rows.uptoBulkAll, List.length_cons]
    omega
theorem list_bulk {H : Type} {l : List ByteArray} {d : DataW H} (h : ListData l d) : l.length ≤ Rows.uptoBulk d ∧ ∀ s ∈ l, s.size ≤ Rows.uptoBulk d := by
  rcases h with ⟨_, rfl⟩ | ⟨sp, rfl⟩
  · simp
  · simp only [Rows.uptoBulk]
    have h1 := bulk_len (l.map (strData (H := H)))
    rw [List.length_map] at h1
    refine ⟨by omega, fun s hs => ?_⟩
    have h2 := bulk_mem (List.mem_map_of_mem (f := strData (H := H)) hs)
    have h3 : Rows.uptoBulk (strData (H := H) s) = s.size + 1 := by
      unfold strData
      simp only [Rows.uptoBulk, Array.length_toList]
      rfl
    omega
theorem row_bulk {H : Type} {cs : List CV} {D : Nat → DataW H} {spare : List (DataW H)} {d : DataW H} (hd : d = .nil ∧ cs = [] ∨ d = .slice ((List.range cs.length).map D) spare ∧ ∀ i (h : i < cs.length), CellData cs[i] (D i)) :
    cs.length ≤ Rows.uptoBulk d ∧ ∀ c ∈ cs, c.t.size ≤ Rows.uptoBulk d ∧ (∀ s ∈ c.l, s.size ≤ Rows.uptoBulk d) ∧ c.l.length ≤ Rows.uptoBulk d := by
  rcases hd with ⟨_, rfl⟩ | ⟨rfl, hD⟩
  · simp
  · simp only [Rows.uptoBulk]
    have h1 := bulk_len ((List.range cs.length).map D)
    rw [List.length_map, List.length_range] at h1
    refine ⟨by omega, fun c hc => ?_⟩
    obtain ⟨i, hi, rfl⟩ := List.getElem_of_mem hc
    obtain ⟨dl, hd, hl⟩ := hD i hi
    have h2 := bulk_mem (List.mem_map_of_mem (f := D) (List.mem_range.2 hi))
    rw [hd] at h2
    simp only [Rows.uptoBulk, Rows.uptoBulkAll, Array.length_toList] at h2
    have h3 := list_bulk hl
    have h4 : cs[i].t.data.size = cs[i].t.size := rfl
    exact ⟨by omega, fun s hs => by have := h3.2 s hs; omega, by omega⟩
theorem small_bulk {H : Type} {cs : List CV} {D : Nat → DataW H} {spare : List (DataW H)} {d : DataW H} (hd : d = .nil ∧ cs = [] ∨ d = .slice ((List.range cs.length).map D) spare ∧ ∀ i (h : i < cs.length), CellData cs[i] (D i)) (hb : Rows.uptoBulk d ≤ 1048576) :
    cs.length ≤ 1048576 ∧ (∀ c ∈ cs, c.szOk) ∧ SmallC cs := by
  obtain ⟨h1, h2⟩ := row_bulk hd
  refine ⟨by omega, fun c hc => ?_, fun c hc => ?_⟩
  · obtain ⟨a, b, c'⟩ := h2 c hc
    exact ⟨by omega, fun s hs => by have := b s hs; omega, by omega⟩
  · obtain ⟨a, b, c'⟩ := h2 c hc
    exact ⟨by omega, fun s hs => by have := b s hs; omega⟩
end Go.Proofs.Ytjbnbpclelbohaa

/- Layer 7 (rows): an index of a table of layer 6 goes over one list field at most. -/
namespace Go.Proofs.Ytjbnbpclelbohaa
open Go.RowKit
set_option linter.unusedVariables false

def OneL (ts : List Tb) : Prop := ∀ t ∈ ts, ∀ x ∈ t.xs, listsOf t.fs x.ov ≤ 1
theorem mem_drop {ts : List Tb} {t : Tb} (h : t ∈ ts.dropLast) : t ∈ ts := (List.dropLast_sublist ts).subset h
theorem mem_last {ts : List Tb} {t : Tb} (h : ts.getLast? = some t) : t ∈ ts := List.mem_of_getLast? h
theorem mayB_one {t : Tb} {x : Ix} (h : mayB t x = true) : listsOf t.fs x.ov ≤ 1 := by
  unfold mayB at h
  split at h
  · simp only [Bool.and_eq_true, decide_eq_true_eq] at h
    omega
  · simp only [decide_eq_true_eq] at h
    omega
theorem rTable_one {ln : Int} {ws : List ByteArray} {st st' : St} (h : rTable ln ws st = .ok st') (hp : OneL st.1) : OneL st'.1 := by
  unfold rTable at h
  repeat' split at h
  all_goals first
    | cases h; done
    | (simp only [Except.ok.injEq] at h
       subst h
       intro t ht x hx
       rcases List.mem_append.1 ht with ht | ht
       · exact hp t ht x hx
       · simp only [List.mem_singleton] at ht
         subst ht
         simp at hx)
theorem rField_one {ln : Int} {ws : List ByteArray} {st st' : St} (h : rField ln ws st = .ok st') (hp : OneL st.1) : OneL st'.1 := by
  unfold rField at h
  split at h
  · cases h
  · split at h
    · cases h
    · split at h
      · cases h
      · split at h
        · cases h
        · next t0 ht0 =>
          split at h
          · cases h
          · next hx0 =>
            split at h
            · cases h
            · split at h
              · cases h
              · simp only [Except.ok.injEq] at h
                subst h
                intro t ht x hx
                rcases List.mem_append.1 ht with ht | ht
                · exact hp t (mem_drop ht) x hx
                · simp only [List.mem_singleton] at ht
                  subst ht
                  have h0 : t0.xs = [] := List.length_eq_zero_iff.1 (by omega)
                  simp only [h0] at hx
                  simp at hx
theorem rIndex_one {ln : Int} {ws : List ByteArray} {st st' : St} (h : rIndex ln ws st = .ok st') (hp : OneL st.1) : OneL st'.1 := by
  unfold rIndex at h
  split at h
  · cases h
  · split at h
    · cases h
    · split at h
      · cases h
      · split at h
        · cases h
        · next t0 ht0 =>
          split at h
          · cases h
          · split at h
            · cases h
            · split at h
              · cases h
              · split at h
                · cases h
                · next hm =>
                  simp only [Except.ok.injEq] at h
                  subst h
                  intro t ht x hx
                  rcases List.mem_append.1 ht with ht | ht
                  · exact hp t (mem_drop ht) x hx
                  · simp only [List.mem_singleton] at ht
                    subst ht
                    rcases List.mem_append.1 hx with hx | hx
                    · exact hp t0 (mem_last ht0) x hx
                    · simp only [List.mem_singleton] at hx
                      subst hx
                      have h1 := mayB_one (t := t0) (by cases hb : mayB t0 _ with | true => rfl | false => exact absurd hb hm)
                      exact h1
theorem rLine_one {ln : Int} {ws : List ByteArray} {st st' : St} (h : rLine ln ws st = .ok st') (hp : OneL st.1) : OneL st'.1 := by
  unfold rLine at h
  split at h
  · exact rTable_one h hp
  · split at h
    · exact rField_one h hp
    · split at h
      · exact rIndex_one h hp
      · cases h
theorem rLines_one : ∀ (ls : List ByteArray) (ln : Int) (st st' : St), rLines ln ls st = .ok st' → OneL st.1 → OneL st'.1
  | [], ln, st, st', h, hp => by
    unfold rLines at h
    simp only [Except.ok.injEq] at h
    subst h
    exact hp
  | l :: ls, ln, st, st', h, hp => by
    unfold rLines at h
    split at h
    · exact rLines_one ls _ _ _ h hp
    · split at h
      · cases h
      · next st2 h2 => exact rLines_one ls _ _ _ h (rLine_one h2 hp)
/-- Over one list field at most. -/
theorem parse_one {text : ByteArray} {us : List Tb} (h : parseP text = .ok us) : OneL us := by
  unfold parseP at h
  split at h
  · cases h
  · split at h
    · cases h
    · next st hst =>
      split at h
      · cases h
      · simp only [Except.ok.injEq] at h
        subst h
        exact rLines_one _ _ _ _ hst (fun t ht => by simp at ht)
/-- A table's first index is unique, not loose, and goes over no list field. -/
def FirstX (fs : List Fd) (x : Ix) : Prop := x.u = true ∧ x.s = false ∧ listsOf fs x.ov = 0
def FirstL (ts : List Tb) : Prop := ∀ t ∈ ts, ∀ x, t.xs[0]? = some x → FirstX t.fs x
theorem mayB_first {t : Tb} {x : Ix} (h : mayB t x = true) (h0 : t.xs = []) : FirstX t.fs x := by
  unfold mayB at h
  rw [if_pos (by rw [h0]; rfl)] at h
  simp only [Bool.and_eq_true, decide_eq_true_eq, Bool.not_eq_true'] at h
  exact ⟨h.2.1, h.2.2.1, h.2.2.2⟩
theorem rTable_first {ln : Int} {ws : List ByteArray} {st st' : St} (h : rTable ln ws st = .ok st') (hp : FirstL st.1) : FirstL st'.1 := by
  unfold rTable at h
  repeat' split at h
  all_goals first
    | cases h; done
    | (simp only [Except.ok.injEq] at h
       subst h
       intro t ht x hx
       rcases List.mem_append.1 ht with ht | ht
       · exact hp t ht x hx
       · simp only [List.mem_singleton] at ht
         subst ht
         simp at hx)
theorem rField_first {ln : Int} {ws : List ByteArray} {st st' : St} (h : rField ln ws st = .ok st') (hp : FirstL st.1) : FirstL st'.1 := by
  unfold rField at h
  split at h
  · cases h
  · split at h
    · cases h
    · split at h
      · cases h
      · split at h
        · cases h
        · next t0 ht0 =>
          split at h
          · cases h
          · next hx0 =>
            split at h
            · cases h
            · split at h
              · cases h
              · simp only [Except.ok.injEq] at h
                subst h
                intro t ht x hx
                rcases List.mem_append.1 ht with ht | ht
                · exact hp t (mem_drop ht) x hx
                · simp only [List.mem_singleton] at ht
                  subst ht
                  have h0 : t0.xs = [] := List.length_eq_zero_iff.1 (by omega)
                  simp only [h0] at hx
                  simp at hx
theorem rIndex_first {ln : Int} {ws : List ByteArray} {st st' : St} (h : rIndex ln ws st = .ok st') (hp : FirstL st.1) : FirstL st'.1 := by
  unfold rIndex at h
  split at h
  · cases h
  · split at h
    · cases h
    · split at h
      · cases h
      · split at h
        · cases h
        · next t0 ht0 =>
          split at h
          · cases h
          · split at h
            · cases h
            · split at h
              · cases h
              · split at h
                · cases h
                · next hm =>
                  simp only [Except.ok.injEq] at h
                  subst h
                  intro t ht x hx
                  rcases List.mem_append.1 ht with ht | ht
                  · exact hp t (mem_drop ht) x hx
                  · simp only [List.mem_singleton] at ht
                    subst ht
                    dsimp only at hx ⊢
                    cases h0 : t0.xs with
                    | nil =>
                      rw [h0] at hx
                      simp only [List.nil_append, List.getElem?_cons_zero, Option.some.injEq] at hx
                      subst hx
                      exact mayB_first (t := t0) (by cases hb : mayB t0 _ with | true => rfl | false => exact absurd hb hm) h0
                    | cons y ys =>
                      rw [h0] at hx
                      simp only [List.cons_append, List.getElem?_cons_zero, Option.some.injEq] at hx
                      subst hx
                      exact hp t0 (mem_last ht0) _ (by rw [h0]; rfl)
theorem rLine_first {ln : Int} {ws : List ByteArray} {st st' : St} (h : rLine ln ws st = .ok st') (hp : FirstL st.1) : FirstL st'.1 := by
  unfold rLine at h
  split at h
  · exact rTable_first h hp
  · split at h
    · exact rField_first h hp
    · split at h
      · exact rIndex_first h hp
      · cases h
theorem rLines_first : ∀ (ls : List ByteArray) (ln : Int) (st st' : St), rLines ln ls st = .ok st' → FirstL st.1 → FirstL st'.1
  | [], ln, st, st', h, hp => by
    unfold rLines at h
    simp only [Except.ok.injEq] at h
    subst h
    exact hp
  | l :: ls, ln, st, st', h, hp => by
    unfold rLines at h
    split at h
    · exact rLines_first ls _ _ _ h hp
    · split at h
      · cases h
      · next st2 h2 => exact rLines_first ls _ _ _ h (rLine_first h2 hp)
theorem parse_first {text : ByteArray} {us : List Tb} (h : parseP text = .ok us) : FirstL us := by
  unfold parseP at h
  split at h
  · cases h
  · split at h
    · cases h
    · next st hst =>
      split at h
      · cases h
      · simp only [Except.ok.injEq] at h
        subst h
        exact rLines_first _ _ _ _ hst (fun t ht => by simp at ht)
/-- What rows asks of a table. -/
structure ROk (t : Tb) : Prop where
  one : ∀ x ∈ t.xs, listsOf t.fs x.ov ≤ 1
  first : ∀ x, t.xs[0]? = some x → FirstX t.fs x
theorem parse_rok {text : ByteArray} {us : List Tb} (h : parseP text = .ok us) : ∀ t ∈ us, ROk t := fun t ht => ⟨parse_one h t ht, parse_first h t ht⟩
end Go.Proofs.Ytjbnbpclelbohaa
