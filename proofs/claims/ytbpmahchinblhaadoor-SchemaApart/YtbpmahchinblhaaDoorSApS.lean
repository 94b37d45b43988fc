/- Layer 6 (schema): what the law has written so far, as a word on the tables' contents. -/
import Derived.Test.YtbpmahchinblhaaDoorSApI
namespace Go.Proofs.YtbpmahchinblhaaDoor
open Go.RowKit
set_option linter.unusedVariables false

/-- The places of index j of table i: all but the last e are as the law wrote them. -/
def XM (i j e : Nat) (x : XV) : Prop := (∀ (k : Nat) (p : Int), x.x.ov[k]? = some p → k + e < x.x.ov.length → p = 100 * (i : Int) + 10 * j + k) ∧ x.x.ov.length ≤ 4 + e
/-- The kinds of table i's fields: all but the last e as written, those as appended. -/
def FM (i e : Nat) (t : TV) : Prop := (∀ (j : Nat) (f : Fd), t.fs[j]? = some f → (j + e < t.fs.length → f.k = 100 + (i : Int)) ∧ (t.fs.length ≤ j + e → f.k = 200 + (i : Int))) ∧ t.fs.length ≤ 16 + e
/-- Table i is as the law leaves it. -/
def DM (e e2 i : Nat) (t : TV) : Prop := (∀ (j : Nat) (x : XV), t.xs[j]? = some x → XM i j e x) ∧ FM i e2 t ∧ t.xs.length ≤ 8 + e2
def B0 (t : TV) : Prop := t.fs.length ≤ 16 ∧ t.xs.length ≤ 8 ∧ ∀ (j : Nat) (x : XV), t.xs[j]? = some x → x.x.ov.length ≤ 4
theorem TOk.b0 {t : TV} (h : TOk t) : B0 t := ⟨h.fmost, h.xmost, fun j x hx => (h.xok x (List.mem_of_getElem? hx)).most⟩

/-- Written over: the tables before i; in i the indexes before j, in that the places before k; its fields before l. -/
def S1 (i j k l : Nat) (ts : List TV) : Prop := ∀ (i' : Nat) (t : TV), ts[i']? = some t → B0 t ∧ (i' < i → DM 0 0 i' t) ∧ (i' = i → (∀ (j' : Nat) (x : XV), t.xs[j']? = some x → (j' < j → XM i j' 0 x) ∧ (j' = j → ∀ (k' : Nat) (p : Int), x.x.ov[k']? = some p → k' < k → p = 100 * (i : Int) + 10 * j + k')) ∧ ∀ (j' : Nat) (f : Fd), t.fs[j']? = some f → j' < l → f.k = 100 + (i : Int))
theorem S1.start {ts : List TV} (h : ∀ t ∈ ts, TOk t) : S1 0 0 0 0 ts := fun i' t ht => ⟨(h t (List.mem_of_getElem? ht)).b0, fun h => by omega, fun _ => ⟨fun j' x hx => ⟨fun h => by omega, fun _ k' p _ h => by omega⟩, fun j' f _ h => by omega⟩⟩
theorem S1.ov {i j k : Nat} {ts : List TV} {t : TV} {x : XV} (h : S1 i j k 0 ts) (hi : ts[i]? = some t) (hj : t.xs[j]? = some x) {a : Option Addr} {c : Nat} : S1 i j (k + 1) 0 (ts.set i (t.atO j x (x.x.ov.set k (100 * (i : Int) + 10 * j + k)) a c)) := by
  intro i' t' ht'
  rcases set_at ht' with ⟨rfl, rfl, _⟩ | ⟨hne, ht'⟩
  · obtain ⟨b, _, h3⟩ := h i' t hi
    obtain ⟨h3, h4⟩ := h3 rfl
    refine ⟨⟨b.1, by simpa using b.2.1, fun j' x' hx' => ?_⟩, fun h => by omega, fun _ => ⟨fun j' x' hx' => ?_, h4⟩⟩
    · rcases set_at hx' with ⟨rfl, rfl, _⟩ | ⟨_, hx'⟩
      · simpa using b.2.2 j' x hj
      · exact b.2.2 j' x' hx'
    · rcases set_at hx' with ⟨rfl, rfl, _⟩ | ⟨hn, hx'⟩
      · refine ⟨fun h => by omega, fun _ k' p hp hk' => ?_⟩
        dsimp only at hp
        rcases set_at hp with ⟨rfl, rfl, _⟩ | ⟨hnk, hp⟩
        · rfl
        · exact (h3 j' x hj).2 rfl k' p hp (by omega)
      · exact ⟨(h3 j' x' hx').1, fun e => absurd e hn⟩
  · exact ⟨(h i' t' ht').1, (h i' t' ht').2.1, fun e => absurd e hne⟩
theorem S1.name {i j k : Nat} {ts : List TV} {t : TV} {x : XV} (h : S1 i j k 0 ts) (hi : ts[i]? = some t) (hj : t.xs[j]? = some x) (hk : x.x.ov.length ≤ k) {n : ByteArray} : S1 i (j + 1) 0 0 (ts.set i { t with xs := t.xs.set j { x with x := { x.x with n := n } } }) := by
  intro i' t' ht'
  rcases set_at ht' with ⟨rfl, rfl, _⟩ | ⟨hne, ht'⟩
  · obtain ⟨b, _, h3⟩ := h i' t hi
    obtain ⟨h3, h4⟩ := h3 rfl
    refine ⟨⟨b.1, by simpa using b.2.1, fun j' x' hx' => ?_⟩, fun h => by omega, fun _ => ⟨fun j' x' hx' => ⟨fun hl => ?_, fun _ k' p _ hk => by omega⟩, h4⟩⟩
    · rcases set_at hx' with ⟨rfl, rfl, _⟩ | ⟨_, hx'⟩
      · exact b.2.2 j' x hj
      · exact b.2.2 j' x' hx'
    · rcases set_at hx' with ⟨rfl, rfl, _⟩ | ⟨hn, hx'⟩
      · exact ⟨fun k' p hp hl => (h3 j' x hj).2 rfl k' p hp (by dsimp only at hl; omega), b.2.2 j' x hj⟩
      · exact (h3 j' x' hx').1 (by omega)
  · exact ⟨(h i' t' ht').1, (h i' t' ht').2.1, fun e => absurd e hne⟩
theorem S1.fld {i j l : Nat} {ts : List TV} {t : TV} (h : S1 i j 0 l ts) (hi : ts[i]? = some t) {n : ByteArray} : S1 i j 0 (l + 1) (ts.set i { t with fs := t.fs.set l ⟨n, 100 + (i : Int)⟩ }) := by
  intro i' t' ht'
  rcases set_at ht' with ⟨rfl, rfl, _⟩ | ⟨hne, ht'⟩
  · obtain ⟨b, _, h3⟩ := h i' t hi
    obtain ⟨h3, h4⟩ := h3 rfl
    refine ⟨⟨by simpa using b.1, b.2.1, b.2.2⟩, fun h => by omega, fun _ => ⟨h3, fun j' f hf hl => ?_⟩⟩
    rcases set_at hf with ⟨rfl, rfl, _⟩ | ⟨hn, hf⟩
    · rfl
    · exact h4 j' f hf (by omega)
  · exact ⟨(h i' t' ht').1, (h i' t' ht').2.1, fun e => absurd e hne⟩
theorem S1.table {i j l : Nat} {ts : List TV} {t : TV} (h : S1 i j 0 l ts) (hi : ts[i]? = some t) (hj : t.xs.length ≤ j) (hl : t.fs.length ≤ l) : S1 (i + 1) 0 0 0 ts := by
  intro i' t' ht'
  obtain ⟨b, h2, h3⟩ := h i' t' ht'
  refine ⟨b, fun hlt => ?_, fun _ => ⟨fun j' x hx => ⟨fun h => by omega, fun _ k' p _ h => by omega⟩, fun j' f _ h => by omega⟩⟩
  by_cases e : i' = i
  · subst e
    obtain rfl : t' = t := Option.some.inj (ht'.symm.trans hi)
    obtain ⟨h3, h4⟩ := h3 rfl
    refine ⟨fun j' x hx => (h3 j' x hx).1 ?_, ⟨fun j' f hf => ⟨fun _ => h4 j' f hf ?_, fun hle => ?_⟩, b.1⟩, b.2.1⟩
    · have := (List.getElem?_eq_some_iff.1 hx).1; omega
    · have := (List.getElem?_eq_some_iff.1 hf).1; omega
    · have := (List.getElem?_eq_some_iff.1 hf).1; omega
  · exact h2 (by omega)
theorem S1.done {i j k l : Nat} {ts : List TV} (h : S1 i j k l ts) (hi : ts.length ≤ i) : ∀ (i' : Nat) (t : TV), ts[i']? = some t → DM 0 0 i' t := fun i' t ht => (h i' t ht).2.1 (by have := (List.getElem?_eq_some_iff.1 ht).1; omega)

/-- Grown: the tables before i; in i the indexes before j, and that one e times. -/
def S2 (i j e : Nat) (ts : List TV) : Prop := ∀ (i' : Nat) (t : TV), ts[i']? = some t → (i' < i → DM 8 8 i' t) ∧ (i < i' → DM 0 0 i' t) ∧ (i' = i → (∀ (j' : Nat) (x : XV), t.xs[j']? = some x → (j' < j → XM i j' 8 x) ∧ (j' = j → XM i j' e x) ∧ (j < j' → XM i j' 0 x)) ∧ FM i 0 t ∧ t.xs.length ≤ 8)
/-- Grown: the tables before i; of i all indexes, and e fields and indexes more. -/
def S3 (i e : Nat) (ts : List TV) : Prop := ∀ (i' : Nat) (t : TV), ts[i']? = some t → (i' < i → DM 8 8 i' t) ∧ (i < i' → DM 0 0 i' t) ∧ (i' = i → DM 8 e i' t)
theorem S2.start {ts : List TV} (h : ∀ (i' : Nat) (t : TV), ts[i']? = some t → DM 0 0 i' t) : S2 0 0 0 ts := by
  intro i' t ht
  refine ⟨fun h => by omega, fun _ => h i' t ht, fun e => ?_⟩
  subst e
  obtain ⟨h1, h2, h3⟩ := h 0 t ht
  exact ⟨fun j' x hx => ⟨fun h => by omega, fun _ => h1 j' x hx, fun _ => h1 j' x hx⟩, h2, h3⟩
theorem S2.ov {i j e : Nat} {ts : List TV} {t : TV} {x : XV} (h : S2 i j e ts) (hi : ts[i]? = some t) (hj : t.xs[j]? = some x) {p : Int} {a : Option Addr} {c : Nat} : S2 i j (e + 1) (ts.set i (t.atO j x (x.x.ov ++ [p]) a c)) := by
  intro i' t' ht'
  rcases set_at ht' with ⟨rfl, rfl, _⟩ | ⟨hne, ht'⟩
  · obtain ⟨_, _, h3⟩ := h i' t hi
    obtain ⟨h3, h4, h5⟩ := h3 rfl
    refine ⟨fun h => by omega, fun h => by omega, fun _ => ⟨fun j' x' hx' => ?_, h4, by simpa using h5⟩⟩
    rcases set_at hx' with ⟨rfl, rfl, _⟩ | ⟨hn, hx'⟩
    · refine ⟨fun h => by omega, fun _ => ⟨fun k p' hp hl => ?_, ?_⟩, fun h => by omega⟩
      · simp only [List.length_append, List.length_cons, List.length_nil] at hl
        dsimp only at hp
        rw [List.getElem?_append_left (by omega)] at hp
        exact ((h3 j' x hj).2.1 rfl).1 k p' hp (by omega)
      · have := ((h3 j' x hj).2.1 rfl).2
        simp only [List.length_append, List.length_cons, List.length_nil]; omega
    · exact ⟨(h3 j' x' hx').1, fun e => absurd e hn, (h3 j' x' hx').2.2⟩
  · exact ⟨(h i' t' ht').1, (h i' t' ht').2.1, fun e => absurd e hne⟩
theorem S2.next {i j : Nat} {ts : List TV} (h : S2 i j 8 ts) : S2 i (j + 1) 0 ts := by
  intro i' t ht
  obtain ⟨h1, h2, h3⟩ := h i' t ht
  refine ⟨h1, h2, fun e => ?_⟩
  obtain ⟨h3, h4⟩ := h3 e
  refine ⟨fun j' x hx => ⟨fun hl => ?_, fun e' => (h3 j' x hx).2.2 (by omega), fun hl => (h3 j' x hx).2.2 (by omega)⟩, h4⟩
  by_cases e' : j' = j
  · exact (h3 j' x hx).2.1 e'
  · exact (h3 j' x hx).1 (by omega)
theorem S2.flds {i j : Nat} {ts : List TV} {t : TV} (h : S2 i j 0 ts) (hi : ts[i]? = some t) (hj : t.xs.length ≤ j) : S3 i 0 ts := by
  intro i' t' ht'
  obtain ⟨h1, h2, h3⟩ := h i' t' ht'
  refine ⟨h1, h2, fun e => ?_⟩
  subst e
  obtain rfl : t' = t := Option.some.inj (ht'.symm.trans hi)
  obtain ⟨h3, h4, h5⟩ := h3 rfl
  exact ⟨fun j' x hx => (h3 j' x hx).1 (by have := (List.getElem?_eq_some_iff.1 hx).1; omega), h4, h5⟩
theorem S3.more {i e : Nat} {ts : List TV} {t : TV} (h : S3 i e ts) (hi : ts[i]? = some t) {n m : ByteArray} {a a2 : Option Addr} {c c2 : Nat} :
    S3 i (e + 1) ((ts.set i { t with fs := t.fs ++ [⟨n, 200 + (i : Int)⟩], fa := a, fc := c }).set i { t with fs := t.fs ++ [⟨n, 200 + (i : Int)⟩], fa := a, fc := c, xs := t.xs ++ [⟨⟨m, [], false, false, false⟩, none, 0⟩], xa := a2, xc := c2 }) := by
  rw [List.set_set]
  intro i' t' ht'
  rcases set_at ht' with ⟨rfl, rfl, _⟩ | ⟨hne, ht'⟩
  · obtain ⟨_, _, h3⟩ := h i' t hi
    obtain ⟨h3, h4, h5⟩ := h3 rfl
    refine ⟨fun h => by omega, fun h => by omega, fun _ => ⟨fun j x hx => ?_, ⟨fun j f hf => ?_, ?_⟩, ?_⟩⟩
    · dsimp only at hx
      rcases Nat.lt_trichotomy j t.xs.length with hlt | he | hgt
      · rw [List.getElem?_append_left hlt] at hx
        exact h3 j x hx
      · subst he
        simp at hx
        subst hx
        exact ⟨fun k p hp => by simp at hp, by simp⟩
      · rw [List.getElem?_eq_none (by simp; omega)] at hx
        cases hx
    · dsimp only at hf ⊢
      simp only [List.length_append, List.length_cons, List.length_nil]
      rcases Nat.lt_trichotomy j t.fs.length with hlt | he | hgt
      · rw [List.getElem?_append_left hlt] at hf
        exact ⟨fun hl => (h4.1 j f hf).1 (by omega), fun hl => (h4.1 j f hf).2 (by omega)⟩
      · subst he
        simp at hf
        subst hf
        exact ⟨fun hl => by omega, fun _ => rfl⟩
      · rw [List.getElem?_eq_none (by simp; omega)] at hf
        cases hf
    · have := h4.2
      simp only [List.length_append, List.length_cons, List.length_nil]; omega
    · simp only [List.length_append, List.length_cons, List.length_nil]; omega
  · exact ⟨(h i' t' ht').1, (h i' t' ht').2.1, fun e => absurd e hne⟩
theorem S3.next {i : Nat} {ts : List TV} (h : S3 i 8 ts) : S2 (i + 1) 0 0 ts := by
  intro i' t ht
  obtain ⟨h1, h2, h3⟩ := h i' t ht
  refine ⟨fun hl => ?_, fun hl => h2 (by omega), fun e => ?_⟩
  · by_cases e : i' = i
    · exact h3 e
    · exact h1 (by omega)
  · subst e
    obtain ⟨q1, q2, q3⟩ := h2 (by omega)
    exact ⟨fun j' x hx => ⟨fun h => by omega, fun _ => q1 j' x hx, fun _ => q1 j' x hx⟩, q2, q3⟩
theorem S2.done {i j e : Nat} {ts : List TV} (h : S2 i j e ts) (hi : ts.length ≤ i) : ∀ (i' : Nat) (t : TV), ts[i']? = some t → DM 8 8 i' t := fun i' t ht => (h i' t ht).1 (by have := (List.getElem?_eq_some_iff.1 ht).1; omega)
/-- Lengths at any time. -/
theorem S2.most {i j e : Nat} {ts : List TV} (h : S2 i j e ts) {t : TV} (hi : ts[i]? = some t) : t.xs.length ≤ 8 ∧ t.fs.length ≤ 16 ∧ ∀ x, t.xs[j]? = some x → x.x.ov.length ≤ 4 + e := by
  obtain ⟨h3, h4, h5⟩ := (h i t hi).2.2 rfl
  exact ⟨h5, h4.2, fun x hx => ((h3 j x hx).2.1 rfl).2⟩
theorem S3.most {i e : Nat} {ts : List TV} (h : S3 i e ts) {t : TV} (hi : ts[i]? = some t) : t.xs.length ≤ 8 + e ∧ t.fs.length ≤ 16 + e := by
  obtain ⟨_, h4, h5⟩ := (h i t hi).2.2 rfl
  exact ⟨h5, h4.2⟩
end Go.Proofs.YtbpmahchinblhaaDoor
