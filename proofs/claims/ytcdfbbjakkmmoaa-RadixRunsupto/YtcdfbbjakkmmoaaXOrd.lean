/- The order of texts, in plain lists. -/
import Derived.Test.YtcdfbbjakkmmoaaRTree
namespace Go.Proofs.Ytcdfbbjakkmmoaa
open Go.RowKit
set_option linter.unusedVariables false

def Lt (a b : List UInt8) : Prop := Op.bytesLess a b = true
instance (a b : List UInt8) : Decidable (Lt a b) := inferInstanceAs (Decidable (_ = true))
theorem less_dec (a b : List UInt8) : Op.bytesLess a b = decide (Lt a b) := by
  by_cases h : Lt a b
  · rw [decide_eq_true h]; exact h
  · rw [decide_eq_false h]; exact Bool.eq_false_iff.2 h

theorem x_u8_cases (a b : UInt8) : a < b ∨ a = b ∨ b < a := by
  rcases Nat.lt_trichotomy a.toNat b.toNat with h | h | h
  · exact .inl (UInt8.lt_iff_toNat_lt.2 h)
  · exact .inr (.inl (UInt8.toNat_inj.1 h))
  · exact .inr (.inr (UInt8.lt_iff_toNat_lt.2 h))

theorem lt_cons (c d : UInt8) (a b : List UInt8) : Lt (c :: a) (d :: b) ↔ c < d ∨ (c = d ∧ Lt a b) := by
  unfold Lt; simp [Op.bytesLess]
theorem lt_nil_cons (d : UInt8) (b : List UInt8) : Lt [] (d :: b) := rfl
theorem not_lt_nil (a : List UInt8) : ¬ Lt a [] := by unfold Lt; cases a <;> simp [Op.bytesLess]
theorem lt_irr (a : List UInt8) : ¬ Lt a a := by
  induction a with
  | nil => exact not_lt_nil _
  | cons c a ih => rw [lt_cons]; rintro (h | ⟨-, h⟩); exact UInt8.lt_irrefl _ h; exact ih h
theorem lt_tot (a b : List UInt8) : Lt a b ∨ a = b ∨ Lt b a := by
  induction a generalizing b with
  | nil => cases b with
    | nil => exact .inr (.inl rfl)
    | cons d b => exact .inl (lt_nil_cons _ _)
  | cons c a ih => cases b with
    | nil => exact .inr (.inr (lt_nil_cons _ _))
    | cons d b =>
      rw [lt_cons, lt_cons]
      rcases x_u8_cases c d with h | h | h
      · exact .inl (.inl h)
      · subst h
        rcases ih b with h | h | h
        · exact .inl (.inr ⟨rfl, h⟩)
        · subst h; exact .inr (.inl rfl)
        · exact .inr (.inr (.inr ⟨rfl, h⟩))
      · exact .inr (.inr (.inl h))
theorem lt_tr {a b c : List UInt8} (h : Lt a b) (k : Lt b c) : Lt a c := by
  induction a generalizing b c with
  | nil => cases c with
    | nil => exact absurd k (not_lt_nil _)
    | cons e c => exact lt_nil_cons _ _
  | cons x a ih =>
    cases b with
    | nil => exact absurd h (not_lt_nil _)
    | cons y b =>
      cases c with
      | nil => exact absurd k (not_lt_nil _)
      | cons z c =>
        rw [lt_cons] at h k ⊢
        rcases h with h | ⟨rfl, h⟩ <;> rcases k with k | ⟨rfl, k⟩
        · exact .inl (UInt8.lt_trans h k)
        · exact .inl h
        · exact .inl k
        · exact .inr ⟨rfl, ih h k⟩
theorem lt_asy {a b : List UInt8} (h : Lt a b) : ¬ Lt b a := fun k => lt_irr a (lt_tr h k)
theorem lt_ne {a b : List UInt8} (h : Lt a b) : a ≠ b := fun e => by subst e; exact lt_irr _ h
theorem lt_common (l a b : List UInt8) : Lt (l ++ a) (l ++ b) ↔ Lt a b := by
  induction l with
  | nil => rfl
  | cons c l ih => simp only [List.cons_append, lt_cons, ih]; simp [UInt8.lt_irrefl]
theorem pre_not_lt {p k : List UInt8} (h : p <+: k) : ¬ Lt k p := by
  obtain ⟨z, rfl⟩ := h
  have := lt_common p z []
  rw [List.append_nil] at this
  rw [this]; exact not_lt_nil _
theorem pre_lt {p k : List UInt8} (h : p <+: k) (hl : p.length < k.length) : Lt p k := by
  obtain ⟨z, rfl⟩ := h
  have := lt_common p [] z
  rw [List.append_nil] at this
  rw [this]
  cases z with
  | nil => simp at hl
  | cons c z => exact lt_nil_cons _ _
theorem lt_byte {p k k' : List UInt8} (hp : p <+: k) (hp' : p <+: k') (hl : p.length < k.length) (hl' : p.length < k'.length) (h : k.getD p.length 0 < k'.getD p.length 0) : Lt k k' := by
  obtain ⟨z, rfl⟩ := hp
  obtain ⟨z', rfl⟩ := hp'
  rw [lt_common]
  cases z with
  | nil => simp at hl
  | cons c z =>
    cases z' with
    | nil => simp at hl'
    | cons d z' =>
      rw [lt_cons]
      left
      simpa [List.getD] using h
/-- What begins with a text that is not less than lo is not less than lo. -/
theorem not_lt_more {a lo : List UInt8} (h : ¬ Lt a lo) (z : List UInt8) : ¬ Lt (a ++ z) lo := fun k => by
  cases z with
  | nil => rw [List.append_nil] at k; exact h k
  | cons c z => exact h (lt_tr (pre_lt ⟨c :: z, rfl⟩ (by simp)) k)
theorem lt_more {a lo : List UInt8} (h : Lt a lo) (hp : ¬ a <+: lo) (z : List UInt8) : Lt (a ++ z) lo := by
  induction a generalizing lo with
  | nil => exact absurd List.nil_prefix hp
  | cons c a ih =>
    cases lo with
    | nil => exact absurd h (not_lt_nil _)
    | cons d lo =>
      rw [lt_cons] at h
      rw [List.cons_append, lt_cons]
      rcases h with h | ⟨rfl, h⟩
      · exact .inl h
      · exact .inr ⟨rfl, ih h (fun k => hp (by simpa using k))⟩

/-- Two lists in one strict order that hold the same are one. -/
theorem sorted_uniq {α : Type} {r : α → α → Prop} (hirr : ∀ a, ¬ r a a) (htr : ∀ a b c, r a b → r b c → r a c) : ∀ (l m : List α), l.Pairwise r → m.Pairwise r → (∀ b, b ∈ l ↔ b ∈ m) → l = m
  | [], [], _, _, _ => rfl
  | [], b :: m, _, _, h => by have := (h b).2 (by simp); simp at this
  | a :: l, [], _, _, h => by have := (h a).1 (by simp); simp at this
  | a :: l, b :: m, hl, hm, h => by
    rw [List.pairwise_cons] at hl hm
    have hab : a = b := by
      rcases List.mem_cons.1 ((h a).1 (by simp)) with e | e
      · exact e
      · rcases List.mem_cons.1 ((h b).2 (by simp)) with e' | e'
        · exact e'.symm
        · exact absurd (htr _ _ _ (hl.1 b e') (hm.1 a e)) (hirr _)
    subst hab
    congr 1
    refine sorted_uniq hirr htr l m hl.2 hm.2 fun b => ⟨fun hb => ?_, fun hb => ?_⟩
    · rcases List.mem_cons.1 ((h b).1 (List.mem_cons_of_mem _ hb)) with e | e
      · subst e; exact absurd (hl.1 _ hb) (hirr _)
      · exact e
    · rcases List.mem_cons.1 ((h b).2 (List.mem_cons_of_mem _ hb)) with e | e
      · subst e; exact absurd (hm.1 _ hb) (hirr _)
      · exact e

/-! ### entries -/
abbrev En := ByteArray × Int
def kyl (e : En) : List UInt8 := e.1.data.toList
def EnLt (a b : En) : Prop := Lt (kyl a) (kyl b)
theorem ky_inj {a b : ByteArray} (h : a.data.toList = b.data.toList) : a = b := by
  cases a; cases b; simp at h; simpa using h
def ownE (t : Tr) : List En := match t.v with
  | some v => [(t.p, intOf v.x)]
  | none => []
/-- The entries beneath a node, in order. -/
def ents : Nat → Tr → List En
  | 0, _ => []
  | n + 1, t => ownE t ++ t.ks.flatMap (ents n)
theorem ents_succ {n : Nat} {t : Tr} (h : Dep n t) : ents (n + 1) t = ents n t := by
  induction n generalizing t with
  | zero => cases h
  | succ n ih =>
    show ownE t ++ t.ks.flatMap (ents (n + 1)) = ownE t ++ t.ks.flatMap (ents n)
    congr 1
    have : ∀ l : List Tr, (∀ c ∈ l, Dep n c) → l.flatMap (ents (n + 1)) = l.flatMap (ents n) := by
      intro l
      induction l with
      | nil => intro _; rfl
      | cons c l il => intro hl; rw [List.flatMap_cons, List.flatMap_cons, il (fun d hd => hl d (by simp [hd])), ih (hl c (by simp))]
    exact this t.ks h
theorem ents_more {n m : Nat} {t : Tr} (h : Dep n t) (hm : n ≤ m) : ents m t = ents n t := by
  induction hm with
  | refl => rfl
  | step hm ih => rw [← ih]; exact ents_succ (h.mono hm)
theorem ents_pre {n : Nat} : ∀ {t : Tr} {e : En}, WF t → e ∈ ents n t → t.path <+: kyl e := by
  induction n with
  | zero => intro t e _ he; cases he
  | succ n ih =>
    intro t e hw he
    rcases List.mem_append.1 he with h | h
    · unfold ownE at h
      split at h
      · simp at h; subst h; exact List.prefix_refl _
      · cases h
    · obtain ⟨c, hc, h⟩ := List.mem_flatMap.1 h
      exact (hw.ext' _ hc).1.trans (ih (hw.kids' _ hc) h)
theorem flatMap_sorted {α β : Type} {r : β → β → Prop} {s : α → α → Prop} {f : α → List β} : ∀ (l : List α), l.Pairwise s → (∀ a ∈ l, (f a).Pairwise r) → (∀ a ∈ l, ∀ b ∈ l, s a b → ∀ x ∈ f a, ∀ y ∈ f b, r x y) → (l.flatMap f).Pairwise r
  | [], _, _, _ => by simp
  | a :: l, hl, h1, h2 => by
    rw [List.pairwise_cons] at hl
    rw [List.flatMap_cons, List.pairwise_append]
    refine ⟨h1 a (by simp), flatMap_sorted l hl.2 (fun b hb => h1 b (by simp [hb])) (fun b hb c hc => h2 b (by simp [hb]) c (by simp [hc])), ?_⟩
    intro x hx y hy
    obtain ⟨b, hb, hy⟩ := List.mem_flatMap.1 hy
    exact h2 a (by simp) b (by simp [hb]) (hl.1 b hb) x hx y hy
theorem ents_sorted {n : Nat} : ∀ {t : Tr}, WF t → (ents n t).Pairwise EnLt := by
  induction n with
  | zero => intro t _; exact List.Pairwise.nil
  | succ n ih =>
    intro t hw
    show (ownE t ++ t.ks.flatMap (ents n)).Pairwise EnLt
    rw [List.pairwise_append]
    refine ⟨by unfold ownE; split <;> simp, ?_, ?_⟩
    · refine flatMap_sorted (s := fun a b => a.byte t.p.size < b.byte t.p.size) t.ks (List.pairwise_map.1 hw.ord') (fun a ha => ih (hw.kids' _ ha)) ?_
      intro a ha b hb hab x hx y hy
      have e1 := hw.ext' _ ha
      have e2 := hw.ext' _ hb
      have p1 := ents_pre (hw.kids' _ ha) hx
      have p2 := ents_pre (hw.kids' _ hb) hy
      have l1 := p1.length_le
      have l2 := p2.length_le
      rw [path_length] at l1 l2
      refine lt_byte (p := t.path) (e1.1.trans p1) (e2.1.trans p2) (by rw [path_length]; omega) (by rw [path_length]; omega) ?_
      rw [path_length, prefix_getD p1 _ (by rw [path_length]; omega), prefix_getD p2 _ (by rw [path_length]; omega)]
      exact hab
    · intro x hx y hy
      obtain ⟨c, hc, hy⟩ := List.mem_flatMap.1 hy
      have e1 := hw.ext' _ hc
      have p1 := ents_pre (hw.kids' _ hc) hy
      have l1 := p1.length_le
      rw [path_length] at l1
      unfold ownE at hx
      split at hx
      · simp at hx; subst hx
        exact pre_lt (p := t.path) (e1.1.trans p1) (by rw [path_length]; omega)
      · cases hx
end Go.Proofs.Ytcdfbbjakkmmoaa
