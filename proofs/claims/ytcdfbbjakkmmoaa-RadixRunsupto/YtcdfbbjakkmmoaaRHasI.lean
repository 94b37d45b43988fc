import Derived.Test.YtcdfbbjakkmmoaaRInsM
/- Layer 3 (radix): what a tree holds. -/
namespace Go.Proofs.Ytcdfbbjakkmmoaa
open Go.RowKit
set_option linter.unusedVariables false

/-- The tree holds x for the key k. -/
inductive Has : Tr → List UInt8 → Value → Prop
  | here {t x} (h : t.v = some x) : Has t t.path x.x
  | kid {t c k x} (hc : c ∈ t.ks) (h : Has c k x) : Has t k x

theorem Has.pre {t : Tr} {k : List UInt8} {x : Value} (h : Has t k x) (ht : WF t) : t.path <+: k := by
  induction h with
  | here h => exact List.prefix_refl _
  | kid hc h ih => exact (ht.ext' _ hc).1.trans (ih (ht.kids' _ hc))
theorem Has.own {t : Tr} {k : List UInt8} {x : Value} (h : Has t k x) (ht : WF t) (hl : k.length ≤ t.p.size) : ∃ v, t.v = some v ∧ v.x = x := by
  cases h with
  | here h => exact ⟨_, h, rfl⟩
  | kid hc h =>
    have h1 := (h.pre (ht.kids' _ hc)).length_le
    rw [path_length] at h1
    have h2 := (ht.ext' _ hc).2
    omega
theorem Has.byte {t c : Tr} {k : List UInt8} {x : Value} (h : Has c k x) (ht : WF t) (hc : c ∈ t.ks) : c.byte t.p.size = k.getD t.p.size 0 :=
  (prefix_getD (h.pre (ht.kids' _ hc)) _ (by rw [path_length]; exact (ht.ext' _ hc).2)).symm
theorem Has.down {t : Tr} {k : List UInt8} {x : Value} (h : Has t k x) (ht : WF t) (hl : t.p.size < k.length) : ∃ c ∈ t.ks, Has c k x ∧ c.byte t.p.size = k.getD t.p.size 0 := by
  cases h with
  | here h => rw [path_length] at hl; omega
  | kid hc h => exact ⟨_, hc, h, h.byte ht hc⟩
theorem WF.inj {t c d : Tr} (ht : WF t) (hc : c ∈ t.ks) (hd : d ∈ t.ks) (h : c.byte t.p.size = d.byte t.p.size) : c = d := by
  obtain ⟨i, hi, rfl⟩ := List.getElem_of_mem hc
  obtain ⟨j, hj, rfl⟩ := List.getElem_of_mem hd
  rcases Nat.lt_trichotomy i j with h1 | h1 | h1
  · have := lt_of_sorted ht.ord' h1 hj
    rw [h] at this; exact absurd this (UInt8.lt_irrefl _)
  · subst h1; rfl
  · have := lt_of_sorted ht.ord' h1 hi
    rw [h] at this; exact absurd this (UInt8.lt_irrefl _)
theorem key_eq {t : Tr} {k : ByteArray} (hp : t.path <+: k.data.toList) (hs : t.p.size = k.size) : t.p = k := by
  have h : t.path = k.data.toList := hp.eq_of_length (by rw [path_length, hs]; simp)
  cases hk : k with
  | mk d =>
    cases ht : t.p with
    | mk e =>
      unfold Tr.path at h
      rw [hk, ht] at h
      simp only [ByteArray.mk.injEq]
      exact Array.toList_inj.1 h

end Go.Proofs.Ytcdfbbjakkmmoaa

/- Layer 3 (radix): what a tree holds behind Insert. -/
namespace Go.Proofs.Ytcdfbbjakkmmoaa
open Go.RowKit
set_option linter.unusedVariables false

theorem has_tr {t : Tr} {k : List UInt8} {x : Value} : Has t k x ↔ (∃ y, t.v = some y ∧ k = t.path ∧ x = y.x) ∨ ∃ c ∈ t.ks, Has c k x := by
  constructor
  · intro h
    cases h with
    | here h => exact .inl ⟨_, h, rfl, rfl⟩
    | kid hc h => exact .inr ⟨_, hc, h⟩
  · rintro (⟨y, h, rfl, rfl⟩ | ⟨c, hc, h⟩)
    · exact .here h
    · exact .kid hc h

theorem has_nd {a g : Nat} {p : ByteArray} {v : Option Vl} {ks : List Tr} {k : List UInt8} {x : Value} : Has (.nd a p v ks g) k x ↔ (∃ y, v = some y ∧ k = p.data.toList ∧ x = y.x) ∨ ∃ c ∈ ks, Has c k x := has_tr
theorem key_len (k : ByteArray) : k.data.toList.length = k.size := by simp

/-- Kids beside the one at q hold no key that has its byte. -/
theorem other_kids {t d : Tr} (ht : WF t) {q : Nat} (hq : q < t.ks.length) (hd : d ∈ t.ks.take q ++ t.ks.drop (q + 1)) : d ∈ t.ks ∧ d.byte t.p.size ≠ t.ks[q].byte t.p.size := by
  rcases List.mem_append.1 hd with hd | hd
  · obtain ⟨i, hi, rfl⟩ := List.getElem_of_mem hd
    have h1 : i < q ∧ i < t.ks.length := by simp at hi; omega
    rw [List.getElem_take]
    refine ⟨List.getElem_mem _, fun e => ?_⟩
    have := lt_of_sorted ht.ord' h1.1 hq
    rw [e] at this; exact absurd this (UInt8.lt_irrefl _)
  · obtain ⟨i, hi, rfl⟩ := List.getElem_of_mem hd
    have h1 : q + 1 + i < t.ks.length := by simp at hi; omega
    rw [List.getElem_drop]
    refine ⟨List.getElem_mem _, fun e => ?_⟩
    have := lt_of_sorted ht.ord' (show q < q + 1 + i by omega) h1
    rw [e] at this; exact absurd this (UInt8.lt_irrefl _)
theorem kid_split {t : Tr} {q : Nat} (hq : q < t.ks.length) {d : Tr} : d ∈ t.ks ↔ d ∈ t.ks.take q ++ t.ks.drop (q + 1) ∨ d = t.ks[q] := by
  have e : t.ks = t.ks.take q ++ t.ks[q] :: t.ks.drop (q + 1) := by rw [← List.drop_eq_getElem_cons hq, List.take_append_drop]
  constructor
  · intro h
    rw [e] at h
    simp only [List.mem_append, List.mem_cons] at h ⊢
    rcases h with h | h | h
    · exact .inl (.inl h)
    · exact .inr h
    · exact .inl (.inr h)
  · rintro (h | h)
    · rcases List.mem_append.1 h with h | h
      · exact List.mem_of_mem_take h
      · exact List.mem_of_mem_drop h
    · rw [h]; exact List.getElem_mem hq

/-- Kids in the place of the kid at q. -/
theorem has_repl {t : Tr} (ht : WF t) {q : Nat} (hq : q < t.ks.length) {k : List UInt8} (hl : t.p.size < k.length) (hb : t.ks[q].byte t.p.size = k.getD t.p.size 0) {L : List Tr} {A : List UInt8 → Value → Prop} (hA : ∀ k' x, A k' x → k' = k)
    (hL : ∀ k' x, (∃ d ∈ L, Has d k' x) ↔ A k' x ∨ (k' ≠ k ∧ Has t.ks[q] k' x)) (a g : Nat) (k' : List UInt8) (x : Value) :
    Has (.nd a t.p t.v (t.ks.take q ++ L ++ t.ks.drop (q + 1)) g) k' x ↔ A k' x ∨ (k' ≠ k ∧ Has t k' x) := by
  have hoth : ∀ d ∈ t.ks.take q ++ t.ks.drop (q + 1), Has d k' x → k' ≠ k := by
    intro d hd h e
    obtain ⟨h1, h2⟩ := other_kids ht hq hd
    exact h2 (by rw [hb, h.byte ht h1, e])
  constructor
  · intro h
    rcases has_tr.1 h with ⟨y, h1, h2, h3⟩ | ⟨c, hc, h1⟩
    · refine .inr ⟨fun e => ?_, has_tr.2 (.inl ⟨y, h1, h2, h3⟩)⟩
      have : k'.length = t.p.size := by rw [h2]; exact path_length _
      rw [e] at this
      omega
    · have hc' : c ∈ t.ks.take q ++ t.ks.drop (q + 1) ∨ c ∈ L := by
        simp only [Tr.ks, List.mem_append] at hc ⊢
        rcases hc with (hc | hc) | hc
        · exact .inl (.inl hc)
        · exact .inr hc
        · exact .inl (.inr hc)
      rcases hc' with hc' | hc'
      · exact .inr ⟨hoth c hc' h1, .kid (other_kids ht hq hc').1 h1⟩
      · rcases (hL k' x).1 ⟨c, hc', h1⟩ with h2 | ⟨h2, h3⟩
        · exact .inl h2
        · exact .inr ⟨h2, .kid (List.getElem_mem hq) h3⟩
  · have up : ∀ c ∈ L, Has c k' x → Has (.nd a t.p t.v (t.ks.take q ++ L ++ t.ks.drop (q + 1)) g) k' x := fun c hc h => .kid (by simp only [Tr.ks, List.mem_append]; exact .inl (.inr hc)) h
    rintro (h | ⟨h1, h2⟩)
    · obtain ⟨d, hd, h3⟩ := (hL k' x).2 (.inl h)
      exact up d hd h3
    · rcases has_tr.1 h2 with ⟨y, h3, h4, h5⟩ | ⟨c, hc, h3⟩
      · exact has_tr.2 (.inl ⟨y, h3, h4, h5⟩)
      · rcases (kid_split hq).1 hc with hc | rfl
        · refine .kid ?_ h3
          simp only [Tr.ks, List.mem_append] at hc ⊢
          rcases hc with hc | hc
          · exact .inl (.inl hc)
          · exact .inr hc
        · obtain ⟨d, hd, h4⟩ := (hL k' x).2 (.inr ⟨h1, h3⟩)
          exact up d hd h4

theorem has_leaf {l g : Nat} {k : ByteArray} {v : Vl} {k' : List UInt8} {x : Value} : Has (.nd l k (some v) [] g) k' x ↔ k' = k.data.toList ∧ x = v.x := by
  rw [has_tr]
  constructor
  · rintro (⟨y, h1, h2, h3⟩ | ⟨c, hc, h⟩)
    · have : y = v := by simpa [Tr.v] using h1.symm
      subst this
      exact ⟨h2, h3⟩
    · simp [Tr.ks] at hc
  · rintro ⟨h1, h2⟩
    exact .inl ⟨v, rfl, h1, h2⟩

theorem JoinR.has {N : Nat} {k : ByteArray} {v : Vl} {n T : Tr} (h : JoinR N k v n T) (k' : List UInt8) (x : Value) : Has T k' x ↔ (k' = k.data.toList ∧ x = v.x) ∨ Has n k' x := by
  rw [has_tr]
  cases h with
  | above ha hg hp hl =>
    simp only [Tr.v, Tr.ks, Tr.path, Tr.p, List.mem_singleton, exists_eq_left, Option.some.injEq, exists_eq_left']
  | @less m a g l gl =>
    simp only [Tr.v, Tr.ks, List.mem_cons, List.not_mem_nil, or_false]
    constructor
    · rintro (⟨y, h1, -⟩ | ⟨c, rfl | rfl, h⟩)
      · cases h1
      · exact .inl (has_leaf.1 h)
      · exact .inr h
    · rintro (h | h)
      · exact .inr ⟨_, .inl rfl, has_leaf.2 h⟩
      · exact .inr ⟨_, .inr rfl, h⟩
  | @more m a g l gl =>
    simp only [Tr.v, Tr.ks, List.mem_cons, List.not_mem_nil, or_false]
    constructor
    · rintro (⟨y, h1, -⟩ | ⟨c, rfl | rfl, h⟩)
      · cases h1
      · exact .inr h
      · exact .inl (has_leaf.1 h)
    · rintro (h | h)
      · exact .inr ⟨_, .inr rfl, has_leaf.2 h⟩
      · exact .inr ⟨_, .inl rfl, h⟩

theorem path_eq {t : Tr} {k : ByteArray} (hp : t.path <+: k.data.toList) (hs : t.p.size = k.size) : t.path = k.data.toList := by
  show t.p.data.toList = _
  rw [key_eq hp hs]

theorem kid_longer {t c : Tr} (ht : WF t) (hc : c ∈ t.ks) {k : List UInt8} {x : Value} (h : Has c k x) : t.p.size < k.length := by
  have h1 := (h.pre (ht.kids' _ hc)).length_le
  have h2 := (ht.ext' _ hc).2
  rw [path_length] at h1
  omega

theorem no_byte {t : Tr} (ht : WF t) {b : UInt8} (hno : thereB t.ks t.p.size b = false) : ∀ d ∈ t.ks, d.byte t.p.size ≠ b := by
  intro d hd e
  obtain ⟨i, hi, rfl⟩ := List.getElem_of_mem hd
  have hpos : posn t.ks t.p.size b = i := posn_eq (by omega) (fun j hj hji => by rw [← e]; exact lt_of_sorted ht.ord' hji hi) (fun h => by rw [e]; exact UInt8.le_refl _)
  unfold thereB at hno
  rw [hpos, List.getElem?_eq_getElem hi] at hno
  simp [e] at hno

theorem EntR.has {N : Nat} {k : ByteArray} {v : Vl} {t T : Tr} (h : EntR N k v t T) (ht : WF t) (hp : t.path <+: k.data.toList) (k' : List UInt8) (x : Value) : Has T k' x ↔ (k' = k.data.toList ∧ x = v.x) ∨ (k' ≠ k.data.toList ∧ Has t k' x) := by
  cases h with
  | @here a g ha hg hs =>
    have hpe := path_eq hp hs
    rw [has_tr, has_tr (t := t)]
    simp only [Tr.v, Tr.ks, Tr.path, Tr.p, Option.some.injEq, exists_eq_left']
    have hpe' : t.p.data.toList = k.data.toList := hpe
    constructor
    · rintro (⟨h1, h2⟩ | ⟨c, hc, h⟩)
      · exact .inl ⟨h1.trans hpe', h2⟩
      · refine .inr ⟨fun e => ?_, .inr ⟨c, hc, h⟩⟩
        have h1 := kid_longer ht hc h
        rw [e, ← hpe, path_length] at h1
        omega
    · rintro (⟨h1, h2⟩ | ⟨h1, ⟨y, h2, h3, h4⟩ | h2⟩)
      · exact .inl ⟨h1.trans hpe'.symm, h2⟩
      · exact absurd (h3.trans hpe') h1
      · exact .inr h2
  | @leaf a g l gl ha hg hl hgl hs hno =>
    have hoth : ∀ d ∈ t.ks, Has d k' x → k' ≠ k.data.toList := by
      intro d hd h e
      have h1 := h.byte ht hd
      rw [e, getD_key k _ hs] at h1
      exact no_byte ht hno d hd h1
    rw [has_nd, has_tr (t := t)]
    constructor
    · rintro (⟨y, h1, h2, h3⟩ | ⟨c, hc, h⟩)
      · refine .inr ⟨fun e => ?_, .inl ⟨y, h1, h2, h3⟩⟩
        have := congrArg List.length (h2.symm.trans e)
        rw [key_len, key_len] at this
        omega
      · simp only [List.mem_append, List.mem_singleton] at hc
        rcases hc with (hc | rfl) | hc
        · exact .inr ⟨hoth c (List.mem_of_mem_take hc) h, .inr ⟨c, List.mem_of_mem_take hc, h⟩⟩
        · exact .inl (has_leaf.1 h)
        · exact .inr ⟨hoth c (List.mem_of_mem_drop hc) h, .inr ⟨c, List.mem_of_mem_drop hc, h⟩⟩
    · rintro (h | ⟨h1, h2 | ⟨c, hc, h⟩⟩)
      · exact .inr ⟨_, by simp only [List.mem_append, List.mem_singleton]; exact .inl (.inr rfl), has_leaf.2 h⟩
      · exact .inl h2
      · refine .inr ⟨c, ?_, h⟩
        rw [← List.take_append_drop (posn t.ks t.p.size k[t.p.size]) t.ks] at hc
        simp only [List.mem_append, List.mem_singleton] at hc ⊢
        rcases hc with hc | hc
        · exact .inl (.inl hc)
        · exact .inr hc
  | @join a g c J ha hg hs hq hc hb hn hJ =>
    refine has_repl ht hq (by rw [key_len]; exact hs) (by rw [hc, hb, getD_key k _ hs]) (A := fun k' x => k' = k.data.toList ∧ x = v.x) (fun _ _ h => h.1) (fun k2 x2 => ?_) a g k' x
    simp only [List.mem_singleton, exists_eq_left]
    rw [hJ.has, hc]
    constructor
    · rintro (h | h)
      · exact .inl h
      · refine .inr ⟨fun e => hn ?_, h⟩
        rw [← e]
        exact h.pre (ht.kids' _ (by rw [← hc]; exact List.getElem_mem hq))
    · rintro (h | ⟨-, h⟩)
      · exact .inl h
      · exact .inr h

theorem InsR.has {N : Nat} {k : ByteArray} {v : Vl} {t T : Tr} (h : InsR N k v t T) (ht : WF t) (hp : t.path <+: k.data.toList) : ∀ (k' : List UInt8) (x : Value), Has T k' x ↔ (k' = k.data.toList ∧ x = v.x) ∨ (k' ≠ k.data.toList ∧ Has t k' x) := by
  induction h with
  | entry hn h => exact h.has ht hp
  | @down t c c' a g hn hs h ha hg ih =>
    obtain ⟨hc, hcp⟩ := nx_mem hn
    obtain ⟨hq, hbq⟩ := there_true hs (nx_there ht hs hn)
    have hcb : c.byte t.p.size = k[t.p.size] := by
      unfold Tr.byte
      exact key_pre hcp (by rw [path_length]; exact (ht.ext' c hc).2) hs
    have hce : t.ks[posn t.ks t.p.size k[t.p.size]] = c := ht.inj (List.getElem_mem hq) hc (by rw [hbq, hcb])
    intro k' x
    refine has_repl ht hq (by rw [key_len]; exact hs) (by rw [hbq, getD_key k _ hs]) (A := fun k' x => k' = k.data.toList ∧ x = v.x) (fun _ _ h => h.1) (fun k2 x2 => ?_) a g k' x
    simp only [List.mem_singleton, exists_eq_left]
    rw [hce]
    exact ih (ht.kids' c hc) hcp k2 x2
end Go.Proofs.Ytcdfbbjakkmmoaa
