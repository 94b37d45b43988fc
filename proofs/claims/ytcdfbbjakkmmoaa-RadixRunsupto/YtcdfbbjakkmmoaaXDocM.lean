/- The document's sorted lists, in plain lists. -/
import Derived.Test.YtcdfbbjakkmmoaaXOrd
namespace Go.Proofs.Ytcdfbbjakkmmoaa
open Go.RowKit
set_option linter.unusedVariables false

def kyb (k : ByteArray) : List UInt8 := k.data.toList
theorem kyb_inj {a b : ByteArray} (h : kyb a = kyb b) : a = b := ky_inj h
instance decMem (p : ByteArray) (ks : List ByteArray) : Decidable (p ∈ ks) := decidable_of_iff (kyb p ∈ ks.map kyb) ⟨fun h => by
  obtain ⟨x, hx, e⟩ := List.mem_map.1 h
  rw [← kyb_inj e]; exact hx, fun h => List.mem_map.2 ⟨p, h, rfl⟩⟩
def SortedK (ks : List ByteArray) : Prop := ks.Pairwise fun a b => Lt (kyb a) (kyb b)
/-- The place of k among the keys, or where it would stand. -/
def place (ks : List ByteArray) (k : ByteArray) : Nat := ks.findIdx fun x => !decide (Lt (kyb x) (kyb k))
theorem place_le (ks : List ByteArray) (k : ByteArray) : place ks k ≤ ks.length := List.findIdx_le_length
theorem place_eq {ks : List ByteArray} {k : ByteArray} {i : Nat} (hi : i ≤ ks.length) (h1 : ∀ j (hj : j < ks.length), j < i → Lt (kyb ks[j]) (kyb k)) (h2 : ∀ (h : i < ks.length), ¬ Lt (kyb ks[i]) (kyb k)) : place ks k = i := by
  unfold place
  rcases Nat.lt_or_ge i ks.length with h | h
  · rw [List.findIdx_eq h]
    exact ⟨by simpa using h2 h, fun j hj => by simpa using h1 j (by omega) hj⟩
  · have : i = ks.length := by omega
    subst this
    rw [List.findIdx_eq_length]
    intro x hx
    obtain ⟨j, hj, rfl⟩ := List.getElem_of_mem hx
    simpa using h1 j hj hj
theorem place_lt {ks : List ByteArray} {k : ByteArray} (j : Nat) (hj : j < ks.length) (h : j < place ks k) : Lt (kyb ks[j]) (kyb k) := by
  have := List.not_of_lt_findIdx (p := fun x => !decide (Lt (kyb x) (kyb k))) (xs := ks) h
  simpa using this
theorem place_ge {ks : List ByteArray} {k : ByteArray} (h : place ks k < ks.length) : ¬ Lt (kyb ks[place ks k]) (kyb k) := by
  have := List.findIdx_getElem (p := fun x => !decide (Lt (kyb x) (kyb k))) (xs := ks) (w := h)
  rw [Bool.not_eq_true', decide_eq_false_iff_not] at this
  exact this
theorem sortedK_at {ks : List ByteArray} (h : SortedK ks) {i j : Nat} (hij : i < j) (hj : j < ks.length) : Lt (kyb (ks[i]'(by omega))) (kyb ks[j]) := List.pairwise_iff_getElem.1 h i j (by omega) hj hij
theorem place_ge' {ks : List ByteArray} (hs : SortedK ks) {k : ByteArray} (j : Nat) (hj : j < ks.length) (h : place ks k ≤ j) : ¬ Lt (kyb ks[j]) (kyb k) := by
  have h0 := place_ge (k := k) (show place ks k < ks.length by omega)
  rcases Nat.lt_or_ge (place ks k) j with h1 | h1
  · exact fun h2 => h0 (lt_tr (sortedK_at hs h1 hj) h2)
  · have : j = place ks k := by omega
    subst this; exact h0
theorem place_mem {ks : List ByteArray} (hs : SortedK ks) {k : ByteArray} : (∃ h : place ks k < ks.length, ks[place ks k] = k) ↔ k ∈ ks := by
  constructor
  · rintro ⟨h, e⟩; rw [← e]; exact List.getElem_mem h
  · intro h
    obtain ⟨j, hj, rfl⟩ := List.getElem_of_mem h
    have : place ks ks[j] = j := place_eq (by omega) (fun i hi hij => sortedK_at hs hij hj) (fun _ => lt_irr _)
    exact ⟨by rw [this]; exact hj, by simp [this]⟩
theorem place_self {ks : List ByteArray} (hs : SortedK ks) {j : Nat} (hj : j < ks.length) : place ks ks[j] = j :=
  place_eq (by omega) (fun i hi hij => sortedK_at hs hij hj) (fun _ => lt_irr _)
/-- One that is not there: all behind its place are greater. -/
theorem place_gt {ks : List ByteArray} (hs : SortedK ks) {k : ByteArray} (hk : k ∉ ks) (j : Nat) (hj : j < ks.length) (h : place ks k ≤ j) : Lt (kyb k) (kyb ks[j]) := by
  rcases lt_tot (kyb k) (kyb ks[j]) with h1 | h1 | h1
  · exact h1
  · exact absurd (List.getElem_mem hj) (by rw [← kyb_inj h1]; exact hk)
  · exact absurd h1 (place_ge' hs j hj h)

/-- The sorted texts with p among them. -/
def withK (ks : List ByteArray) (p : ByteArray) : List ByteArray := if p ∈ ks then ks else ks.take (place ks p) ++ p :: ks.drop (place ks p)
theorem withK_len (ks : List ByteArray) (p : ByteArray) : (withK ks p).length ≤ ks.length + 1 := by
  have := place_le ks p
  unfold withK; split
  · omega
  · simp; omega
theorem mem_split {α : Type} {l : List α} {n : Nat} {p x : α} : x ∈ l.take n ++ p :: l.drop n ↔ x = p ∨ x ∈ l := by
  conv => rhs; rw [← List.take_append_drop n l]
  simp only [List.mem_append, List.mem_cons]
  constructor
  · rintro (h | h | h)
    · exact .inr (.inl h)
    · exact .inl h
    · exact .inr (.inr h)
  · rintro (h | h | h)
    · exact .inr (.inl h)
    · exact .inl h
    · exact .inr (.inr h)
theorem mem_withK {ks : List ByteArray} {p x : ByteArray} : x ∈ withK ks p ↔ x = p ∨ x ∈ ks := by
  unfold withK
  split
  · rename_i h
    exact ⟨.inr, fun h1 => h1.elim (fun e => e ▸ h) id⟩
  · exact mem_split
theorem mem_take_lt {α : Type} {l : List α} {n : Nat} {x : α} (h : x ∈ l.take n) : ∃ j, ∃ hj : j < l.length, j < n ∧ l[j] = x := by
  obtain ⟨j, hj, e⟩ := List.getElem_of_mem h
  rw [List.length_take] at hj
  rw [List.getElem_take] at e
  exact ⟨j, by omega, by omega, e⟩
theorem mem_drop_ge {α : Type} {l : List α} {n : Nat} {x : α} (h : x ∈ l.drop n) : ∃ j, ∃ hj : j < l.length, n ≤ j ∧ l[j] = x := by
  obtain ⟨j, hj, e⟩ := List.getElem_of_mem h
  rw [List.length_drop] at hj
  rw [List.getElem_drop] at e
  exact ⟨n + j, by omega, by omega, e⟩
theorem withK_sorted {ks : List ByteArray} (hs : SortedK ks) (p : ByteArray) : SortedK (withK ks p) := by
  unfold withK
  split
  · exact hs
  · rename_i hp
    unfold SortedK
    rw [List.pairwise_append, List.pairwise_cons]
    refine ⟨hs.sublist (List.take_sublist _ _), ⟨?_, hs.sublist (List.drop_sublist _ _)⟩, ?_⟩
    · intro x hx
      obtain ⟨j, hj, h1, rfl⟩ := mem_drop_ge hx
      exact place_gt hs hp j hj h1
    · intro x hx y hy
      obtain ⟨j, hj, h1, rfl⟩ := mem_take_lt hx
      have h2 := place_lt j hj h1
      rcases List.mem_cons.1 hy with rfl | hy
      · exact h2
      · obtain ⟨i, hi, h3, rfl⟩ := mem_drop_ge hy
        exact lt_tr h2 (place_gt hs hp i hi h3)

/-- The longest common beginning. -/
def cmn : List UInt8 → List UInt8 → Nat
  | a :: x, b :: y => if a = b then cmn x y + 1 else 0
  | _, _ => 0
theorem cmn_le (a b : List UInt8) : cmn a b ≤ a.length ∧ cmn a b ≤ b.length := by
  induction a generalizing b with
  | nil => simp [cmn]
  | cons c a ih => cases b with
    | nil => simp [cmn]
    | cons d b => unfold cmn; split; have := ih b; simp; omega; simp
theorem cmn_eq : ∀ {a b : List UInt8} {n : Nat}, n ≤ a.length → n ≤ b.length → a.take n = b.take n → (∀ (h1 : n < a.length) (h2 : n < b.length), a[n] ≠ b[n]) → cmn a b = n := by
  intro a
  induction a with
  | nil => intro b n h1 _ _ _; simp at h1; subst h1; simp [cmn]
  | cons c a ih =>
    intro b n h1 h2 h3 h4
    cases b with
    | nil => simp at h2; subst h2; simp [cmn]
    | cons d b =>
      cases n with
      | zero => have := h4 (by simp) (by simp); simp at this; simp [cmn, this]
      | succ n =>
        simp only [List.take_succ_cons, List.cons.injEq] at h3
        obtain ⟨rfl, h3⟩ := h3
        simp only [cmn, if_true]
        congr 1
        refine ih (by simpa using h1) (by simpa using h2) h3 fun g1 g2 => ?_
        have := h4 (by simpa using g1) (by simpa using g2)
        simpa using this
def commonB (a b : ByteArray) : ByteArray := ⟨((kyb a).take (cmn (kyb a) (kyb b))).toArray⟩
theorem commonB_kyb (a b : ByteArray) : kyb (commonB a b) = (kyb a).take (cmn (kyb a) (kyb b)) := by simp [kyb, commonB]
theorem kyb_len (a : ByteArray) : (kyb a).length = a.size := by simp [kyb]
theorem commonB_size (a b : ByteArray) : (commonB a b).size ≤ a.size := by
  have h1 := kyb_len (commonB a b)
  rw [commonB_kyb, List.length_take] at h1
  have := kyb_len a
  omega

/-- The paths of the first i keys. -/
def pathsN (ks : List ByteArray) : Nat → List ByteArray
  | 0 => [⟨#[]⟩]
  | i + 1 => withK (if i = 0 then pathsN ks i else withK (pathsN ks i) (commonB (ks.getD (i - 1) ⟨#[]⟩) (ks.getD i ⟨#[]⟩))) (ks.getD i ⟨#[]⟩)
theorem pathsN_sorted (ks : List ByteArray) (i : Nat) : SortedK (pathsN ks i) := by
  induction i with
  | zero => unfold pathsN SortedK; simp
  | succ i ih => unfold pathsN; split; exact withK_sorted ih _; exact withK_sorted (withK_sorted ih _) _
theorem pathsN_len (ks : List ByteArray) (i : Nat) : (pathsN ks i).length ≤ 2 * i + 1 := by
  induction i with
  | zero => simp [pathsN]
  | succ i ih =>
    unfold pathsN
    split
    · have := withK_len (pathsN ks i) (ks.getD i ⟨#[]⟩); omega
    · have h1 := withK_len (pathsN ks i) (commonB (ks.getD (i - 1) ⟨#[]⟩) (ks.getD i ⟨#[]⟩))
      have h2 := withK_len (withK (pathsN ks i) (commonB (ks.getD (i - 1) ⟨#[]⟩) (ks.getD i ⟨#[]⟩))) (ks.getD i ⟨#[]⟩)
      omega
theorem pathsN_size {ks : List ByteArray} {B : Nat} (h : ∀ k ∈ ks, k.size ≤ B) (i : Nat) : ∀ p ∈ pathsN ks i, p.size ≤ B := by
  have hg : ∀ j, (ks.getD j ⟨#[]⟩).size ≤ B := fun j => by
    rcases Nat.lt_or_ge j ks.length with hj | hj
    · rw [List.getD_eq_getElem?_getD, List.getElem?_eq_getElem hj]; exact h _ (List.getElem_mem hj)
    · rw [List.getD_eq_getElem?_getD, List.getElem?_eq_none hj]; exact Nat.zero_le _
  induction i with
  | zero => intro p hp; simp [pathsN] at hp; subst hp; exact Nat.zero_le _
  | succ i ih =>
    intro p hp
    unfold pathsN at hp
    rw [mem_withK] at hp
    rcases hp with rfl | hp
    · exact hg i
    · split at hp
      · exact ih p hp
      · rw [mem_withK] at hp
        rcases hp with rfl | hp
        · exact Nat.le_trans (commonB_size _ _) (hg _)
        · exact ih p hp

/-! ### entries -/
def keysOf (es : List En) : List ByteArray := es.map (·.1)
def valsOf (es : List En) : List Int := es.map (·.2)
def SortedE (es : List En) : Prop := es.Pairwise EnLt
theorem SortedE.keys {es : List En} (h : SortedE es) : SortedK (keysOf es) := List.pairwise_map.2 h
def insE (es : List En) (k : ByteArray) (v : Int) : List En := es.take (place (keysOf es) k) ++ (k, v) :: es.drop (if k ∈ keysOf es then place (keysOf es) k + 1 else place (keysOf es) k)
theorem keysOf_len (es : List En) : (keysOf es).length = es.length := by simp [keysOf]
theorem insE_len (es : List En) (k : ByteArray) (v : Int) : (insE es k v).length ≤ es.length + 1 := by
  have := place_le (keysOf es) k
  rw [keysOf_len] at this
  unfold insE; split <;> simp <;> omega
theorem take_lt_key {es : List En} (h : SortedE es) {k : ByteArray} {x : En} (hx : x ∈ es.take (place (keysOf es) k)) : Lt (kyl x) (kyb k) := by
  obtain ⟨j, hj, h1, rfl⟩ := mem_take_lt hx
  have := place_lt (ks := keysOf es) (k := k) j (by rw [keysOf_len]; exact hj) h1
  simpa [keysOf, kyl, kyb] using this
theorem drop_gt_key {es : List En} (h : SortedE es) {k : ByteArray} {x : En} (hx : x ∈ es.drop (if k ∈ keysOf es then place (keysOf es) k + 1 else place (keysOf es) k)) : Lt (kyb k) (kyl x) := by
  obtain ⟨j, hj, h1, rfl⟩ := mem_drop_ge hx
  have hj' : j < (keysOf es).length := by rw [keysOf_len]; exact hj
  have hkj : kyl es[j] = kyb (keysOf es)[j] := by simp [keysOf, kyl, kyb]
  rw [hkj]
  split at h1
  · rename_i hk
    obtain ⟨hp, e⟩ := (place_mem h.keys).2 hk
    have h2 := sortedK_at h.keys (show place (keysOf es) k < j by omega) hj'
    rw [e] at h2; exact h2
  · rename_i hk
    exact place_gt h.keys hk j hj' h1
theorem insE_sorted {es : List En} (h : SortedE es) (k : ByteArray) (v : Int) : SortedE (insE es k v) := by
  unfold insE SortedE
  rw [List.pairwise_append, List.pairwise_cons]
  refine ⟨h.sublist (List.take_sublist _ _), ⟨fun x hx => drop_gt_key h hx, h.sublist (List.drop_sublist _ _)⟩, ?_⟩
  intro x hx y hy
  have h1 := take_lt_key h hx
  rcases List.mem_cons.1 hy with rfl | hy
  · exact h1
  · exact lt_tr h1 (drop_gt_key h hy)
theorem mem_insE {es : List En} (h : SortedE es) {k : ByteArray} {v : Int} {x : En} : x ∈ insE es k v ↔ x = (k, v) ∨ (x.1 ≠ k ∧ x ∈ es) := by
  constructor
  · intro hx
    unfold insE at hx
    rcases List.mem_append.1 hx with h1 | h1
    · exact .inr ⟨fun e => lt_irr _ (by have := take_lt_key h h1; rw [kyl, e] at this; exact this), List.mem_of_mem_take h1⟩
    · rcases List.mem_cons.1 h1 with h1 | h1
      · exact .inl h1
      · exact .inr ⟨fun e => lt_irr _ (by have := drop_gt_key h h1; rw [kyl, e] at this; exact this), List.mem_of_mem_drop h1⟩
  · unfold insE
    rintro (rfl | ⟨hne, hx⟩)
    · simp
    · obtain ⟨j, hj, rfl⟩ := List.getElem_of_mem hx
      have hj' : j < (keysOf es).length := by rw [keysOf_len]; exact hj
      rw [List.mem_append, List.mem_cons]
      rcases Nat.lt_or_ge j (place (keysOf es) k) with h1 | h1
      · exact .inl (List.mem_take_iff_getElem.2 ⟨j, by omega, rfl⟩)
      · right; right
        have h2 : (if k ∈ keysOf es then place (keysOf es) k + 1 else place (keysOf es) k) ≤ j := by
          split
          · rename_i hk
            obtain ⟨hp, e⟩ := (place_mem h.keys).2 hk
            rcases Nat.lt_or_ge (place (keysOf es) k) j with h3 | h3
            · omega
            · have : j = place (keysOf es) k := by omega
              subst this
              exact absurd (by simpa [keysOf] using e) hne
          · exact h1
        revert h2
        generalize (if k ∈ keysOf es then place (keysOf es) k + 1 else place (keysOf es) k) = q
        intro h2
        exact List.mem_drop_iff_getElem.2 ⟨j - q, by omega, by congr 1; omega⟩
def delE (es : List En) (k : ByteArray) : List En := es.take (place (keysOf es) k) ++ es.drop (if k ∈ keysOf es then place (keysOf es) k + 1 else place (keysOf es) k)
theorem delE_sorted {es : List En} (h : SortedE es) (k : ByteArray) : SortedE (delE es k) := by
  unfold delE SortedE
  rw [List.pairwise_append]
  exact ⟨h.sublist (List.take_sublist _ _), h.sublist (List.drop_sublist _ _), fun x hx y hy => lt_tr (take_lt_key h hx) (drop_gt_key h hy)⟩
theorem mem_delE {es : List En} (h : SortedE es) {k : ByteArray} {x : En} : x ∈ delE es k ↔ x.1 ≠ k ∧ x ∈ es := by
  have := mem_insE h (k := k) (v := x.2 + 1) (x := x)
  unfold insE at this
  unfold delE
  rw [List.mem_append, List.mem_cons] at this
  rw [List.mem_append]
  have hne : x ≠ (k, x.2 + 1) := fun e => by have := congrArg Prod.snd e; simp at this; omega
  simp only [hne, false_or] at this
  exact this
end Go.Proofs.Ytcdfbbjakkmmoaa
