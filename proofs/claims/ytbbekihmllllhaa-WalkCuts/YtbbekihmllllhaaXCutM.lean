/- Layer 4 (walk): how ranges and beginnings cut a list of entries. -/
import Derived.Test.YtbbekihmllllhaaXBetween
namespace Go.Proofs.Ytbbekihmllllhaa
open Go.RowKit
set_option linter.unusedVariables false

/-- What lies under lo and is lo, or goes on with a byte less than b. -/
def partE (lo : ByteArray) (b : Nat) (e : En) : Bool := beg lo e && (decide ((kyl e).length ≤ lo.size) || decide (((kyl e).getD lo.size 0).toNat < b))

theorem beg_iff {lo : ByteArray} {e : En} : beg lo e = true ↔ kyb lo <+: kyl e := List.isPrefixOf_iff_prefix

theorem part_zero {es : List En} (hs : SortedE es) (lo : ByteArray) : (es.filter (partE lo 0)).length = if lo ∈ keysOf es then 1 else 0 := by
  have hp : ∀ e, partE lo 0 e = decide (e.1 = lo) := fun e => by
    by_cases h : e.1 = lo
    · subst h
      have h1 : beg e.1 e = true := beg_iff.2 (List.prefix_refl _)
      simp [partE, h1, kyl]
    · rw [decide_eq_false h]
      unfold partE
      by_cases hb : beg lo e = true
      · obtain ⟨z, hz⟩ := beg_iff.1 hb
        have hne : lo.size < (kyl e).length := by
          rw [← hz, List.length_append, kyb_len]
          cases z with
          | nil => rw [List.append_nil] at hz; exact absurd (ky_inj hz.symm) h
          | cons c z => simp
        simp [hne]
      · rw [Bool.eq_false_iff.2 hb]; rfl
  rw [List.filter_congr (fun e _ => hp e)]
  induction es with
  | nil => simp [keysOf]
  | cons a es ih =>
    rw [SortedE, List.pairwise_cons] at hs
    have hi := ih hs.2
    by_cases h : a.1 = lo
    · have hno : lo ∉ keysOf es := fun hm => by
        obtain ⟨e, he, h2⟩ := List.mem_map.1 hm
        have := hs.1 e he
        rw [EnLt, kyl, kyl, h, h2] at this
        exact lt_irr _ this
      rw [if_neg hno] at hi
      have hm : lo ∈ keysOf (a :: es) := by simp [keysOf, h]
      rw [if_pos hm, List.filter_cons_of_pos (by simp [h]), List.length_cons, hi]
    · have hm : lo ∈ keysOf (a :: es) ↔ lo ∈ keysOf es := by simp [keysOf, Ne.symm h]
      rw [List.filter_cons_of_neg (by simp [h]), hi]
      simp only [hm]

theorem part_one {lo p : ByteArray} {b : Nat} (hb : b < 256) (hp : kyb p = kyb lo ++ [UInt8.ofNat b]) (e : En) : (partE lo (b + 1) e = true ↔ partE lo b e = true ∨ beg p e = true) ∧ ¬ (partE lo b e = true ∧ beg p e = true) := by
  have hbe : beg p e = true ↔ kyb lo ++ [UInt8.ofNat b] <+: kyl e := by rw [beg_iff, hp]
  have key : beg p e = true ↔ beg lo e = true ∧ lo.size < (kyl e).length ∧ ((kyl e).getD lo.size 0).toNat = b := by
    rw [hbe, beg_iff]
    constructor
    · rintro ⟨z, hz⟩
      rw [List.append_assoc] at hz
      refine ⟨⟨_, hz⟩, ?_, ?_⟩
      · rw [← hz, List.length_append, kyb_len]; simp
      · rw [← hz, List.getD_eq_getElem?_getD, List.getElem?_append_right (by rw [kyb_len]; exact Nat.le_refl _), kyb_len]
        simp; omega
    · rintro ⟨⟨z, hz⟩, h1, h2⟩
      cases z with
      | nil => rw [List.append_nil] at hz; rw [← hz, kyb_len] at h1; omega
      | cons c z =>
        rw [← hz, List.getD_eq_getElem?_getD, List.getElem?_append_right (by rw [kyb_len]; exact Nat.le_refl _), kyb_len] at h2
        simp at h2
        have : UInt8.ofNat b = c := by rw [← h2]; simp
        rw [this, ← hz]
        exact ⟨z, by simp⟩
  rw [key]
  unfold partE
  simp only [Bool.and_eq_true, Bool.or_eq_true, decide_eq_true_eq]
  constructor
  · constructor
    · rintro ⟨h1, h2⟩
      by_cases h3 : (kyl e).length ≤ lo.size
      · exact .inl ⟨h1, .inl h3⟩
      · rcases h2 with h2 | h2
        · exact absurd h2 h3
        · by_cases h4 : ((kyl e).getD lo.size 0).toNat = b
          · exact .inr ⟨h1, by omega, h4⟩
          · exact .inl ⟨h1, .inr (by omega)⟩
    · rintro (⟨h1, h2⟩ | ⟨h1, h2, h3⟩)
      · exact ⟨h1, h2.imp id (fun h => by omega)⟩
      · exact ⟨h1, .inr (by omega)⟩
  · rintro ⟨⟨_, h1⟩, _, h2, h3⟩
    omega

theorem part_succ {lo p : ByteArray} {b : Nat} (hb : b < 256) (hp : kyb p = kyb lo ++ [UInt8.ofNat b]) (es : List En) : (es.filter (partE lo (b + 1))).length = (es.filter (partE lo b)).length + (es.filter (beg p)).length := by
  induction es with
  | nil => rfl
  | cons e es ih =>
    obtain ⟨h1, h2⟩ := part_one hb hp e
    by_cases a : partE lo b e = true
    · have c : ¬ beg p e = true := fun c => h2 ⟨a, c⟩
      rw [List.filter_cons_of_pos (h1.2 (.inl a)), List.filter_cons_of_pos a, List.filter_cons_of_neg c]
      simp only [List.length_cons]; omega
    · by_cases c : beg p e = true
      · rw [List.filter_cons_of_pos (h1.2 (.inr c)), List.filter_cons_of_neg a, List.filter_cons_of_pos c]
        simp only [List.length_cons]; omega
      · rw [List.filter_cons_of_neg (fun h => (h1.1 h).elim a c), List.filter_cons_of_neg a, List.filter_cons_of_neg c]
        exact ih

theorem part_all (lo : ByteArray) (es : List En) : es.filter (partE lo 256) = es.filter (beg lo) := by
  refine List.filter_congr fun e _ => ?_
  unfold partE
  have := UInt8.toNat_lt ((kyl e).getD lo.size 0)
  rw [decide_eq_true (show ((kyl e).getD lo.size 0).toNat < 256 from this)]
  simp
theorem part_le (lo : ByteArray) (b : Nat) (es : List En) : (es.filter (partE lo b)).length ≤ es.length := List.length_filter_le _ _

theorem cut_two {es : List En} (hs : SortedE es) {lo hi : ByteArray} (h : ¬ Lt (kyb hi) (kyb lo)) : es.filter (notLt (kyb lo)) = es.filter (bwP lo hi) ++ es.filter (notLt (kyb hi)) := by
  have up : ∀ e : En, notLt (kyb hi) e = true → notLt (kyb lo) e = true := fun e he => by
    unfold notLt at he ⊢
    simp only [Bool.not_eq_true', decide_eq_false_iff_not] at he ⊢
    intro k
    rcases lt_tot (kyb lo) (kyb hi) with h3 | h3 | h3
    · exact he (lt_tr k h3)
    · rw [h3] at k; exact he k
    · exact h h3
  have bw : ∀ e : En, notLt (kyb hi) e = true → bwP lo hi e = false := fun e he => by
    unfold bwP bef
    unfold notLt at he
    simp only [Bool.not_eq_true', decide_eq_false_iff_not] at he
    simp [he]
  have bw' : ∀ e : En, notLt (kyb hi) e = false → bwP lo hi e = notLt (kyb lo) e := fun e he => by
    unfold bwP bef
    unfold notLt at he
    simp only [Bool.not_eq_false', decide_eq_true_eq] at he
    simp [he]
  induction es with
  | nil => rfl
  | cons a es ih =>
    rw [SortedE, List.pairwise_cons] at hs
    have hi' := ih hs.2
    by_cases ha : notLt (kyb hi) a = true
    · -- from here on nothing lies below hi
      have hall : ∀ e ∈ es, notLt (kyb hi) e = true := fun e he => by
        have h1 := hs.1 e he
        unfold notLt at ha ⊢
        simp only [Bool.not_eq_true', decide_eq_false_iff_not] at ha ⊢
        exact fun k => ha (lt_tr h1 k)
      have n1 : es.filter (bwP lo hi) = [] := filter_none' (fun e he => bw e (hall e he))
      rw [List.filter_cons_of_pos (up a ha), List.filter_cons_of_neg (by rw [bw a ha]; simp), List.filter_cons_of_pos ha, hi', n1]
      rfl
    · have ha' : notLt (kyb hi) a = false := Bool.eq_false_iff.2 ha
      by_cases hl : notLt (kyb lo) a = true
      · rw [List.filter_cons_of_pos hl, List.filter_cons_of_pos (by rw [bw' a ha']; exact hl), List.filter_cons_of_neg ha, hi']; rfl
      · rw [List.filter_cons_of_neg hl, List.filter_cons_of_neg (by rw [bw' a ha']; exact hl), List.filter_cons_of_neg ha, hi']
end Go.Proofs.Ytbbekihmllllhaa
