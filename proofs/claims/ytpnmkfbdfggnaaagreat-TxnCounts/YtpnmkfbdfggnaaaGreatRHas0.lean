import Derived.Test.YtpnmkfbdfggnaaaGreatTEnd
import Derived.Test.YtpnmkfbdfggnaaaGreatRInsM
/- Layer 5 (txn): all watches of a tree stand beyond a bound. -/
namespace Go.Proofs.YtpnmkfbdfggnaaaGreat
open Go.RowKit
set_option linter.unusedVariables false

inductive Above (B : Nat) : Tr → Prop
  | mk {a p v ks g} (hg : B < g) (hv : ∀ x : Vl, v = some x → B < x.g) (hk : ∀ c ∈ ks, Above B c) : Above B (.nd a p v ks g)
theorem Above.g {B : Nat} {t : Tr} (h : Above B t) : B < t.g := by cases h; assumption
theorem Above.v {B : Nat} {t : Tr} (h : Above B t) : ∀ x : Vl, t.v = some x → B < x.g := by cases h; assumption
theorem Above.k {B : Nat} {t : Tr} (h : Above B t) : ∀ c ∈ t.ks, Above B c := by cases h; assumption

theorem JoinR.over {B N : Nat} {k : ByteArray} {v : Vl} {n T : Tr} (h : JoinR N k v n T) (hN : B < N) (hv : B < v.g) (hn : Above B n) : Above B T := by
  have hl : ∀ {l gl : Nat} {p : ByteArray}, N ≤ gl → Above B (.nd l p (some v) [] gl) := fun h => .mk (by omega) (fun x e => by cases e; exact hv) (fun c hc => by simp at hc)
  cases h with
  | above ha hg hp _ => exact .mk (by omega) (fun x e => by cases e; exact hv) (fun c hc => by simp at hc; subst hc; exact hn)
  | less ha hg _ hgl _ _ _ _ => exact .mk (by omega) (fun x e => by cases e) (fun c hc => by simp at hc; rcases hc with rfl | rfl; exact hl hgl; exact hn)
  | more ha hg _ hgl _ _ _ _ => exact .mk (by omega) (fun x e => by cases e) (fun c hc => by simp at hc; rcases hc with rfl | rfl; exact hn; exact hl hgl)
theorem EntR.over {B N : Nat} {k : ByteArray} {v : Vl} {t T : Tr} (h : EntR N k v t T) (hN : B < N) (hv : B < v.g) (ht : Above B t) : Above B T := by
  cases h with
  | here ha hg hp => exact .mk (by omega) (fun x e => by cases e; exact hv) ht.k
  | leaf ha hg hl hgl hp hno =>
    refine .mk (by omega) ht.v fun c hc => ?_
    simp only [List.mem_append, List.mem_singleton] at hc
    rcases hc with (hc | rfl) | hc
    · exact ht.k _ (List.mem_of_mem_take hc)
    · exact .mk (by omega) (fun x e => by cases e; exact hv) (fun c hc => by simp at hc)
    · exact ht.k _ (List.mem_of_mem_drop hc)
  | join ha hg hp hq hc hb hn hJ =>
    refine .mk (by omega) ht.v fun d hd => ?_
    simp only [List.mem_append, List.mem_singleton] at hd
    rcases hd with (hd | rfl) | hd
    · exact ht.k _ (List.mem_of_mem_take hd)
    · exact hJ.over hN hv (ht.k _ (hc ▸ List.getElem_mem hq))
    · exact ht.k _ (List.mem_of_mem_drop hd)
theorem InsR.over {B N : Nat} {k : ByteArray} {v : Vl} {t T : Tr} (h : InsR N k v t T) (hN : B < N) (hv : B < v.g) : Above B t → Above B T := by
  induction h with
  | entry hn h => exact fun ht => h.over hN hv ht
  | down hn hp h ha hg ih =>
    intro ht
    refine .mk (by omega) ht.v fun d hd => ?_
    simp only [List.mem_append, List.mem_singleton] at hd
    rcases hd with (hd | rfl) | hd
    · exact ht.k _ (List.mem_of_mem_take hd)
    · exact ih (ht.k _ (nx_mem hn).1)
    · exact ht.k _ (List.mem_of_mem_drop hd)
theorem along_above {B : Nat} {k : List UInt8} {t : Tr} {l : List Tr} (h : Along k t l) : Above B t → ∀ c ∈ l, Above B c := by
  induction h with
  | stop h => intro ht c hc; simp at hc; subst hc; exact ht
  | go h r ih =>
    intro ht c hc
    rcases List.mem_cons.1 hc with rfl | hc
    · exact ht
    · exact ih (ht.k _ (nx_mem h).1) c hc
/-- All that a commit fires stands beyond the bound. -/
theorem waysOf_above {B : Nat} {T : Tr} {ks : List ByteArray} {way : ByteArray → List Tr} (hT : Above B T) (hw : ∀ k ∈ ks, Along k.data.toList T (way k)) : ∀ x ∈ waysOf way ks, B < x := by
  intro x hx
  obtain ⟨k, hk, hx⟩ := List.mem_flatMap.1 hx
  obtain ⟨t, ht, hx⟩ := List.mem_flatMap.1 hx
  have hat := along_above (hw k hk) hT t ht
  unfold wayN at hx
  rcases List.mem_cons.1 hx with rfl | hx
  · exact hat.g
  · cases hv : t.v with
    | none => rw [hv] at hx; simp at hx
    | some v =>
      rw [hv] at hx
      by_cases hs : t.p.size = k.size
      · simp [hs] at hx
        subst hx
        exact hat.v v hv
      · simp [hs] at hx
theorem both_above {B : Nat} {gs : List Nat} (h : ∀ x ∈ gs, B < x) : ∀ x ∈ both gs, B ≤ x := by
  intro x hx
  unfold both at hx
  rcases List.mem_append.1 hx with hx | hx
  · exact Nat.le_of_lt (h x hx)
  · obtain ⟨y, hy, rfl⟩ := List.mem_map.1 hx
    have := h y hy
    omega
end Go.Proofs.YtpnmkfbdfggnaaaGreat

/- Layer 3 (radix): what a tree holds. -/
namespace Go.Proofs.YtpnmkfbdfggnaaaGreat
open Go.RowKit
set_option linter.unusedVariables false

/-- The tree holds x for the key k. -/
inductive Has : Tr → List UInt8 → Value → Prop
  | here {t x} (h : t.v = some x) : Has t t.path x.x
  | kid {t c k x} (hc : c ∈ t.ks) (h : Has c k x) : Has t k x

theorem Has.pre {t : Tr} {k : List UInt8} {x : Value} (h : Has t k x) (ht : WF t) : t.path <+: k := by
  induction h with
  | here h => exact List.prefix_refl _
  | kid hc h ih => exact (ht.ext' _ hc).1.trans (ih (ht.kids' _ hc))
theorem Has.own {t : Tr} {k : List UInt8} {x : Value} (h : Has t k x) (ht : WF t) (hl : k.length ≤ t.p.size) : ∃ v, t.v = some v ∧ v.x = x := by
  cases h with
  | here h => exact ⟨_, h, rfl⟩
  | kid hc h =>
    have h1 := (h.pre (ht.kids' _ hc)).length_le
    rw [path_length] at h1
    have h2 := (ht.ext' _ hc).2
    omega
theorem Has.byte {t c : Tr} {k : List UInt8} {x : Value} (h : Has c k x) (ht : WF t) (hc : c ∈ t.ks) : c.byte t.p.size = k.getD t.p.size 0 :=
  (prefix_getD (h.pre (ht.kids' _ hc)) _ (by rw [path_length]; exact (ht.ext' _ hc).2)).symm
theorem Has.down {t : Tr} {k : List UInt8} {x : Value} (h : Has t k x) (ht : WF t) (hl : t.p.size < k.length) : ∃ c ∈ t.ks, Has c k x ∧ c.byte t.p.size = k.getD t.p.size 0 := by
  cases h with
  | here h => rw [path_length] at hl; omega
  | kid hc h => exact ⟨_, hc, h, h.byte ht hc⟩
theorem WF.inj {t c d : Tr} (ht : WF t) (hc : c ∈ t.ks) (hd : d ∈ t.ks) (h : c.byte t.p.size = d.byte t.p.size) : c = d := by
  obtain ⟨i, hi, rfl⟩ := List.getElem_of_mem hc
  obtain ⟨j, hj, rfl⟩ := List.getElem_of_mem hd
  rcases Nat.lt_trichotomy i j with h1 | h1 | h1
  · have := lt_of_sorted ht.ord' h1 hj
    rw [h] at this; exact absurd this (UInt8.lt_irrefl _)
  · subst h1; rfl
  · have := lt_of_sorted ht.ord' h1 hi
    rw [h] at this; exact absurd this (UInt8.lt_irrefl _)
theorem key_eq {t : Tr} {k : ByteArray} (hp : t.path <+: k.data.toList) (hs : t.p.size = k.size) : t.p = k := by
  have h : t.path = k.data.toList := hp.eq_of_length (by rw [path_length, hs]; simp)
  cases hk : k with
  | mk d =>
    cases ht : t.p with
    | mk e =>
      unfold Tr.path at h
      rw [hk, ht] at h
      simp only [ByteArray.mk.injEq]
      exact Array.toList_inj.1 h

end Go.Proofs.YtpnmkfbdfggnaaaGreat
