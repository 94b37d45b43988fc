import Derived.Test.YtpnmkfbdfggnaaaGreatRHasI
import Derived.Test.YtpnmkfbdfggnaaaGreatRInsM
/- Layer 3 (radix): what a tree holds for a key is what lies at the end of the key's way. -/
namespace Go.Proofs.YtpnmkfbdfggnaaaGreat
open Go.RowKit
set_option linter.unusedVariables false

theorem has_along {k : ByteArray} {t : Tr} {l : List Tr} (h : Along k.data.toList t l) : ∀ {init : List Tr} {c : Tr}, l = init ++ [c] → WF t → t.path <+: k.data.toList → ∀ x, Has t k.data.toList x ↔ ∃ y, valAt c k = some y ∧ y.x = x := by
  induction h with
  | @stop t h =>
    intro init c hl ht hp x
    have hc : c = t := by
      cases init with
      | nil => simpa using hl.symm
      | cons a r => simp at hl
    subst hc
    have hle := hp.length_le
    rw [path_length, key_len] at hle
    have hno : ∀ d ∈ c.ks, ∀ x, ¬ Has d k.data.toList x := by
      intro d hd x hx
      have h1 := List.find?_eq_none.1 h d hd
      exact h1 (by simpa using hx.pre (ht.kids' _ hd))
    rw [has_tr]
    unfold valAt
    constructor
    · rintro (⟨y, h1, h2, h3⟩ | ⟨d, hd, h1⟩)
      · refine ⟨y, ?_, h3.symm⟩
        have := congrArg List.length h2
        rw [path_length, key_len] at this
        rw [if_neg (by omega)]
        exact h1
      · exact absurd h1 (hno d hd x)
    · rintro ⟨y, h1, h2⟩
      split at h1
      · cases h1
      · exact .inl ⟨y, h1, (path_eq hp (by omega)).symm, h2.symm⟩
  | @go t d l h r ih =>
    intro init c hl ht hp x
    obtain ⟨hd, hdp⟩ := nx_mem h
    have hinit : ∃ i', l = i' ++ [c] := by
      cases init with
      | nil => simp at hl; exact absurd hl.2 r.ne
      | cons a r => simp at hl; exact ⟨r, hl.2⟩
    obtain ⟨i', hi'⟩ := hinit
    rw [← ih hi' (ht.kids' d hd) hdp x]
    have hx := ht.ext' d hd
    constructor
    · intro h1
      obtain ⟨e, he, h2, h3⟩ := h1.down ht (by have := hdp.length_le; rw [path_length] at this; omega)
      have : e = d := ht.inj he hd (by
        rw [h3]
        exact prefix_getD hdp _ (by rw [path_length]; exact hx.2))
      exact this ▸ h2
    · exact fun h1 => .kid hd h1

/-! ### how many -/

end Go.Proofs.YtpnmkfbdfggnaaaGreat

/- Layer 3 (radix): New. -/
namespace Go.Proofs.YtpnmkfbdfggnaaaGreat
open Go.RowKit
set_option linter.unusedVariables false

/-- New: a tree of one node. -/
theorem newTree_calls (w : World) : Calls Tryz.prog 36 #[] w fun e w' => ∃ tb a g, e = .returned (.pointer (some ⟨tb, 0, none⟩)) ∧ Below w.heap.size w w' ∧ TreeAt w' tb (.nd a ⟨#[]⟩ none [] g) 0 ∧ w.heap.size ≤ tb ∧ w.heap.size ≤ a ∧ w.heap.size ≤ g := by
  go_enter Tryz.func36, Tryz.ntmps36
  go_wp2_with fail
  refine (newNode_calls _ _ _ _ _ w).mono ?_
  rintro e w1 ⟨rfl, hb1, hs1, hn1, hw1⟩
  have H1 : Hid (Below w.heap.size w w1 ∧ w1.heap.size = w.heap.size + 3 ∧ TAt nR w1 (.nd (w.heap.size + 2) ⟨#[]⟩ none [] (w.heap.size + 1))) :=
    ⟨hb1, hs1, TAt.laid (x := ⟨none, 0, []⟩) hn1 ⟨fun i hi => by simp at hi, Nat.le_refl _, fun _ => rfl⟩ (fun y hy => by cases hy) hw1 (fun t ht => by simp at ht) (by decide)⟩
  clear hb1 hs1 hn1 hw1
  go_wp2
  go_ret
  obtain ⟨hb1, hs1, hT⟩ := H1.out
  have h2 : Below w1.heap.size w1 (w1.alloc (.cells #[.pointer (some ⟨w.heap.size + 2, 0, none⟩), .int .i64 0] 127)) := (Below.refl _ _).alloc (Nat.le_refl _) _
  exact ⟨w1.heap.size, w.heap.size + 2, w.heap.size + 1, rfl, hb1.trans (h2.mono hb1.size), ⟨heap_alloc_new _ _, hT.keep h2⟩, hb1.size, by omega, by omega⟩
end Go.Proofs.YtpnmkfbdfggnaaaGreat

/- Layer 3 (radix): trees that stand at the end of a walk of ours. -/
namespace Go.Proofs.YtpnmkfbdfggnaaaGreat
open Go.RowKit
set_option linter.unusedVariables false

abbrev kE : ByteArray := ⟨#[]⟩
theorem root_pre {T : Tr} (h : T.p = kE) (k : List UInt8) : T.path <+: k := by
  unfold Tr.path; rw [h]; exact List.nil_prefix

/-- The texts lie one behind the other at the address. -/
def StrsAt (w : World) (ao : Option Addr) (ks : List ByteArray) : Prop :=
  ∀ i (h : i < ks.length), ∃ b off, ao = some ⟨b, off, none⟩ ∧ w.cell? ⟨b, off + i, none⟩ = some (.string ks[i]) ∧ ks[i].size ≤ 140737488351296
theorem StrsAt.below {w w' : World} {ao : Option Addr} {ks : List ByteArray} (h : StrsAt w ao ks) (hb : Below w.heap.size w w') : StrsAt w' ao ks := by
  intro i hi
  obtain ⟨b, off, ha, h0, hs⟩ := h i hi
  have hl : b < w.heap.size := World.block_lt_of_cell? w _ h0
  exact ⟨b, off, ha, by rw [hb.cell (by exact hl)]; exact h0, hs⟩

/-- A tree that stands at the end of a walk of ours. -/
structure Good (w W : World) (tb : Nat) (T : Tr) (ne : Int) (d : Nat) : Prop where
  below : Below w.heap.size w W
  tree : TreeAt W tb T ne
  wf : WF T
  root : T.p = kE
  dep : Dep (d + 1) T
  lo : 0 ≤ ne
  hi : ne ≤ d

theorem Good.keep {w W W' : World} {tb : Nat} {T : Tr} {ne : Int} {d : Nat} (h : Good w W tb T ne d) (hb : Below W.heap.size W W') : Good w W' tb T ne d :=
  ⟨h.below.trans (hb.mono h.below.size), h.tree.keep hb, h.wf, h.root, h.dep, h.lo, h.hi⟩

theorem along_split {k : List UInt8} {t : Tr} (h : WF t) : ∃ init c, Along k t (init ++ [c]) := by
  obtain ⟨l, hl⟩ := Along.ex h k
  have hne := hl.ne
  exact ⟨l.dropLast, l.getLast hne, by rw [List.dropLast_concat_getLast hne]; exact hl⟩

theorem Good.insert {w W W' : World} {tb tb' : Nat} {T T' : Tr} {ne : Int} {d N : Nat} {k : ByteArray} {v : Vl} {o : Option Vl} (h : Good w W tb T ne d) (hb : Below W.heap.size W W') (ht : TreeAt W' tb' T' (ne + plusNew o)) (hi : InsR N k v T T') : Good w W' tb' T' (ne + plusNew o) (d + 1) := by
  have hw := hi.wf h.wf (root_pre h.root _)
  have hp : 0 ≤ plusNew o ∧ plusNew o ≤ 1 := by unfold plusNew; split <;> omega
  have h1 := h.lo
  have h2 := h.hi
  exact ⟨h.below.trans (hb.mono h.below.size), ht, hw.1, hw.2.trans h.root, hi.dep h.dep, by omega, by omega⟩
end Go.Proofs.YtpnmkfbdfggnaaaGreat
