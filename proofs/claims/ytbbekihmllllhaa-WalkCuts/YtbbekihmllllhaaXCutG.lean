/- Layer 4 (walk): what a tree's walks hand on, by its entries; Get. -/
import Derived.Test.YtbbekihmllllhaaRGet
import Derived.Test.YtbbekihmllllhaaRHasA
import Derived.Test.YtbbekihmllllhaaXBetween
import Derived.Test.YtbbekihmllllhaaXCount
import Derived.Test.YtbbekihmllllhaaXThese
namespace Go.Proofs.Ytbbekihmllllhaa
open Go.RowKit Go.Shelf
set_option linter.unusedVariables false

theorem filOf {w W : World} {tb : Nat} {T : Tr} {ne : Int} {d : Nat} {es : List En} (h : Held w W tb T ne d es) (lo : ByteArray) : fil (d + 1) T lo = es.filter (notLt (kyb lo)) := by rw [fil_root h.good.root, h.ents]
theorem btwOf {w W : World} {tb : Nat} {T : Tr} {ne : Int} {d : Nat} {es : List En} (h : Held w W tb T ne d es) (lo hi : ByteArray) : btw (d + 1) T lo hi = es.filter (bwP lo hi) := by
  unfold btw
  rw [fil_root h.good.root, h.ents, List.filter_filter]
  congr 1
  funext e
  unfold bwP
  rw [Bool.and_comm]
theorem undOf {w W : World} {tb : Nat} {T : Tr} {ne : Int} {d : Nat} {es : List En} (h : Held w W tb T ne d es) (p : ByteArray) : und (d + 1) T p = es.filter (beg p) := by
  unfold und
  rw [fil_root h.good.root, h.ents, List.filter_filter]
  congr 1
  funext e
  by_cases hb : beg p e = true
  · have : ¬ Lt (kyl e) (kyb p) := pre_not_lt (List.isPrefixOf_iff_prefix.1 hb)
    simp [hb, notLt, this]
  · rw [Bool.eq_false_iff.2 hb]; rfl

theorem getE_calls (tb : Nat) (T : Tr) (ne : Int) (d : Nat) (es : List En) (w₀ w : World) (h : Held w₀ w tb T ne d es) (k : ByteArray) (hk : k.size ≤ 140737488351232) :
    Calls Try.prog 16 #[.pointer (some ⟨tb, 0, none⟩), .string k] w fun e w' => ∃ v, e = .returned (.tuple #[v, .bool (decide (k ∈ keysOf es))]) ∧ Below w.heap.size w w' := by
  obtain ⟨init, c, hA⟩ := along_split (k := k.data.toList) h.good.wf
  have hp := root_pre h.good.root k.data.toList
  refine (get_tree tb T ne k w init c h.good.tree h.good.wf hp hk hA).mono ?_
  rintro e w1 ⟨rfl, hb⟩
  have hd : (valAt c k).isSome = decide (k ∈ keysOf es) := by
    rw [Bool.eq_iff_iff, decide_eq_true_eq, Option.isSome_iff_exists]
    constructor
    · rintro ⟨y, hy⟩
      obtain ⟨e, he, h1, -⟩ := (h.has _ _).1 ((has_along hA rfl h.good.wf hp y.x).2 ⟨y, hy, rfl⟩)
      exact List.mem_map.2 ⟨e, he, ky_inj h1⟩
    · intro hm
      obtain ⟨e, he, h1⟩ := List.mem_map.1 hm
      have hh := (h.has k.data.toList (.int .i64 e.2)).2 ⟨e, he, by rw [kyl, h1], rfl⟩
      obtain ⟨y, hy, -⟩ := (has_along hA rfl h.good.wf hp _).1 hh
      exact ⟨y, hy⟩
  rw [hd]
  exact ⟨_, rfl, hb⟩
end Go.Proofs.Ytbbekihmllllhaa
