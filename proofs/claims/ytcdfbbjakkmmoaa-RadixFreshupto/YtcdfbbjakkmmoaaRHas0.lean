import Derived.Test.YtcdfbbjakkmmoaaRInsM
import Derived.Deep.Slices
import Derived.SizedLaws
import Derived.ProofKit
/- Layer 3 (radix): New. -/
namespace Go.Proofs.Ytcdfbbjakkmmoaa
open Go.RowKit
set_option linter.unusedVariables false

/-- New: a tree of one node. -/
theorem newTree_calls (w : World) : Calls Try.prog 14 #[] w fun e w' => ∃ tb a g, e = .returned (.pointer (some ⟨tb, 0, none⟩)) ∧ Below w.heap.size w w' ∧ TreeAt w' tb (.nd a ⟨#[]⟩ none [] g) 0 ∧ w.heap.size ≤ tb ∧ w.heap.size ≤ a ∧ w.heap.size ≤ g := by
  go_enter Try.func14, Try.ntmps14
  go_wp2_with fail
  refine (newNode_calls _ _ _ _ _ w).mono ?_
  rintro e w1 ⟨rfl, hb1, hs1, hn1, hw1⟩
  have H1 : Hid (Below w.heap.size w w1 ∧ w1.heap.size = w.heap.size + 3 ∧ TAt nR w1 (.nd (w.heap.size + 2) ⟨#[]⟩ none [] (w.heap.size + 1))) :=
    ⟨hb1, hs1, TAt.laid (x := ⟨none, 0, []⟩) hn1 ⟨fun i hi => by simp at hi, Nat.le_refl _, fun _ => rfl⟩ (fun y hy => by cases hy) hw1 (fun t ht => by simp at ht) (by decide)⟩
  clear hb1 hs1 hn1 hw1
  go_wp2
  go_ret
  obtain ⟨hb1, hs1, hT⟩ := H1.out
  have h2 : Below w1.heap.size w1 (w1.alloc (.cells #[.pointer (some ⟨w.heap.size + 2, 0, none⟩), .int .i64 0] 68)) := (Below.refl _ _).alloc (Nat.le_refl _) _
  exact ⟨w1.heap.size, w.heap.size + 2, w.heap.size + 1, rfl, hb1.trans (h2.mono hb1.size), ⟨heap_alloc_new _ _, hT.keep h2⟩, hb1.size, by omega, by omega⟩
end Go.Proofs.Ytcdfbbjakkmmoaa

/- Layer 3 (radix): trees that stand at the end of a walk of ours. -/
namespace Go.Proofs.Ytcdfbbjakkmmoaa
open Go.RowKit
set_option linter.unusedVariables false

abbrev kE : ByteArray := ⟨#[]⟩
theorem root_pre {T : Tr} (h : T.p = kE) (k : List UInt8) : T.path <+: k := by
  unfold Tr.path; rw [h]; exact List.nil_prefix

/-- The texts lie one behind the other at the address. -/
def StrsAt (w : World) (ao : Option Addr) (ks : List ByteArray) : Prop :=
  ∀ i (h : i < ks.length), ∃ b off, ao = some ⟨b, off, none⟩ ∧ w.cell? ⟨b, off + i, none⟩ = some (.string ks[i]) ∧ ks[i].size ≤ 140737488351296
theorem StrsAt.below {w w' : World} {ao : Option Addr} {ks : List ByteArray} (h : StrsAt w ao ks) (hb : Below w.heap.size w w') : StrsAt w' ao ks := by
  intro i hi
  obtain ⟨b, off, ha, h0, hs⟩ := h i hi
  have hl : b < w.heap.size := World.block_lt_of_cell? w _ h0
  exact ⟨b, off, ha, by rw [hb.cell (by exact hl)]; exact h0, hs⟩

/-- A tree that stands at the end of a walk of ours. -/
structure Good (w W : World) (tb : Nat) (T : Tr) (ne : Int) (d : Nat) : Prop where
  below : Below w.heap.size w W
  tree : TreeAt W tb T ne
  wf : WF T
  root : T.p = kE
  dep : Dep (d + 1) T
  lo : 0 ≤ ne
  hi : ne ≤ d

theorem Good.keep {w W W' : World} {tb : Nat} {T : Tr} {ne : Int} {d : Nat} (h : Good w W tb T ne d) (hb : Below W.heap.size W W') : Good w W' tb T ne d :=
  ⟨h.below.trans (hb.mono h.below.size), h.tree.keep hb, h.wf, h.root, h.dep, h.lo, h.hi⟩

theorem along_split {k : List UInt8} {t : Tr} (h : WF t) : ∃ init c, Along k t (init ++ [c]) := by
  obtain ⟨l, hl⟩ := Along.ex h k
  have hne := hl.ne
  exact ⟨l.dropLast, l.getLast hne, by rw [List.dropLast_concat_getLast hne]; exact hl⟩

theorem Good.insert {w W W' : World} {tb tb' : Nat} {T T' : Tr} {ne : Int} {d N : Nat} {k : ByteArray} {v : Vl} {o : Option Vl} (h : Good w W tb T ne d) (hb : Below W.heap.size W W') (ht : TreeAt W' tb' T' (ne + plusNew o)) (hi : InsR N k v T T') : Good w W' tb' T' (ne + plusNew o) (d + 1) := by
  have hw := hi.wf h.wf (root_pre h.root _)
  have hp : 0 ≤ plusNew o ∧ plusNew o ≤ 1 := by unfold plusNew; split <;> omega
  have h1 := h.lo
  have h2 := h.hi
  exact ⟨h.below.trans (hb.mono h.below.size), ht, hw.1, hw.2.trans h.root, hi.dep h.dep, by omega, by omega⟩
end Go.Proofs.Ytcdfbbjakkmmoaa

/- An argument of type []string, opened. -/
namespace Go.Proofs.Ytcdfbbjakkmmoaa
open Go.RowKit Go.Deep Go.ChangeShapes Go.WideShapes
set_option linter.unusedVariables false

def strData {H : Type} (t : ByteArray) : DataW H := .lit (.string t.data.toList)
theorem cells_str : Try.prog.cellsOf 9 = 1 := by kernel_rfl
theorem bytes_str : Try.prog.bytesOf 9 = 16 := by kernel_rfl

theorem open_strs {H : Type} {enc : TypeId × Value → H} {W : World} {fuel : Nat} {ao : Option Addr} {len cap : Nat} {x : DataW H × List MemPlace}
    (h : DataW.trod enc Try.prog W 0 (fun _ => true) true fuel 22 [.slice ao len cap] = some x) :
    ∃ (ps : List ByteArray) (spare : List (DataW H)), ps.length = len ∧ (x.1 = .nil ∧ ps = [] ∨ x.1 = .slice (ps.map strData) spare) ∧ ((∀ p ∈ ps, p.size ≤ 140737488351296) → StrsAt W ao ps) := by
  rcases open_slice Try.underlying22 h with ⟨hc, hx⟩ | ⟨a, len', cap', m, n, D, Pl, hc, hb, hl, hm, hmm, hx, hel⟩
  · simp at hc
    obtain ⟨rfl, rfl, rfl⟩ := hc
    exact ⟨[], [], rfl, .inl ⟨by rw [hx], rfl⟩, fun _ i hp => by simp at hp⟩
  · simp at hc
    obtain ⟨rfl, rfl, rfl⟩ := hc
    simp only [if_true] at hmm
    subst hmm
    rw [cells_str] at hel
    have each : ∀ i, i < len → ∃ p : ByteArray, D i = strData p ∧ W.cell? (a.add i) = some (.string p) := by
      intro i hi
      obtain ⟨cs', h1, h2⟩ := hel i (by omega)
      obtain ⟨_, hlen, hcell⟩ := World.cells?_some h1
      match cs', hlen with
      | [v0], _ =>
        obtain ⟨s1, q1, r1, w1⟩ := DataW.trod_string Try.underlying9 h2
        have e0 := hcell 0 (by omega)
        rw [add_add] at e0
        simp at q1
        subst q1
        refine ⟨s1, ?_, by simpa using e0⟩
        have := congrArg Prod.fst r1
        simpa [strData] using this
    obtain ⟨f, hf⟩ : ∃ f : Nat → ByteArray, ∀ i, i < len → _ := @choose_lt ByteArray ⟨⟨#[]⟩⟩ len _ each
    refine ⟨(List.range len).map f, (List.range (m - len)).map fun j => D (len + j), by simp, .inr ?_, ?_⟩
    · rw [hx]
      simp only [DataW.slice.injEq, and_true]
      rw [List.map_map]
      exact List.map_congr_left fun i hi => (hf i (List.mem_range.1 hi)).1
    · intro hts i hi
      have hi' : i < len := by simpa using hi
      obtain ⟨_, c0⟩ := hf i hi'
      obtain ⟨b, off, spot⟩ := a
      have hspot : spot = none := by simpa [Addr.add] using World.cell?_spot (hf 0 (by omega)).2
      subst hspot
      refine ⟨b, off, rfl, ?_, hts _ (List.getElem_mem hi)⟩
      rw [← add_plain]
      simpa using c0

theorem mem_weightsAll' {H : Type} {P : Program} {e : TypeId} : ∀ {l : List (DataW H)} {d : DataW H}, d ∈ l → ∀ n ∈ d.weights P e, n ∈ DataW.weightsAll P e l
  | d0 :: l, d, hd, n, hn => by
    simp only [DataW.weightsAll, List.mem_append]
    rcases List.mem_cons.1 hd with rfl | h
    · exact .inl hn
    · exact .inr (mem_weightsAll' h n hn)
  | [], _, hd, _, _ => by simp at hd

/-- By the form's own reach: how long the list and its texts can be. -/
theorem strs_reach {H : Type} {ps : List ByteArray} {spare : List (DataW H)} {d : DataW H} (hd : d = .nil ∧ ps = [] ∨ d = .slice (ps.map strData) spare) (hw : ∀ n ∈ d.weights Try.prog 22, n ≤ reachBytes) :
    ps.length * 16 ≤ 140737488351296 ∧ ∀ p ∈ ps, p.size ≤ 140737488351296 := by
  rcases hd with ⟨_, rfl⟩ | rfl
  · simp
  · simp only [DataW.weights, Try.underlying22, bytes_str] at hw
    refine ⟨?_, ?_⟩
    · have := hw _ (List.mem_cons_self ..)
      simp only [List.length_map, reachBytes] at this
      omega
    · intro p hp
      have := hw p.data.toList.length (List.mem_cons_of_mem _ (List.mem_append_left _ (mem_weightsAll' (List.mem_map_of_mem hp) _ (by
        simp [strData, DataW.weights]))))
      have h2 : p.size ≤ reachBytes := by simpa using this
      exact Nat.le_trans h2 (by decide)
end Go.Proofs.Ytcdfbbjakkmmoaa

/- Layer 3 (radix): what a tree holds. -/
namespace Go.Proofs.Ytcdfbbjakkmmoaa
open Go.RowKit
set_option linter.unusedVariables false

/-- The tree holds x for the key k. -/
inductive Has : Tr → List UInt8 → Value → Prop
  | here {t x} (h : t.v = some x) : Has t t.path x.x
  | kid {t c k x} (hc : c ∈ t.ks) (h : Has c k x) : Has t k x

theorem Has.pre {t : Tr} {k : List UInt8} {x : Value} (h : Has t k x) (ht : WF t) : t.path <+: k := by
  induction h with
  | here h => exact List.prefix_refl _
  | kid hc h ih => exact (ht.ext' _ hc).1.trans (ih (ht.kids' _ hc))
theorem Has.own {t : Tr} {k : List UInt8} {x : Value} (h : Has t k x) (ht : WF t) (hl : k.length ≤ t.p.size) : ∃ v, t.v = some v ∧ v.x = x := by
  cases h with
  | here h => exact ⟨_, h, rfl⟩
  | kid hc h =>
    have h1 := (h.pre (ht.kids' _ hc)).length_le
    rw [path_length] at h1
    have h2 := (ht.ext' _ hc).2
    omega
theorem Has.byte {t c : Tr} {k : List UInt8} {x : Value} (h : Has c k x) (ht : WF t) (hc : c ∈ t.ks) : c.byte t.p.size = k.getD t.p.size 0 :=
  (prefix_getD (h.pre (ht.kids' _ hc)) _ (by rw [path_length]; exact (ht.ext' _ hc).2)).symm
theorem Has.down {t : Tr} {k : List UInt8} {x : Value} (h : Has t k x) (ht : WF t) (hl : t.p.size < k.length) : ∃ c ∈ t.ks, Has c k x ∧ c.byte t.p.size = k.getD t.p.size 0 := by
  cases h with
  | here h => rw [path_length] at hl; omega
  | kid hc h => exact ⟨_, hc, h, h.byte ht hc⟩
theorem WF.inj {t c d : Tr} (ht : WF t) (hc : c ∈ t.ks) (hd : d ∈ t.ks) (h : c.byte t.p.size = d.byte t.p.size) : c = d := by
  obtain ⟨i, hi, rfl⟩ := List.getElem_of_mem hc
  obtain ⟨j, hj, rfl⟩ := List.getElem_of_mem hd
  rcases Nat.lt_trichotomy i j with h1 | h1 | h1
  · have := lt_of_sorted ht.ord' h1 hj
    rw [h] at this; exact absurd this (UInt8.lt_irrefl _)
  · subst h1; rfl
  · have := lt_of_sorted ht.ord' h1 hi
    rw [h] at this; exact absurd this (UInt8.lt_irrefl _)
theorem key_eq {t : Tr} {k : ByteArray} (hp : t.path <+: k.data.toList) (hs : t.p.size = k.size) : t.p = k := by
  have h : t.path = k.data.toList := hp.eq_of_length (by rw [path_length, hs]; simp)
  cases hk : k with
  | mk d =>
    cases ht : t.p with
    | mk e =>
      unfold Tr.path at h
      rw [hk, ht] at h
      simp only [ByteArray.mk.injEq]
      exact Array.toList_inj.1 h

end Go.Proofs.Ytcdfbbjakkmmoaa
