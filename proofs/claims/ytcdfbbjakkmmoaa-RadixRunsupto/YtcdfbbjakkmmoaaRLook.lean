import Derived.Test.YtcdfbbjakkmmoaaXHeld
import Derived.Test.YtcdfbbjakkmmoaaRGet
/- Layer 3 (radix): Longest. -/
namespace Go.Proofs.Ytcdfbbjakkmmoaa
open Go.RowKit
set_option linter.unusedVariables false

/-- The last node with a value. -/
def best (t : Tr) (l : List Tr) : Tr := l.foldl (fun b n => if n.v.isSome then n else b) t
theorem best_snoc (t : Tr) (l : List Tr) (n : Tr) : best t (l ++ [n]) = if n.v.isSome then n else best t l := by simp [best]

theorem enters_longest (args : Array Value) (W : World) : (callFunc 48 args).run Try.prog W = .ok (.enter 48 args) W := by
  have := Try.func48
  go_simp

theorem longestK_calls (u : Tr) (b : Nat) (x : Option Addr) (w : World) (hu : TAt nR w u) (hb : w.heap[b]? = some (.cells #[.pointer x] 35)) :
    Calls Try.prog 48 #[.pointer (some ⟨u.a, 0, none⟩), .pointer (some ⟨b, 0, none⟩)] w fun e w' => e = .returned (.tuple #[]) ∧ w' = if u.v.isSome then w.setCell ⟨b, 0, none⟩ (.pointer (some ⟨u.a, 0, none⟩)) else w := by
  obtain ⟨-, -, -, c1, -, -, -, -, -⟩ := hu.cells
  have c0 : w.cell? ⟨b, 0, none⟩ = some (.pointer x) := by rw [cell_of_blk hb]; rfl
  have z0 : w.frozen? ⟨b, 0, none⟩ = false := frozen_of_blk hb
  clear hb hu
  cases hv : u.v with
  | none =>
    rw [hv] at c1
    simp only [vptr] at c1
    simp only [Option.isSome_none, Bool.false_eq_true, if_false]
    clear hv
    go_enter Try.func48, Try.ntmps48
    go_wp2
    go_end0
    exact ⟨rfl, rfl⟩
  | some y =>
    rw [hv] at c1
    simp only [vptr] at c1
    simp only [Option.isSome_some, if_true]
    clear hv
    go_enter Try.func48, Try.ntmps48
    go_wp2
    go_end0
    exact ⟨rfl, rfl⟩

structure LI (w : World) (t : Tr) (l : List Tr) (i : Nat) (W : World) : Prop where
  below : Below w.heap.size w W
  box : W.heap[w.heap.size]? = some (.cells #[.pointer (some ⟨(best t (l.take i)).a, 0, none⟩)] 35)

theorem entry_tree (c : Tr) (w : World) (h : TAt nR w c) : Calls Try.prog 49 #[.pointer (some ⟨c.a, 0, none⟩)] w fun e w' => e = .returned (.tuple #[.string c.p, held c.v, .bool c.v.isSome]) ∧ w' = w := by
  obtain ⟨-, -, c0, c1, -, -, -, -, -⟩ := h.cells
  have HG := get_calls c.v w h.val'
  clear h
  go_enter Try.func49, Try.ntmps49
  go_wp2_with fail
  refine HG.mono ?_
  clear HG
  rintro e w1 ⟨rfl, rfl⟩
  go_wp2
  refine bodyPost_ret (v := .tuple #[.string c.p, held c.v, .bool c.v.isSome]) (by simp [results, Try.results49, go_sem]) rfl ⟨rfl, rfl⟩

set_option maxRecDepth 100000 in
theorem longest_tree (tb : Nat) (t : Tr) (n : Int) (k : ByteArray) (w : World) (l : List Tr) (h : TreeAt w tb t n) (hw : WF t) (hp : t.path <+: k.data.toList) (hks : k.size ≤ 140737488351296) (hA : Along k.data.toList t l) (hb : TAt nR w (best t l)) :
    Calls Try.prog 24 #[.pointer (some ⟨tb, 0, none⟩), .string k] w fun e w' => e = .returned (.tuple #[.string (best t l).p, held (best t l).v, .bool (best t l).v.isSome]) ∧ Below w.heap.size w w' := by
  have hmf : ∀ (fn : Fn) (first cap : Array Value) (w : World), (Instr.makeFunc fn first cap).run Try.prog w = .ok (.func fn first cap) w := fun _ _ _ _ => rfl
  have c0 : w.cell? ⟨tb, 0, none⟩ = some (.pointer (some ⟨t.a, 0, none⟩)) := by rw [cell_of_blk h.blk]; rfl
  have htb := lt_of_heap h.blk
  obtain ⟨w1, HW1⟩ : ∃ w1, Hid (w1 = w.alloc (.cells #[.pointer (some ⟨t.a, 0, none⟩)] 35)) := ⟨_, rfl⟩
  have hb1 : Below w.heap.size w w1 := by rw [HW1.out]; exact (Below.refl _ _).alloc (Nat.le_refl _) _
  have hbox : w1.heap[w.heap.size]? = some (.cells #[.pointer (some ⟨t.a, 0, none⟩)] 35) := by rw [HW1.out]; exact heap_alloc_new w _
  have c0' : w1.cell? ⟨tb, 0, none⟩ = some (.pointer (some ⟨t.a, 0, none⟩)) := by rw [hb1.cell (by exact htb)]; exact c0
  have HA := along_calls 48 enters_longest (.pointer (some ⟨w.heap.size, 0, none⟩)) t k l (LI w t l) w1 hA hw hp hks
    ⟨hb1, by rw [hbox]; simp [best]⟩
    (fun i W W' hi hb => ⟨hi.below.trans (hb.mono hi.below.size), by rw [hb.block _ (lt_of_heap hi.box)]; exact hi.box⟩)
    (fun i W hi => h.tat.keep hi.below)
    (fun i hi W hI hT => (longestK_calls l[i] _ _ W hT hI.box).mono (by
      rintro e W' ⟨rfl, rfl⟩
      refine ⟨rfl, ?_, ?_⟩
      · split
        · exact hI.below.setCell (Nat.le_refl _) _
        · exact hI.below
      · rw [List.take_succ_eq_append_getElem hi, best_snoc]
        split
        · rw [setCell_blk hI.box]; simp
        · exact hI.box))
  have HB0 : Hid (TAt nR w (best t l)) := hb
  obtain ⟨b, HBE⟩ : ∃ b, Hid (b = best t l) := ⟨_, rfl⟩
  rw [← HBE.out]
  rw [← HBE.out] at HB0
  clear h hw hp hA hbox hb hb1
  go_enter Try.func24, Try.ntmps24
  go_wp2_with fail
  rw [← HW1.out]
  refine HA.mono ?_
  clear HA
  rintro e w2 ⟨rfl, hI⟩
  have hbx := hI.box
  rw [List.take_length, ← HBE.out] at hbx
  have c2 : w2.cell? ⟨w.heap.size, 0, none⟩ = some (.pointer (some ⟨b.a, 0, none⟩)) := by rw [cell_of_blk hbx]; rfl
  have HE := entry_tree b w2 (HB0.out.keep hI.below)
  have HB2 : Hid (Below w.heap.size w w2) := hI.below
  clear hI hbx c0'
  go_wp2_with fail
  refine HE.mono ?_
  clear HE
  rintro e w3 ⟨rfl, rfl⟩
  go_wp2
  exact bodyPost_ret (v := .tuple #[.string b.p, held b.v, .bool b.v.isSome]) (by simp [results, Try.results24, go_sem]) rfl ⟨rfl, HB2.out⟩

/-! ### beginnings of a key -/

theorem nx_take {t : Tr} (h : WF t) {k : List UInt8} {n : Nat} : nx t (k.take n) = match nx t k with
    | some c => if c.p.size ≤ n then some c else none
    | none => none := by
  have hpre : ∀ c : Tr, c.path <+: k.take n ↔ c.path <+: k ∧ c.p.size ≤ n := fun c => by rw [List.prefix_take_iff, path_length]
  cases hn : nx t k with
  | none =>
    simp only
    cases hm : nx t (k.take n) with
    | none => rfl
    | some d =>
      obtain ⟨h1, h2⟩ := nx_mem hm
      obtain ⟨i, hi, rfl⟩ := List.getElem_of_mem h1
      have := nx_some h hi ((hpre _).1 h2).1
      rw [hn] at this
      cases this
  | some c =>
    simp only
    obtain ⟨h1, h2⟩ := nx_mem hn
    obtain ⟨i, hi, rfl⟩ := List.getElem_of_mem h1
    split
    · rename_i hc
      exact nx_some h hi ((hpre _).2 ⟨h2, hc⟩)
    · rename_i hc
      cases hm : nx t (k.take n) with
      | none => rfl
      | some d =>
        obtain ⟨g1, g2⟩ := nx_mem hm
        obtain ⟨j, hj, rfl⟩ := List.getElem_of_mem g1
        have := nx_some h hj ((hpre _).1 g2).1
        rw [hn] at this
        simp only [Option.some.injEq] at this
        rw [← this] at g2
        exact absurd ((hpre _).1 g2).2 hc

theorem Along.cut {t : Tr} {k : List UInt8} {l : List Tr} (h : Along k t l) (hw : WF t) {n : Nat} (hn : t.p.size ≤ n) : Along (k.take n) t (l.takeWhile fun c => decide (c.p.size ≤ n)) := by
  induction h with
  | @stop t h =>
    have : nx t (k.take n) = none := by rw [nx_take hw, h]
    rw [List.takeWhile_cons, if_pos (by simpa using hn)]
    exact .stop this
  | @go t c l h r ih =>
    rw [List.takeWhile_cons, if_pos (by simpa using hn)]
    have hc := nx_mem h
    by_cases hs : c.p.size ≤ n
    · have : nx t (k.take n) = some c := by rw [nx_take hw, h]; simp [hs]
      exact .go this (ih (hw.kids' c hc.1) hs)
    · have : nx t (k.take n) = none := by rw [nx_take hw, h]; simp [hs]
      obtain ⟨q, rfl⟩ := r.head
      rw [List.takeWhile_cons, if_neg (by simpa using hs)]
      exact .stop this

/-- The value of the node whose path has n bytes. -/
def hit (l : List Tr) (n : Nat) : Option Vl := (l.find? fun c => c.p.size == n).bind (·.v)

theorem hit_val {l init : List Tr} {c : Tr} {n : Nat} (hs : (l.map (·.p.size)).Pairwise (· < ·)) (h : l.takeWhile (fun c => decide (c.p.size ≤ n)) = init ++ [c]) (k : ByteArray) (hk : k.size = n) : valAt c k = hit l n := by
  have hl : l = (init ++ [c]) ++ l.dropWhile (fun c => decide (c.p.size ≤ n)) := by rw [← h, List.takeWhile_append_dropWhile]
  have hcn : c.p.size ≤ n := by
    have hm : c ∈ l.takeWhile (fun c => decide (c.p.size ≤ n)) := by rw [h]; simp
    simpa using List.all_eq_true.1 (List.all_takeWhile (p := fun c : Tr => decide (c.p.size ≤ n)) (l := l)) c hm
  obtain ⟨r, hr⟩ : ∃ r, r = l.dropWhile (fun c => decide (c.p.size ≤ n)) := ⟨_, rfl⟩
  rw [← hr] at hl
  have hrn : ∀ u ∈ r, n < u.p.size := by
    intro u hu
    cases r with
    | nil => cases hu
    | cons a r' =>
      have ha : ¬ a.p.size ≤ n := by
        have := List.head?_dropWhile_not (fun c : Tr => decide (c.p.size ≤ n)) l
        rw [← hr] at this
        simpa using this
      rw [hl, List.map_append, List.pairwise_append] at hs
      have h2 := hs.2.1
      simp only [List.map_cons, List.pairwise_cons] at h2
      rcases List.mem_cons.1 hu with rfl | hu
      · omega
      · have := h2.1 _ (List.mem_map_of_mem hu)
        omega
  have hin : ∀ u ∈ init, u.p.size < c.p.size := by
    intro u hu
    rw [hl, List.map_append, List.pairwise_append, List.map_append, List.pairwise_append] at hs
    exact hs.1.2.2 _ (List.mem_map_of_mem hu) _ (by simp)
  unfold valAt hit
  rw [hk]
  by_cases hc : c.p.size < n
  · rw [if_pos hc]
    have : l.find? (fun c => c.p.size == n) = none := by
      rw [List.find?_eq_none]
      intro u hu
      rw [hl] at hu
      simp only [List.mem_append, List.mem_singleton] at hu
      rcases hu with (hu | rfl) | hu
      · have := hin u hu; simp; omega
      · simp; omega
      · have := hrn u hu; simp; omega
    rw [this]; rfl
  · rw [if_neg hc]
    have : l.find? (fun c => c.p.size == n) = some c := by
      rw [hl, List.append_assoc, List.find?_append]
      have h1 : init.find? (fun c => c.p.size == n) = none := by
        rw [List.find?_eq_none]
        intro u hu
        have := hin u hu; simp; omega
      rw [h1]
      simp
      omega
    rw [this]; rfl

theorem best_spec (l : List Tr) : ∀ (t : Tr), (l.map (·.p.size)).Pairwise (· < ·) → (best t l = t ∧ ∀ u ∈ l, u.v = none) ∨ (best t l ∈ l ∧ (best t l).v.isSome ∧ ∀ u ∈ l, u.v.isSome → u.p.size ≤ (best t l).p.size) := by
  induction l with
  | nil => intro t _; exact .inl ⟨rfl, by simp⟩
  | cons x r ih =>
    intro t hs
    simp only [List.map_cons, List.pairwise_cons] at hs
    have hb : best t (x :: r) = best (if x.v.isSome then x else t) r := rfl
    rw [hb]
    rcases ih (if x.v.isSome then x else t) hs.2 with ⟨h1, h2⟩ | ⟨h1, h2, h3⟩
    · rw [h1]
      by_cases hx : x.v.isSome
      · rw [if_pos hx]
        refine .inr ⟨by simp, hx, fun u hu hv => ?_⟩
        rcases List.mem_cons.1 hu with rfl | hu
        · exact Nat.le_refl _
        · rw [h2 u hu] at hv; cases hv
      · rw [if_neg hx]
        refine .inl ⟨rfl, fun u hu => ?_⟩
        rcases List.mem_cons.1 hu with rfl | hu
        · simpa using hx
        · exact h2 u hu
    · refine .inr ⟨List.mem_cons_of_mem _ h1, h2, fun u hu hv => ?_⟩
      rcases List.mem_cons.1 hu with rfl | hu
      · exact Nat.le_of_lt (hs.1 _ (List.mem_map_of_mem h1))
      · exact h3 u hu hv

theorem hit_mem {l : List Tr} (hs : (l.map (·.p.size)).Pairwise (· < ·)) {u : Tr} (hu : u ∈ l) : hit l u.p.size = u.v := by
  unfold hit
  have : l.find? (fun c => c.p.size == u.p.size) = some u := by
    rw [List.find?_eq_some_iff_getElem]
    obtain ⟨i, hi, rfl⟩ := List.getElem_of_mem hu
    refine ⟨by simp, i, hi, rfl, fun j hj => ?_⟩
    have := List.pairwise_iff_getElem.1 hs j i (by simp; omega) (by simpa using hi) hj
    simp at this ⊢
    omega
  rw [this]; rfl
/-- The longest one: found at n, with none longer. -/
theorem best_hit {l : List Tr} {t : Tr} (hs : (l.map (·.p.size)).Pairwise (· < ·)) {n N : Nat} {x : Vl} (hN : ∀ u ∈ l, u.p.size ≤ N) (h : hit l n = some x) (hno : ∀ m, n < m → m ≤ N → hit l m = none) : (best t l).v = some x ∧ (best t l).p.size = n ∧ best t l ∈ l := by
  obtain ⟨u, hu, hun, huv⟩ : ∃ u ∈ l, u.p.size = n ∧ u.v = some x := by
    unfold hit at h
    obtain ⟨u, h1, h2⟩ := Option.bind_eq_some_iff.1 h
    exact ⟨u, List.mem_of_find?_eq_some h1, by simpa using List.find?_some h1, h2⟩
  rcases best_spec l t hs with ⟨h1, h2⟩ | ⟨h1, h2, h3⟩
  · rw [h2 u hu] at huv; cases huv
  · have h4 := h3 u hu (by rw [huv]; rfl)
    have h5 : (best t l).p.size = n := by
      rcases Nat.lt_or_ge n (best t l).p.size with hc | hc
      · have := hno _ hc (hN _ h1)
        rw [hit_mem hs h1] at this
        rw [this] at h2; cases h2
      · omega
    refine ⟨?_, h5, h1⟩
    rw [← hit_mem hs h1, h5, h]
theorem best_none {l : List Tr} {t : Tr} (hs : (l.map (·.p.size)).Pairwise (· < ·)) {N : Nat} (hN : ∀ u ∈ l, u.p.size ≤ N) (hno : ∀ m, m ≤ N → hit l m = none) : best t l = t ∧ ∀ u ∈ l, u.v = none := by
  rcases best_spec l t hs with h | ⟨h1, h2, h3⟩
  · exact h
  · have := hno _ (hN _ h1)
    rw [hit_mem hs h1] at this
    rw [this] at h2; cases h2
end Go.Proofs.Ytcdfbbjakkmmoaa

/- Layer 3 (radix): Reach. -/
namespace Go.Proofs.Ytcdfbbjakkmmoaa
open Go.RowKit
set_option linter.unusedVariables false

theorem reach_tree (tb : Nat) (t : Tr) (n : Int) (k : ByteArray) (w : World) (init : List Tr) (c : Tr) (h : TreeAt w tb t n) (hw : WF t) (hp : t.path <+: k.data.toList) (hks : k.size ≤ 140737488351296) (hA : Along k.data.toList t (init ++ [c])) :
    Calls Try.prog 25 #[.pointer (some ⟨tb, 0, none⟩), .string k] w fun e w' => e = .returned (.string c.p) ∧ Below w.heap.size w w' := by
  have c0 : w.cell? ⟨tb, 0, none⟩ = some (.pointer (some ⟨t.a, 0, none⟩)) := by rw [cell_of_blk h.blk]; rfl
  have HV := reach_calls t k w init c hA h.tat hw hp hks
  have hT := along_tat hA h.tat c (by simp)
  obtain ⟨-, -, d0, -, -, -, -, -, -⟩ := hT.cells
  have ha := hT.lt
  clear h hw hp hA hT
  go_enter Try.func25, Try.ntmps25
  go_wp2_with fail
  refine HV.mono ?_
  clear HV
  rintro e w1 ⟨rfl, hb1⟩
  have d0' : w1.cell? ⟨c.a, 0, none⟩ = some (.string c.p) := by rw [hb1.cell (by exact ha)]; exact d0
  have HB : Hid (Below w.heap.size w w1) := hb1
  clear hb1 c0 d0
  go_wp2
  go_ret
  exact ⟨rfl, HB.out⟩

/-! ### Longest -/
end Go.Proofs.Ytcdfbbjakkmmoaa
