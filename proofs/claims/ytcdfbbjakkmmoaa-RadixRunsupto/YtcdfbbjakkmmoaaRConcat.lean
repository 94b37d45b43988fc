import Derived.Test.YtcdfbbjakkmmoaaRReach
import Derived.Test.YtcdfbbjakkmmoaaRToward2
import Derived.Lib.BufferWrite
import Derived.Lib.UnsafeStr
import Derived.Lib.AppendZerosOnto
import Derived.Lib.SliceRun
import Derived.Lib.Walk
import Derived.Lib.Strings
import Derived.Laws.MakeOwn
import Derived.Laws.AppendOwnNone
/- Layer 3 (radix): way. -/
namespace Go.Proofs.Ytcdfbbjakkmmoaa
open Go.RowKit
set_option linter.unusedVariables false
variable {R : Rg} {O : Nat → Prop}

def nodeP (t : Tr) : Value := .pointer (some ⟨t.a, 0, none⟩)

theorem infoPN : (Try.prog.info? 35).map (fun i => (i.zero, i.size, i.bytes)) = some (some (.pointer none), 1, 8) := by kernel_rfl

theorem wayK_calls (u : Tr) (b B : Nat) (v : Value) (vs : List Value) (w : World) (hb : w.heap[b]? = some (.cells #[v] 65)) (ho : OwnV w B 35 v vs) (hB : b < B) (hBs : B ≤ w.heap.size) (hl : vs.length + 1 ≤ 17592186044416) :
    Calls Try.prog 51 #[nodeP u, .pointer (some ⟨b, 0, none⟩)] w fun e w' => e = .returned (.tuple #[]) ∧ ∃ v', w'.heap[b]? = some (.cells #[v'] 65) ∧ OwnV w' B 35 v' (vs ++ [nodeP u]) ∧ Below b w w' ∧ w.heap.size ≤ w'.heap.size := by
  obtain ⟨ao, cap, rfl⟩ := ho.shape
  have c0 : w.cell? ⟨b, 0, none⟩ = some (.slice ao vs.length cap) := by rw [cell_of_blk hb]; rfl
  have HBX : Hid (w.heap[b]? = some (.cells #[.slice ao vs.length cap] 65)) := hb
  have hlt : ∀ k, (Value.slice ao vs.length cap).ownBlock = some k → B ≤ k := fun k hk => (ho.lt k hk).1
  have HLT : Hid (∀ k, (Value.slice ao vs.length cap).ownBlock = some k → B ≤ k) := hlt
  clear hb hlt
  unfold nodeP
  go_enter Try.func51, Try.ntmps51
  go_wp2_with (at_builtin; refine append_val _ rfl (.tmp 3) (.tmp 5) 65 35 (.pointer none) 8 Try.underlying65 infoPN rfl rfl B _ vs rfl (.pointer (some ⟨u.a, 0, none⟩)) rfl _ rfl (by simp) ho (by omega) (by omega) hBs ?_)
  intro v1 w2 ho2 hg2
  obtain ⟨ao1, cap1, hv1⟩ := ho2.shape
  rw [List.length_append, List.length_singleton] at hv1
  have e1 : w2.heap[b]? = some (.cells #[.slice ao vs.length cap] 65) := (hg2.grown.block b (by omega) (fun e => by have := HLT.out b e.symm; omega)).trans HBX.out
  have d2 : w2.cell? ⟨b, 0, none⟩ = some (.slice ao vs.length cap) := by rw [cell_of_blk e1]; rfl
  have z2 : w2.frozen? ⟨b, 0, none⟩ = false := frozen_of_blk e1
  have HE : Hid (w2.heap[b]? = some (.cells #[.slice ao vs.length cap] 65)) := e1
  have HO : Hid (OwnV w2 B 35 v1 (vs ++ [.pointer (some ⟨u.a, 0, none⟩)])) := ho2
  have HG : Hid (Below b w w2 ∧ w.heap.size ≤ w2.heap.size) := ⟨hg2.toBelow (by omega) (fun k hk => by have := HLT.out k hk; omega), hg2.size⟩
  clear e1 ho2 hg2 ho c0
  revert HO
  subst hv1
  intro HO
  go_wp2
  go_end0
  revert HO
  generalize (Value.slice ao1 (vs.length + 1) cap1) = v1
  intro HO
  have hne : v1.ownBlock ≠ some b := fun e => by have := (HO.out.lt b e).1; omega
  refine ⟨rfl, v1, ?_, ownsRow_setCell_other HO.out hne _, HG.out.1.setCell (Nat.le_refl _) _, by simpa using HG.out.2⟩
  rw [setCell_blk HE.out]; simp

/-- What way holds between two nodes. -/
structure WI (w : World) (l : List Tr) (i : Nat) (W : World) : Prop where
  below : Below w.heap.size w W
  box : ∃ v, W.heap[w.heap.size]? = some (.cells #[v] 65) ∧ OwnV W (w.heap.size + 1) 35 v ((l.take i).map nodeP)

set_option maxRecDepth 100000 in
theorem way_calls (t : Tr) (k : ByteArray) (w : World) (init : List Tr) (c : Tr) (hA : Along k.data.toList t (init ++ [c])) (h : TAt R w t) (hw : WF t) (hp : t.path <+: k.data.toList) (hks : k.size ≤ 140737488351296) (hd : init.length + 1 ≤ 17592186044416) (hR : ∀ b, R b → b ≤ w.heap.size) :
    Calls Try.prog 27 #[.pointer (some ⟨t.a, 0, none⟩), .string k] w fun e w' => ∃ g cap, e = .returned (.tuple #[.slice (some ⟨g, 0, none⟩) init.length cap, .pointer (some ⟨c.a, 0, none⟩)]) ∧ Below w.heap.size w w' ∧ KidsAt R w' (some ⟨g, 0, none⟩) init ∧ g < w'.heap.size := by
  have hmf : ∀ (fn : Fn) (first cap : Array Value) (w : World), (Instr.makeFunc fn first cap).run Try.prog w = .ok (.func fn first cap) w := fun _ _ _ _ => rfl
  obtain ⟨w1, HW1⟩ : ∃ w1, Hid (w1 = w.alloc (.cells #[.slice none 0 0] 65)) := ⟨_, rfl⟩
  have hb1 : Below w.heap.size w w1 := by rw [HW1.out]; exact (Below.refl _ _).alloc (Nat.le_refl _) _
  have hs1 : w1.heap.size = w.heap.size + 1 := by rw [HW1.out]; simp [World.size_alloc]
  have hbox : w1.heap[w.heap.size]? = some (.cells #[.slice none 0 0] 65) := by rw [HW1.out]; exact heap_alloc_new w _
  have HA := along_calls 51 enters_way (.pointer (some ⟨w.heap.size, 0, none⟩)) t k (init ++ [c]) (WI w (init ++ [c])) w1 hA hw hp hks
    ⟨hb1, _, hbox, by simpa using OwnV.nil w1 _ _⟩
    (fun i W W' hi hb => ⟨hi.below.trans (hb.mono hi.below.size), by
      obtain ⟨v, h1, h2⟩ := hi.box
      exact ⟨v, by rw [hb.block _ (lt_of_heap h1)]; exact h1, h2.touched (Touched.ofBelow hb []) (by simp)⟩⟩)
    (fun i W hi => h.keep hi.below)
    (fun i hi W hI _ => by
      obtain ⟨v, h1, h2⟩ := hI.box
      have hlt := lt_of_heap h1
      have hli : (((init ++ [c]).take i).map nodeP).length = i := by simp at hi ⊢; omega
      refine (wayK_calls (init ++ [c])[i] _ (w.heap.size + 1) v _ W h1 h2 (by omega) (by omega) (by rw [hli]; simp at hi; omega)).mono ?_
      rintro e W' ⟨rfl, v', h3, h4, h5, h6⟩
      refine ⟨rfl, hI.below.trans h5, v', h3, ?_⟩
      rw [List.take_succ_eq_append_getElem hi, List.map_append]
      exact h4)
  clear hA h hw hp hbox hb1 hs1
  go_enter Try.func27, Try.ntmps27
  go_wp2_with fail
  rw [← HW1.out]
  refine HA.mono ?_
  clear HA
  rintro e w2 ⟨rfl, hI⟩
  obtain ⟨v, h1, h2⟩ := hI.box
  rw [List.take_length] at h2
  obtain ⟨ao, cap, rfl⟩ := h2.shape
  have hlen : ((init ++ [c]).map nodeP).length = init.length + 1 := by simp
  rw [hlen] at h1 h2
  obtain ⟨g, rfl, hlast⟩ := h2.at init.length (by simp)
  have hlast' : w2.cell? ⟨g, init.length, none⟩ = some (.pointer (some ⟨c.a, 0, none⟩)) := by rw [hlast]; simp [nodeP]
  have c0 : w2.cell? ⟨w.heap.size, 0, none⟩ = some (.slice (some ⟨g, 0, none⟩) (init.length + 1) cap) := by rw [cell_of_blk h1]; rfl
  have hcap : init.length + 1 ≤ cap := by
    rcases h2.2 with ⟨he, _⟩ | ⟨g', cap', cur, he, _, _, hnc, _⟩
    · cases he
    · simp only [Value.slice.injEq] at he
      obtain ⟨_, _, rfl⟩ := he
      simpa using hnc
  have HK : Hid (KidsAt R w2 (some ⟨g, 0, none⟩) init) := by
    intro i hi
    obtain ⟨g', hg', hc'⟩ := h2.at i (by simp; omega)
    simp only [Option.some.injEq, Addr.mk.injEq] at hg'
    obtain ⟨rfl, _, _⟩ := hg'
    refine ⟨_, _, rfl, ?_, fun e => by have h8 := hR _ e; have h9 : w.heap.size + 1 ≤ _ := (h2.lt _ rfl).1; exact absurd (Nat.lt_of_lt_of_le (Nat.lt_succ_self _) h9) (Nat.not_lt.2 h8)⟩
    rw [Nat.zero_add, hc', List.getElem_map, List.getElem_append_left hi]
    rfl
  have HB : Hid (Below w.heap.size w w2) := hI.below
  have hgl : g < w2.heap.size := World.block_lt_of_cell? w2 _ hlast'
  clear hI h1 h2 hlast hlen
  go_wp2
  go_quiet (fail)
  go_wp2
  go_ret2
  exact ⟨g, cap, rfl, ⟨HB.out.os, HB.out.tape, HB.out.output, HB.out.size, HB.out.block⟩, HK.out, hgl⟩
end Go.Proofs.Ytcdfbbjakkmmoaa

/- strings.Clone, slices.Grow of nil. -/
namespace Go.Proofs.Ytcdfbbjakkmmoaa
open Go.RowKit
set_option linter.unusedVariables false

theorem infoU8 : (Try.prog.info? 5).map (fun i => (i.zero, i.size, i.bytes)) = some (some (.int .u8 0), 1, 1) := by kernel_rfl

set_option maxHeartbeats 4000000 in
set_option maxRecDepth 100000 in
/-- A copy of a text is the text. -/
theorem cloneL_calls (s : ByteArray) (w : World) (hs : s.size ≤ 140737488355328) :
    Calls Try.prog 71 #[.string s] w fun e w' => e = .returned (.string s) ∧ Below w.heap.size w w' := by
  by_cases h0 : s.size = 0
  · have e : s = ⟨#[]⟩ := ByteArray.ext (Array.eq_empty_of_size_eq_zero h0)
    subst e
    go_enter Try.func71, Try.ntmps71
    go_wp2
    go_ret
    exact ⟨rfl, Below.refl _ _⟩
  obtain ⟨i0, hi, hz0, hz1, hz2⟩ := infoOf infoU8
  have hsize : (Try.prog.info? 5).map (·.size) = some 1 := by rw [hi]; simp [hz1]
  have hco : Try.prog.cellsOf 5 = 1 := by simp [Program.cellsOf, hi, hz1]
  obtain ⟨M, HM⟩ : ∃ M, M = madeCells (Value.int .u8 0).cells (((s.size : Nat) : Int).toNat * i0.size) := ⟨_, rfl⟩
  have hMs : M.size = s.size := by rw [HM, size_madeCells, hz1]; simp
  have hmake : ∀ W : World, (Instr.makeSlice 129 (.int .i64 (s.size : Int)) (.int .i64 (s.size : Int))).run Try.prog W = .ok (.slice (some ⟨W.heap.size, 0, none⟩) s.size s.size) (W.alloc (.cells M 5)) := fun W => by
    have h := run_make (P := Try.prog) W 129 5 i0 (.int .u8 0) Try.underlying129 hi hz0 .i64 .i64 (s.size : Int) (s.size : Int) (by omega) (by omega) (by rw [hz2]; omega) (by omega)
    rw [← HM] at h
    simpa using h
  clear HM
  have hcopy := Lib.run_copy_row_string (P := Try.prog) (w.alloc (.cells M 5)) 129 9 3 5 w.heap.size 0 s.size s.size s M 5 Try.underlying129 hsize (heap_alloc_new w _) (Nat.le_refl _) (by omega)
  obtain ⟨Y, HY⟩ : ∃ Y, Y = (M.toList.take 0 ++ Lib.byteCells s.data.toList ++ M.toList.drop (0 + s.size)).toArray := ⟨_, rfl⟩
  rw [← HY] at hcopy
  have hYl : Y.toList = Lib.byteCells s.data.toList := by
    rw [HY, List.toList_toArray, List.take_zero, List.nil_append, List.drop_of_length_le (by rw [Array.length_toList]; omega), List.append_nil]
  have hYs : Y.size = s.size := by rw [← Array.length_toList, hYl, Lib.byteCells_length, ← Lib.size_eq]
  have hYb : ((w.alloc (.cells M 5)).setRow w.heap.size Y).heap[w.heap.size]? = some (.cells Y 5 (0, 0)) := setRow_heap _ _ M _ 5 (0, 0) (heap_alloc_new w _)
  have hne : s.data.toList ≠ [] := fun e => h0 (by rw [Lib.size_eq, e]; rfl)
  have hstr := Lib.run_unsafeString_row (P := Try.prog) ((w.alloc (.cells M 5)).setRow w.heap.size Y) 130 3 9 5 Try.underlying130 hco w.heap.size Y.size (by unfold World.shape?; rw [hYb]) s.data.toList hne (by rw [← Lib.size_eq]; omega) (by rw [← Lib.size_eq]; omega)
    (fun j x hx => Lib.cells_of_row hYb Y.size j _ (by rw [List.take_of_length_le (by rw [Array.length_toList]; exact Nat.le_refl _), hYl]; simp [Lib.byteCells, hx]))
  rw [← Lib.size_eq] at hstr
  clear HY
  go_enter Try.func71, Try.ntmps71
  go_wp2
  go_ret
  have hb1 : Below w.heap.size w (w.alloc (.cells M 5)) := (Below.refl _ w).alloc (Nat.le_refl _) _
  have hb2 : Below w.heap.size (w.alloc (.cells M 5)) ((w.alloc (.cells M 5)).setRow w.heap.size Y) := ⟨rfl, rfl, rfl, by simp, fun k hk => setRow_other _ _ _ _ (by omega)⟩
  exact ⟨rfl, Lib.below_freeze (hb1.trans hb2) (p := ⟨w.heap.size, 0, none⟩) (Nat.le_refl _) _⟩

theorem clone_calls (s : ByteArray) (w : World) (hs : s.size ≤ 140737488355328) :
    Calls Try.prog 61 #[.string s] w fun e w' => e = .returned (.string s) ∧ Below w.heap.size w w' := by
  have H := cloneL_calls s w hs
  clear hs
  go_enter Try.func61, Try.ntmps61
  go_wp2_with fail
  refine H.mono ?_
  clear H
  rintro e w1 ⟨rfl, hb⟩
  go_wp2
  go_ret
  exact ⟨rfl, hb⟩

theorem infoPN' : (Try.prog.info? 35).map (fun i => (i.zero, i.size, i.bytes)) = some (some (.pointer none), 1, 8) := by kernel_rfl

set_option maxHeartbeats 4000000 in
set_option maxRecDepth 100000 in
/-- Grow of nil: an empty slice of its own. -/
theorem grow_calls (n : Nat) (w : World) (hn : n ≤ 1000) :
    Calls Try.prog 68 #[.slice none 0 0, .int .i64 n] w fun e w' => ∃ v, e = .returned v ∧ OwnV w' w.heap.size 35 v [] ∧ Below w.heap.size w w' ∧ ∃ ao cap, v = .slice ao 0 cap := by
  by_cases h0 : n = 0
  · subst h0
    go_enter Try.func68, Try.ntmps68
    go_wp2
    go_ret
    exact ⟨_, rfl, OwnV.nil _ _ _, Below.refl _ _, _, _, rfl⟩
  obtain ⟨i0, hi, hz0, hz1, hz2⟩ := infoOf infoPN'
  have hG1 := grownCap_ge w n 0 35
  have hG2 := grownCap_le_maxLen w n 0 35 (by unfold maxLen; omega)
  have hrun := Lib.run_append_grow_zeros (P := Try.prog) w 65 3 65 35 i0 (.pointer none) .i64 .i64 Try.underlying65 Try.underlying3 hi hz0 none 0 0 []
    (run_firstCells_none w.drew i0.size 0 0 0) n (by omega) (by omega) (by omega) (by omega) (by rw [hz2]; omega) (by simp only [Nat.zero_add]; exact growslice_fits (by omega) (by rw [hz2]; omega))
  simp only [Nat.zero_add] at hrun
  obtain ⟨G, hG⟩ : ∃ G, G = grownCap w n 0 35 := ⟨_, rfl⟩
  rw [← hG] at hrun hG1 hG2
  clear hG
  obtain ⟨Z, HZ⟩ : ∃ Z : Array Value, Hid (Z = (#[] : Array Value) ++ Builtin.zeroCells (Value.pointer none).cells n ++ Builtin.zeroCells (Value.pointer none).cells (G - n)) := ⟨_, rfl⟩
  have hZs : Z.size = G := by rw [HZ.out]; simp [Builtin.zeroCells, Value.cells]; omega
  have hrun' : (Builtin.append_ #[65, 3] 65 #[.slice none 0 0, .int .i64 n]).run Try.prog w = .ok (.slice (some ⟨w.heap.size, 0, none⟩) n G) (w.drew.alloc (.cells Z 35)) := by rw [HZ.out]; exact hrun
  clear hrun HZ
  have hg63 : G ≤ 9223372036854775807 := by unfold maxLen at hG2; omega
  go_enter Try.func68, Try.ntmps68
  go_wp2_with (at_builtin; refine Lib.wpList_append_run _ rfl _ _ _ _ rfl _ _ rfl rfl _ _ hrun' ?_)
  go_ret
  refine ⟨_, rfl, ?_, (Below.refl _ w).drew.alloc (Nat.le_refl _) _, _, _, rfl⟩
  refine ⟨by simp, .inr ⟨w.heap.size, G, Z, rfl, Nat.le_refl _, heap_alloc_new w.drew _, by simp, hG2, by simp [hZs], by simp⟩⟩
end Go.Proofs.Ytcdfbbjakkmmoaa

/- Layer 3 (radix): slices.Concat over lists of nodes. -/
namespace Go.Proofs.Ytcdfbbjakkmmoaa
open Go.RowKit
set_option linter.unusedVariables false
variable {R : Rg} {O : Nat → Prop}

/-- A slice of nodes: where it lies, its capacity, the nodes. -/
structure SlV where
  ao : Option Addr
  cap : Nat
  ks : List Tr
def SlV.val (x : SlV) : Value := .slice x.ao x.ks.length x.cap
structure SlV.At (R : Rg) (w : World) (x : SlV) : Prop where
  kids : KidsAt R w x.ao x.ks
  room : x.ks.length ≤ x.cap
  nil : x.ao = none → x.cap = 0
theorem SlV.At.below {w w' : World} {x : SlV} (h : x.At R w) (hb : Below w.heap.size w w') : x.At R w' := ⟨h.kids.below hb, h.room, h.nil⟩

def allOf (S : List SlV) : List Tr := S.flatMap (·.ks)
theorem allOf_snoc (S : List SlV) (j : Nat) (h : j < S.length) : allOf (S.take (j + 1)) = allOf (S.take j) ++ S[j].ks := by
  unfold allOf
  rw [List.take_succ_eq_append_getElem h, List.flatMap_append]
  simp
theorem allOf_take_le (S : List SlV) (j : Nat) : (allOf (S.take j)).length ≤ (allOf S).length := by
  have : allOf S = allOf (S.take j) ++ allOf (S.drop j) := by unfold allOf; rw [← List.flatMap_append, List.take_append_drop]
  rw [this]; simp
theorem allOf_at_le (S : List SlV) (j : Nat) (h : j < S.length) : (allOf (S.take j)).length + S[j].ks.length ≤ (allOf S).length := by
  have := allOf_take_le S (j + 1)
  rw [allOf_snoc S j h] at this
  simpa using this

theorem kids_news {w : World} {b off : Nat} {ks : List Tr} (h : KidsAt R w (some ⟨b, off, none⟩) ks) : ∀ j u, (ks.map nodeP)[j]? = some u → w.cell? ((⟨b, off, none⟩ : Addr).add j) = some u := by
  intro j u hj
  rw [List.getElem?_map] at hj
  rcases Nat.lt_or_ge j ks.length with hl | hl
  · rw [List.getElem?_eq_getElem hl] at hj
    simp at hj
    subst hj
    obtain ⟨b', off', he, hc, _⟩ := h j hl
    simp only [Option.some.injEq, Addr.mk.injEq] at he
    obtain ⟨rfl, rfl, _⟩ := he
    have hadd : (⟨b, off, none⟩ : Addr).add j = ⟨b, off + j, none⟩ := by unfold Addr.add; split <;> simp_all
    rw [hadd]
    exact hc
  · rw [List.getElem?_eq_none hl] at hj
    cases hj

/-- An owned slice of nodes reads as a slice of nodes. -/
theorem own_slice {w : World} {B : Nat} {v : Value} {ks : List Tr} (hR : ∀ b, R b → b < B) (h : OwnV w B 35 v (ks.map nodeP)) : ∃ x : SlV, v = x.val ∧ x.ks = ks ∧ x.At R w := by
  rcases h.2 with ⟨hv, h0⟩ | ⟨g, cap, cur, hv, hb, hg, hnc, r⟩
  · have : ks = [] := List.length_eq_zero_iff.1 (by simpa using h0)
    subst this
    exact ⟨⟨none, 0, []⟩, hv, rfl, fun i hi => by simp at hi, Nat.le_refl _, fun _ => rfl⟩
  · subst hv
    refine ⟨⟨some ⟨g, 0, none⟩, cap, ks⟩, by simp [SlV.val], rfl, ?_, by simpa using hnc, fun e => by cases e⟩
    intro i hi
    obtain ⟨g', hg', hc⟩ := h.at i (by simpa using hi)
    simp only [Option.some.injEq, Addr.mk.injEq] at hg'
    obtain ⟨rfl, _, _⟩ := hg'
    refine ⟨_, _, rfl, ?_, fun e => by have h8 := hR _ e; have h9 : B ≤ _ := (h.lt _ rfl).1; exact absurd h8 (Nat.not_lt.2 h9)⟩
    rw [Nat.zero_add, hc, List.getElem_map]
    rfl

set_option maxRecDepth 100000 in
set_option maxHeartbeats 1600000 in
theorem concat_calls (g c : Nat) (S : List SlV) (w : World) (hc0 : ∀ i (h : i < S.length), w.cell? ⟨g, i, none⟩ = some (.slice S[i].ao S[i].ks.length S[i].cap)) (hS : ∀ x ∈ S, x.At R w) (hl : (allOf S).length ≤ 1000) (hm : S.length ≤ 1000) (hR : ∀ b, R b → b < w.heap.size) :
    Calls Try.prog 55 #[.slice (some ⟨g, 0, none⟩) S.length c] w fun e w' => ∃ x : SlV, e = .returned x.val ∧ x.ks = allOf S ∧ x.At R w' ∧ Below w.heap.size w w' := by
  obtain ⟨i0, hi0, hz0, hz1, hz2⟩ := infoOf infoPN
  have HC : Hid (∀ i (h : i < S.length), w.cell? ⟨g, i, none⟩ = some (.slice S[i].ao S[i].ks.length S[i].cap)) := hc0
  clear hc0
  go_enter Try.func55, Try.ntmps55
  go_wp2
  go_loop [3, 11] (fun n i => ∃ j : Nat, j ≤ S.length ∧ i = .int .i64 j ∧ n = .int .i64 ((allOf (S.take j)).length : Int)) (fun _ i => S.length - (intOf i).toNat)
  case atStart => exact ⟨0, Nat.zero_le _, rfl, rfl⟩
  case round =>
    obtain ⟨j, hj, rfl, rfl⟩ := hrel
    have hle := allOf_take_le S j
    by_cases hlt : j < S.length
    · have hcj := HC.out j hlt
      have hle2 := allOf_at_le S j hlt
      have HSN : Hid ((allOf (S.take (j + 1))).length = (allOf (S.take j)).length + S[j].ks.length) := by show _ = _; rw [allOf_snoc S j hlt]; simp
      go_wp2
      go_round
      case rel => exact ⟨j + 1, by omega, by go_num, by rw [HSN.out]; go_num⟩
      case measure => simp [intOf]; omega
    · have hjl : j = S.length := by omega
      subst hjl
      rw [List.take_length]
      have HG := grow_calls (allOf S).length w hl
      go_wp2_with fail
      refine HG.mono ?_
      clear HG
      rintro e w1 ⟨v, rfl, ho, hb1, ao0, cap0, hv⟩
      subst hv
      have HO : Hid (OwnV w1 w.heap.size 35 (.slice ao0 0 cap0) []) := ho
      have HB1 : Hid (Below w.heap.size w w1) := hb1
      clear ho hb1
      go_wp2
      go_loopw [6, 27] (fun x i wr => ∃ (q : Nat) (y : Value), y = x ∧ q ≤ S.length ∧ i = .int .i64 q ∧ Hid (OwnV wr w.heap.size 35 x ((allOf (S.take q)).map nodeP)) ∧ Hid (Below w.heap.size w wr)) (fun _ i _ => S.length - (intOf i).toNat)
      case atStart => exact ⟨0, _, rfl, Nat.zero_le _, rfl, by show OwnV _ _ _ _ _; simpa [allOf] using HO.out, HB1⟩
      case round =>
        obtain ⟨q, x, rfl, hq, rfl, HX, HB⟩ := hrel
        by_cases hlt2 : q < S.length
        · have hcq := HC.out q hlt2
          have hlq := allOf_at_le S q hlt2
          have hAt := (hS _ (List.getElem_mem hlt2)).below HB.out
          have hBs := HB.out.size
          have hg0 : g < w.heap.size := World.block_lt_of_cell? w _ hcq
          have hcq' : wr.cell? ⟨g, q, none⟩ = some (.slice S[q].ao S[q].ks.length S[q].cap) := by rw [HB.out.cell (by exact hg0)]; exact hcq
          have HSN : Hid (allOf (S.take (q + 1)) = allOf (S.take q) ++ S[q].ks) := allOf_snoc S q hlt2
          have HLQ : Hid ((allOf (S.take q)).length + S[q].ks.length ≤ (allOf S).length) := hlq
          clear hcq
          revert hcq' hAt HSN HLQ hlq
          generalize S[q] = y
          intro hlq hAt hcq' HSN HLQ
          obtain ⟨yao, ycap, yks⟩ := y
          simp only at hcq' hlq HSN
          cases yao with
          | none =>
            have hn0 := hAt.nil rfl
            simp only at hn0
            subst hn0
            have hk0 : yks = [] := List.length_eq_zero_iff.1 (by have := hAt.room; simpa using this)
            subst hk0
            simp only [List.length_nil] at hcq'
            clear hAt hlq
            go_wp2_with (at_builtin; refine wpList_append_own_none rfl (.tmp 31) (.tmp 32) 65 rfl w.heap.size 35 i0 1 Try.underlying65 hi0 _ _ _ rfl HX.out rfl ?_)
            go_roundw
            case rel => exact ⟨q + 1, _, rfl, by omega, by go_num, by show OwnV _ _ _ _ _; rw [HSN.out]; simpa using HX.out, HB⟩
            case measure => simp [intOf]; omega
          | some ad =>
            have hnews : ∀ j u, (yks.map nodeP)[j]? = some u → wr.cell? (ad.add j) = some u := by
              rcases Nat.lt_or_ge 0 yks.length with h0 | h0
              · obtain ⟨b, off, he, _⟩ := hAt.kids 0 h0
                simp only [Option.some.injEq] at he
                subst he
                exact kids_news hAt.kids
              · have : yks = [] := List.length_eq_zero_iff.1 (by omega)
                subst this
                intro j u hj
                simp at hj
            clear hAt
            go_wp2_with (at_builtin; refine wpList_append_grew _ rfl (.tmp 31) (.tmp 32) 65 rfl w.heap.size 35 i0 (.pointer none) 1 8 Try.underlying65 hi0 hz0 hz1 hz2 rfl (by decide) _ _ _ rfl HX.out ad yks.length ycap (yks.map nodeP) rfl (by simp) hnews (by intro u hu; obtain ⟨t, _, rfl⟩ := List.mem_map.1 hu; rfl) (by unfold maxLen; simp; omega) (by simp; omega) hBs ?_)
            intro v1 w2 ho2 hg2 _
            have HX2 : Hid (OwnV w2 w.heap.size 35 v1 ((allOf (S.take (q + 1))).map nodeP)) := by
              show OwnV _ _ _ _ _
              rw [HSN.out, List.map_append]
              have e : (List.map nodeP (allOf (S.take q)) ++ yks.map nodeP).length = (allOf (S.take q)).length + yks.length := by simp
              unfold OwnV
              rw [e]
              exact ho2
            have HB2 : Hid (Below w.heap.size w w2) := HB.out.trans (hg2.toBelow hBs (fun k hk => (HX.out.lt k hk).1))
            clear ho2 hg2 hnews
            go_wp2
            go_roundw
            case rel => exact ⟨q + 1, _, rfl, by omega, by go_num, HX2, HB2⟩
            case measure => simp [intOf]; omega
        · have hql : q = S.length := by omega
          subst hql
          go_wp2
          go_ret
          have h1 := HX.out
          rw [List.take_length] at h1
          obtain ⟨y, rfl, hy, hAt⟩ := own_slice hR h1
          exact ⟨y, rfl, hy, hAt, HB.out⟩
end Go.Proofs.Ytcdfbbjakkmmoaa
