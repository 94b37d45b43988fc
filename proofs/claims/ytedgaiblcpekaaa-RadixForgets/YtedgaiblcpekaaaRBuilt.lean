/- Layer 3 (radix): built. -/
import Derived.Test.YtedgaiblcpekaaaRChain
namespace Go.Proofs.Ytedgaiblcpekaaa
open Go.RowKit
set_option linter.unusedVariables false

/-- The texts lie one behind the other at the address. -/
def StrsAt (w : World) (ao : Option Addr) (ks : List ByteArray) : Prop :=
  ∀ i (h : i < ks.length), ∃ b off, ao = some ⟨b, off, none⟩ ∧ w.cell? ⟨b, off + i, none⟩ = some (.string ks[i]) ∧ ks[i].size ≤ 140737488351232
theorem StrsAt.below {w w' : World} {ao : Option Addr} {ks : List ByteArray} (h : StrsAt w ao ks) (hb : Below w.heap.size w w') : StrsAt w' ao ks := by
  intro i hi
  obtain ⟨b, off, ha, h0, hs⟩ := h i hi
  have hl : b < w.heap.size := World.block_lt_of_cell? w _ h0
  exact ⟨b, off, ha, by rw [hb.cell (by exact hl)]; exact h0, hs⟩

/-- A tree that stands at the end of a walk of ours. -/
structure Good (w W : World) (tb : Nat) (T : Tr) (ne : Int) (d : Nat) : Prop where
  below : Below w.heap.size w W
  tree : TreeAt W tb T ne
  wf : WF T
  root : T.p = kE
  dep : Dep (d + 1) T
  lo : 0 ≤ ne
  hi : ne ≤ d

theorem Good.keep {w W W' : World} {tb : Nat} {T : Tr} {ne : Int} {d : Nat} (h : Good w W tb T ne d) (hb : Below W.heap.size W W') : Good w W' tb T ne d :=
  ⟨h.below.trans (hb.mono h.below.size), h.tree.keep hb, h.wf, h.root, h.dep, h.lo, h.hi⟩

theorem along_split {k : List UInt8} {t : Tr} (h : WF t) : ∃ init c, Along k t (init ++ [c]) := by
  obtain ⟨l, hl⟩ := Along.ex h k
  have hne := hl.ne
  exact ⟨l.dropLast, l.getLast hne, by rw [List.dropLast_concat_getLast hne]; exact hl⟩

theorem Good.insert {w W W' : World} {tb tb' : Nat} {T T' : Tr} {ne : Int} {d N : Nat} {k : ByteArray} {v : Vl} {o : Option Vl} (h : Good w W tb T ne d) (hb : Below W.heap.size W W') (ht : TreeAt W' tb' T' (ne + plusNew o)) (hi : InsR N k v T T') : Good w W' tb' T' (ne + plusNew o) (d + 1) := by
  have hw := hi.wf h.wf (root_pre h.root _)
  have hp : 0 ≤ plusNew o ∧ plusNew o ≤ 1 := by unfold plusNew; split <;> omega
  have h1 := h.lo
  have h2 := h.hi
  exact ⟨h.below.trans (hb.mono h.below.size), ht, hw.1, hw.2.trans h.root, hi.dep h.dep, by omega, by omega⟩

set_option maxRecDepth 100000 in
set_option maxHeartbeats 1600000 in
theorem built_calls (ao : Option Addr) (cap : Nat) (ks : List ByteArray) (w : World) (hk : StrsAt w ao ks) (hl : ks.length ≤ 8796093022208) :
    Calls Try.prog 16 #[.slice ao ks.length cap] w fun e w' => ∃ tb T ne, e = .returned (.pointer (some ⟨tb, 0, none⟩)) ∧ Good w w' tb T ne ks.length ∧ Chain (fun i _ => .int .i64 (i : Int)) ks T ne := by
  go_enter Try.func16, Try.ntmps16
  go_wp2_with fail
  refine (newTree_calls w).mono ?_
  rintro e w1 ⟨tb, a, g, rfl, hb1, ht1, -, -, -⟩
  have HG1 : Hid (Good w w1 tb (.nd a kE none [] g) 0 0) := ⟨hb1, ht1, leaf_wf _ _ _ _, rfl, leaf_dep (by omega), by omega, by omega⟩
  have HC1 : Hid (Chain (fun i _ => .int .i64 (i : Int)) (ks.take 0) (.nd a kE none [] g) 0) := by show Chain _ _ _ _; rw [List.take_zero]; exact .nil a g
  clear hb1 ht1
  go_wp2_with fail
  go_loopw [3, 9] (fun s i wr => ∃ (j tb' : Nat) (T : Tr) (ne : Int), j ≤ ks.length ∧ i = .int .i64 j ∧ s = .pointer (some ⟨tb', 0, none⟩) ∧ Hid (Good w wr tb' T ne j) ∧ Hid (Chain (fun i _ => .int .i64 (i : Int)) (ks.take j) T ne)) (fun _ i _ => ks.length - (intOf i).toNat)
  case atStart => exact ⟨0, tb, _, 0, Nat.zero_le _, rfl, rfl, HG1, HC1⟩
  case round =>
    obtain ⟨j, tb', T, ne, hj, rfl, rfl, HG, HCH⟩ := hrel
    by_cases hlt : j < ks.length
    · obtain ⟨b, off, rfl, hc, hsz⟩ := (hk.below HG.out.below) j hlt
      obtain ⟨init, c, hA⟩ := along_split (k := ks[j].data.toList) HG.out.wf
      have hlen := hA.len HG.out.dep
      have hlo := HG.out.lo
      have hhi := HG.out.hi
      have HC := insert_calls tb' T ne ks[j] (j : Int) wr init c HG.out.tree HG.out.wf (root_pre HG.out.root _) hsz hA (by simp at hlen; omega) hlo (by omega)
      have HA : Hid (Along ks[j].data.toList T (init ++ [c])) := hA
      clear hA hlen hsz
      go_wp2_with fail
      refine HC.mono ?_
      clear HC
      rintro e w3 ⟨tb2, T2, va, vg, rfl, hb3, ht3, hi3, -, -, -⟩
      have HG3 : Hid (Good w w3 tb2 T2 (ne + plusNew (valAt c ks[j])) (j + 1)) := HG.out.insert hb3 ht3 hi3
      have HCH3 : Hid (Chain (fun i _ => .int .i64 (i : Int)) (ks.take (j + 1)) T2 (ne + plusNew (valAt c ks[j]))) := by
        show Chain _ _ _ _
        rw [List.take_succ_eq_append_getElem hlt]
        exact .snoc HCH.out (by simp only [List.length_take, Nat.min_eq_left (Nat.le_of_lt hlt)]) HA.out hi3
      clear hb3 ht3 hi3 HG HCH HA
      go_wp2_with fail
      go_roundw
      case rel => exact ⟨j + 1, tb2, T2, _, by omega, by go_num, rfl, HG3, HCH3⟩
      case measure => simp [intOf]; omega
    · have hjl : j = ks.length := by omega
      subst hjl
      go_wp2_with fail
      go_ret
      exact ⟨tb', T, ne, rfl, HG.out, by have := HCH.out; rw [List.take_length] at this; exact this⟩
end Go.Proofs.Ytedgaiblcpekaaa
