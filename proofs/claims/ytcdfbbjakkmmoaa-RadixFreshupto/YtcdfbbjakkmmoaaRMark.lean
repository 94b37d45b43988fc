import Derived.Test.YtcdfbbjakkmmoaaREntry
import Derived.RangeFuncNested
import Derived.RangeFuncBound
import Derived.RangeFuncCalls
import Derived.RangeFuncLeaves
import Derived.RangeFuncBox
import Derived.Shelf.Abstract
import Derived.Shelf.RegionOpen
import Derived.OwnWalkIn
import Derived.TacticsInMore
import Derived.LoopNIn
import Derived.LoopIn
import Derived.RangeFuncWrites
/- Layer 3 (radix): slices.Backward over a list of nodes: its iterator. -/
namespace Go.Proofs.Ytcdfbbjakkmmoaa
open Go.RowKit Go.Shelf
set_option linter.unusedVariables false
variable {R : Rg} {O : Nat → Prop}
attribute [local go_sem] Oper.semAt_some

theorem backward_calls (ao : Option Addr) (n cap : Nat) (w : World) :
    Calls Try.prog 31 #[.slice ao n cap] w fun e w' => e = .returned (.func (.func 53) #[] #[.pointer (some ⟨w.heap.size, 0, none⟩)]) ∧ w' = w.alloc (.cells #[.slice ao n cap] 65) := by
  have hmf : ∀ (fn : Fn) (first cap : Array Value) (w : World), (Instr.makeFunc fn first cap).run Try.prog w = .ok (.func fn first cap) w := fun _ _ _ _ => rfl
  go_enter Try.func31, Try.ntmps31
  go_wp2
  go_ret
  exact ⟨rfl, rfl⟩

/-- The places that have come when k rounds are over, the last first. -/
def downTo (n k : Nat) : List Nat := (List.range k).map fun j => n - 1 - j
theorem downTo_succ (n k : Nat) : downTo n (k + 1) = downTo n k ++ [n - 1 - k] := by simp [downTo, List.range_succ]
theorem downTo_length (n k : Nat) : (downTo n k).length = k := by simp [downTo]

/-- Two blocks stay as they were. -/
structure Kept2 (b c : Nat) (W W' : World) : Prop where
  one : W'.heap[b]? = W.heap[b]?
  two : W'.heap[c]? = W.heap[c]?
theorem Kept2.refl (b c : Nat) (W : World) : Kept2 b c W W := ⟨rfl, rfl⟩
theorem Kept2.trans {b c : Nat} {X Y Z : World} (h : Kept2 b c X Y) (k : Kept2 b c Y Z) : Kept2 b c X Z := ⟨k.one.trans h.one, k.two.trans h.two⟩
theorem cell_same {W W' : World} {b i : Nat} (h : W'.heap[b]? = W.heap[b]?) : W'.cell? ⟨b, i, none⟩ = W.cell? ⟨b, i, none⟩ := World.cell?_of_block h

def encN (init : List Tr) (i : Fin init.length) : Array Value := #[.int .i64 ((i.val : Nat) : Int), .pointer (some ⟨init[i.val].a, 0, none⟩)]

set_option maxRecDepth 100000 in
set_option maxHeartbeats 2000000 in
theorem back1_in (F : Fence) (n : Nat) (hF : F.fn 53) (hro : F.round = none) (hn : 1 ≤ n) (l Bs b cap : Nat) (init : List Tr) (hlen : init.length ≤ 17592186044416) (J Jx : List (Fin init.length) → World → Prop)
    (hY : ∀ pre x W, J pre W → pre.length < init.length → YieldAt F (n - 1) Try.prog l (encN init x) W fun e W' => (e = .returned (.bool true) ∧ J (pre ++ [x]) W' ∧ Kept2 b Bs W W') ∨ (e = .returned (.bool false) ∧ Jx (pre ++ [x]) W'))
    (W : World) (hBs : W.cell? ⟨Bs, 0, none⟩ = some (.slice (some ⟨b, 0, none⟩) init.length cap)) (hc : KidsAt R W (some ⟨b, 0, none⟩) init) (h0 : J [] W) :
    CallsIn F n Try.prog 53 #[.func (.yield l) #[] #[], .pointer (some ⟨Bs, 0, none⟩)] W fun e W' => (∃ v, e = .returned v) ∧
      ((∃ ys : List (Fin init.length), ys.map (·.val) = downTo init.length init.length ∧ J ys W') ∨ (∃ pre, True ∧ Jx pre W')) := by
  have HC : Hid (KidsAt R W (some ⟨b, 0, none⟩) init) := hc
  clear hc
  refine callsIn_of_wp Try.func53 rfl hF ?_ hro
  simp only [Try.ntmps53, List.size_toArray, List.length_cons, List.length_nil, Nat.reduceAdd, Nat.reduceSub, Array.replicate_succ, Array.replicate_zero, List.push_toArray, List.append_toArray, List.nil_append, List.cons_append]
  gi_wp2
  gi_loopw [3] (fun i wr => ∃ (k : Nat) (pre : List (Fin init.length)), k ≤ init.length ∧ i = .int .i64 ((init.length : Int) - 1 - k) ∧ Hid (pre.map (·.val) = downTo init.length k) ∧ Hid (J pre wr) ∧ Hid (Kept2 b Bs W wr))
    (fun i _ => ((intOf i) + 1).toNat)
  case atStart => exact ⟨0, [], Nat.zero_le _, by simp, rfl, h0, Kept2.refl _ _ _⟩
  case round =>
    obtain ⟨k, pre, hk, rfl, HP, HJ, HB⟩ := hrel
    have hcs : wr.cell? ⟨Bs, 0, none⟩ = some (.slice (some ⟨b, 0, none⟩) init.length cap) := (cell_same HB.out.two).trans hBs
    by_cases hlt : k < init.length
    · have hi : init.length - 1 - k < init.length := by omega
      obtain ⟨b', off', he, hcell, _⟩ := HC.out (init.length - 1 - k) hi
      simp only [Option.some.injEq, Addr.mk.injEq] at he
      obtain ⟨rfl, rfl, _⟩ := he
      have hpl : pre.length = k := by have := congrArg List.length HP.out; simpa [downTo_length] using this
      obtain ⟨fn, tmps, assign, body, hy, hR⟩ := hY pre ⟨init.length - 1 - k, hi⟩ wr HJ.out (by omega)
      have hii : ((init.length - 1 - k : Nat) : Int) = (init.length : Int) - 1 - k := by omega
      dsimp only [encN] at hy
      have hcw : wr.cell? ⟨b, (init.length - 1 - k), none⟩ = some (.pointer (some ⟨init[init.length - 1 - k].a, 0, none⟩)) := by
        rw [cell_same HB.out.one]; simpa using hcell
      have htn : ((init.length : Int) - 1 - k).toNat = init.length - 1 - k := by omega
      have hge : (0 : Int) ≤ (init.length : Int) - 1 - k := by omega
      rw [hii] at hy
      gi_wp2
      refine hR.mono ?_
      rintro e W3 (⟨rfl, hJ3, hk3⟩ | ⟨rfl, hJx3⟩)
      · have HJ3 : Hid (J (pre ++ [⟨init.length - 1 - k, hi⟩]) W3) := hJ3
        have HB3 : Hid (Kept2 b Bs W W3) := HB.out.trans hk3
        clear hJ3 hk3
        gi_wp2
        go_roundw
        case rel => exact ⟨k + 1, _, by omega, by congr 1; omega, by show _ = _; rw [List.map_append, HP.out, downTo_succ]; rfl, HJ3, HB3⟩
        case measure => simp only [intOf]; omega
      · gi_wp2
        refine bodyPost_ret (results_none rfl _ _ _) rfl ?_
        exact ⟨⟨_, rfl⟩, .inr ⟨_, trivial, hJx3⟩⟩
    · have hkl : k = init.length := by omega
      subst hkl
      have hneg : ¬ (0 : Int) ≤ (init.length : Int) - 1 - (init.length : Int) := by omega
      have hsub : (init.length : Int) - 1 - (init.length : Int) = -1 := by omega
      rw [hsub]
      gi_wp2
      go_end0
      exact ⟨⟨_, rfl⟩, .inl ⟨_, HP.out, HJ.out⟩⟩

/-- The iterator that Backward hands back. -/
theorem back_stops (F : Fence) (n : Nat) (hF : F.fn 53) (hro : F.round = none) (hn : 1 ≤ n) (Bs b cap : Nat) (init : List Tr) (hlen : init.length ≤ 17592186044416) (w : World)
    (hc : w.cell? ⟨Bs, 0, none⟩ = some (.slice (some ⟨b, 0, none⟩) init.length cap)) (hk : KidsAt R w (some ⟨b, 0, none⟩) init) :
    SeqStopsK F n Try.prog 53 #[.pointer (some ⟨Bs, 0, none⟩)] (encN init) (Kept2 b Bs) (fun ys => ys.map (·.val) = downTo init.length init.length) (fun _ => True) init.length w := fun l J Jx W hW _ _ hY h0 => by
  have hBs : Bs < w.heap.size := World.block_lt_of_cell? w _ hc
  exact back1_in F n hF hro hn l Bs b cap init hlen J Jx hY W ((hW.cell (p := ⟨Bs, 0, none⟩) hBs).trans hc) (hk.below hW) h0
end Go.Proofs.Ytcdfbbjakkmmoaa

/- A range over a function turns its own record and its block of deferred calls alone: what is held between two rounds need abide no more than that (so channels may be held). -/
namespace Go.Proofs.Ytcdfbbjakkmmoaa
open Go.RowKit
set_option linter.unusedVariables false

/-- A loop's record, or its block of deferred calls. -/
def isMark : Obj → Bool
  | .loop _ => true
  | .deferred _ => true
  | _ => false
theorem notCells_of_mark : ∀ {o : Obj}, isMark o = true → o.isCells = false
  | .loop _, _ => rfl
  | .deferred _, _ => rfl
/-- It abides the turn of a mark at or beyond B. -/
def OwnM {β : Type} (B : Nat) (I : β → World → Prop) : Prop :=
  ∀ s W W' row, I s W → W.grownBy W' row → (∀ r, row = some r → B ≤ r ∧ ∃ o : Obj, W.heap[r]? = some o ∧ isMark o = true) → I s W'
theorem OwnM.putObj {β : Type} {B : Nat} {I : β → World → Prop} (h : OwnM B I) {s : β} {W : World} {l : Nat} {o : Obj} (o' : Obj) (hs : I s W) (hB : B ≤ l) (hl : W.heap[l]? = some o) (ho : isMark o = true) : I s (W.putObj l o') :=
  h s W _ (some l) hs (grownBy_putObj' W l o') (fun r e => by cases e; exact ⟨hB, o, hl, ho⟩)
theorem OwnM.alloc {β : Type} {B : Nat} {I : β → World → Prop} (h : OwnM B I) {s : β} {W : World} (o : Obj) (hs : I s W) : I s (W.alloc o) :=
  h s W _ none hs (World.grownBy_alloc W o none) (fun r e => by cases e)
theorem OwnM.and {β : Type} {B : Nat} {I I' : β → World → Prop} (h : OwnM B I) (h' : OwnM B I') : OwnM B (fun s W => I s W ∧ I' s W) := fun s W W' row hs hg hr => ⟨h s W W' row hs.1 hg hr, h' s W W' row hs.2 hg hr⟩
theorem cell_keptM {W W' : World} {row : Option Nat} {a : Addr} {v : Value} (h : W.cell? a = some v) (hg : W.grownBy W' row) (hr : ∀ r, row = some r → ∃ o : Obj, W.heap[r]? = some o ∧ isMark o = true) : W'.cell? a = some v :=
  cell_kept h hg fun r e => by
    obtain ⟨o, h1, h2⟩ := hr r e
    exact ⟨o, h1, notCells_of_mark h2⟩
/-- Whatever is no mark stays. -/
theorem obj_keptM {W W' : World} {row : Option Nat} {b : Nat} {o : Obj} (h : W.heap[b]? = some o) (ho : isMark o = false) (hg : W.grownBy W' row) (hr : ∀ r, row = some r → ∃ o : Obj, W.heap[r]? = some o ∧ isMark o = true) : W'.heap[b]? = some o := by
  have hlt : b < W.heap.size := by
    rcases Nat.lt_or_ge b W.heap.size with h' | h'
    · exact h'
    · rw [Array.getElem?_eq_none h'] at h; cases h
  refine (hg.block b hlt (fun e => ?_)).trans h
  obtain ⟨o', h1, h2⟩ := hr b e.symm
  rw [h] at h1
  cases h1
  rw [ho] at h2
  cases h2
end Go.Proofs.Ytcdfbbjakkmmoaa
