/- Layer 7 (rows): the chapter's example: its text, its table, its row, its key. -/
import Derived.Test.YtindefkngcelnaaRwAll3
namespace Go.Proofs.Ytindefkngcelnaa
open Go.RowKit
set_option linter.unusedVariables false

def fixT : ByteArray := ⟨#[116, 97, 98, 108, 101, 32, 113, 10, 102, 105, 101, 108, 100, 32, 97, 32, 116, 101, 120, 116, 10, 102, 105, 101, 108, 100, 32, 108, 32, 108, 105, 115, 116, 10, 105, 110, 100, 101, 120, 32, 105, 100, 32, 97, 32, 117, 110, 105, 113, 117, 101, 10, 105, 110, 100, 101, 120, 32, 116, 97, 103, 32, 108, 44, 97, 32, 108, 111, 119, 101, 114, 32, 108, 111, 111, 115, 101]⟩
def fixTb : Tb := ⟨⟨#[113]⟩, [⟨⟨#[97]⟩, 1⟩, ⟨⟨#[108]⟩, 3⟩], [⟨idW, [0], true, false, false⟩, ⟨⟨#[116, 97, 103]⟩, [1, 0], false, true, true⟩]⟩
def fixCs (la : Option Addr) (lc : Nat) : List CV := [⟨⟨#[78]⟩, 0, [], none, 0⟩, ⟨⟨#[]⟩, 0, [⟨#[88]⟩, ⟨#[]⟩, ⟨#[120]⟩], la, lc⟩]
def fixK : List UInt8 := [1, 120, 0, 1, 1, 110, 0, 1, 1, 78, 0, 1]
def fixPs : List Pt := [⟨1, ⟨#[120]⟩, 0⟩, ⟨1, ⟨#[110]⟩, 0⟩, ⟨1, ⟨#[78]⟩, 0⟩]
set_option maxRecDepth 100000 in
theorem fix_parse : parseP fixT = .ok [fixTb] := by kernel_rfl
set_option maxRecDepth 100000 in
theorem fix_lists (la : Option Addr) (lc : Nat) : listsP fixTb ⟨⟨#[116, 97, 103]⟩, [1, 0], false, true, true⟩ (fixCs la lc) = [fixPs, fixPs] := by kernel_rfl
set_option maxRecDepth 100000 in
theorem fix_lists0 (la : Option Addr) (lc : Nat) : listsP fixTb ⟨idW, [0], true, false, false⟩ (fixCs la lc) = [[⟨1, ⟨#[78]⟩, 0⟩]] := by kernel_rfl
set_option maxRecDepth 100000 in
theorem fix_whole0 (la : Option Addr) (lc : Nat) : wholeB fixTb ⟨idW, [0], true, false, false⟩ (fixCs la lc) = true := by kernel_rfl
set_option maxRecDepth 100000 in
theorem fix_fitC (la : Option Addr) (lc : Nat) : fitC fixTb.fs (fixCs la lc) = 0 := by kernel_rfl
set_option maxRecDepth 100000 in
theorem fix_enc : encAns false fixPs = (fixK, 0) := by kernel_rfl
set_option maxRecDepth 100000 in
theorem fix_enc0 : badB [⟨1, ⟨#[78]⟩, 0⟩] = false := by kernel_rfl
set_option maxRecDepth 100000 in
theorem fix_compact : Lib.compact [fixK, fixK] = [fixK] := by kernel_rfl
set_option maxRecDepth 100000 in
theorem fix_low : lowS ⟨#[97, 90, 91]⟩ = ⟨#[97, 122, 91]⟩ := by kernel_rfl
theorem fix_sorted : sortedK [fixPs, fixPs] = [fixK] := by
  unfold sortedK
  rw [show [fixPs, fixPs].map keyOf = [fixK, fixK] by simp [keyOf, fix_enc], List.mergeSort_of_pairwise, fix_compact]
  simp
theorem fix_index (la : Option Addr) (lc : Nat) : indexP fixTb ⟨⟨#[116, 97, 103]⟩, [1, 0], false, true, true⟩ (fixCs la lc) = ([fixK], 0) := by
  unfold indexP
  rw [if_neg (by simp), fix_lists, if_neg (by simp [badB, fix_enc]), fix_sorted]
theorem fix_index0 (la : Option Addr) (lc : Nat) : (indexP fixTb ⟨idW, [0], true, false, false⟩ (fixCs la lc)).2 = 0 := by
  unfold indexP
  rw [if_neg (by simp [fix_whole0]), fix_lists0, if_neg (by simp [fix_enc0])]
theorem fix_fit (la : Option Addr) (lc : Nat) : fitP fixTb (fixCs la lc) = 0 := by
  unfold fitP
  rw [if_neg (by rw [fix_fitC]; simp)]
  show fitX fixTb _ [_, _] = 0
  unfold fitX
  rw [if_neg (by rw [fix_index0]; simp)]
  unfold fitX
  rw [if_neg (by rw [fix_index]; simp)]
  rfl
theorem fix_keys (la : Option Addr) (lc : Nat) : keysP fixTb 1 (fixCs la lc) = ([fixK], 0) := by
  unfold keysP
  rw [if_neg (by decide), if_neg (by rw [fix_fit]; simp)]
  exact fix_index la lc
end Go.Proofs.Ytindefkngcelnaa
