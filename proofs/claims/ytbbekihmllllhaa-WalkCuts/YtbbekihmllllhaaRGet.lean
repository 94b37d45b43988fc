/- Layer 3 (radix): Len, Get. -/
import Derived.Test.YtbbekihmllllhaaRNewT
import Derived.Test.YtbbekihmllllhaaRWay
namespace Go.Proofs.Ytbbekihmllllhaa
open Go.RowKit
set_option linter.unusedVariables false

theorem len_calls (tb : Nat) (t : Tr) (n : Int) (w : World) (h : TreeAt w tb t n) : Calls Try.prog 42 #[.pointer (some ⟨tb, 0, none⟩)] w fun e w' => e = .returned (.int .i64 n) ∧ w' = w := by
  have c1 : w.cell? ⟨tb, 1, none⟩ = some (.int .i64 n) := by rw [cell_of_blk h.blk]; rfl
  clear h
  go_enter Try.func42, Try.ntmps42
  go_wp2
  go_ret
  exact ⟨rfl, rfl⟩

theorem get_tree (tb : Nat) (t : Tr) (n : Int) (k : ByteArray) (w : World) (init : List Tr) (c : Tr) (h : TreeAt w tb t n) (hw : WF t) (hp : t.path <+: k.data.toList) (hks : k.size ≤ 140737488351232) (hA : Along k.data.toList t (init ++ [c])) :
    Calls Try.prog 16 #[.pointer (some ⟨tb, 0, none⟩), .string k] w fun e w' => e = .returned (.tuple #[held (valAt c k), .bool (valAt c k).isSome]) ∧ Below w.heap.size w w' := by
  have c0 : w.cell? ⟨tb, 0, none⟩ = some (.pointer (some ⟨t.a, 0, none⟩)) := by rw [cell_of_blk h.blk]; rfl
  have HV := valueOf_calls t k w init c hA h.tat hw hp hks
  have hv : ∀ x, valAt c k = some x → VAt w x := fun x hx => by
    unfold valAt at hx
    split at hx
    · cases hx
    · exact (along_tat hA h.tat c (by simp)).val' x hx
  have HVV : Hid (∀ x, valAt c k = some x → VAt w x) := hv
  clear h hw hp hA hv
  go_enter Try.func16, Try.ntmps16
  go_wp2_with fail
  refine HV.mono ?_
  clear HV
  rintro e w1 ⟨rfl, hb1⟩
  have HG := get_calls (valAt c k) w1 (fun x hx => (HVV.out x hx).below hb1)
  have HB : Hid (Below w.heap.size w w1) := hb1
  clear hb1 c0
  go_wp2_with fail
  refine HG.mono ?_
  clear HG
  rintro e w2 ⟨rfl, rfl⟩
  go_wp2
  go_ret2
  exact ⟨rfl, HB.out⟩
end Go.Proofs.Ytbbekihmllllhaa
