/- What the bulk of an argument of type []api.Part bounds. -/
import Derived.Test.YtindefkngcelnaaRows
import Derived.Test.YtindefkngcelnaaKArgs
import Derived.Test.YtindefkngcelnaaKWrite
namespace Go.Proofs.Ytindefkngcelnaa
open Go.RowKit
set_option linter.unusedVariables false

def weight (ps : List Pt) : Nat := (ps.map fun p => p.t.size + 4).sum

theorem bulk_parts {H : Type} (ps : List Pt) : Rows.uptoBulkAll (ps.map (Pt.data (H := H))) = weight ps := by
  induction ps with
  | nil => simp [Rows.uptoBulkAll, weight]
  | cons p ps ih =>
    simp only [List.map_cons, Rows.uptoBulkAll, ih, weight, List.sum_cons]
    have : Rows.uptoBulk (Pt.data (H := H) p) = p.t.size + 4 := by
      simp [Pt.data, Rows.uptoBulk, Rows.uptoBulkAll]; omega
    omega

theorem weight_le {H : Type} {ps : List Pt} {spare : List (DataW H)} {d : DataW H} (hd : d = .nil ∧ ps = [] ∨ d = .slice (ps.map Pt.data) spare) : weight ps ≤ Rows.uptoBulk d := by
  rcases hd with ⟨_, rfl⟩ | rfl
  · simp [weight]
  · simp only [Rows.uptoBulk, bulk_parts]; omega

theorem weight_length (ps : List Pt) : ps.length ≤ weight ps := by
  induction ps with
  | nil => simp
  | cons p ps ih => simp only [weight, List.map_cons, List.sum_cons, List.length_cons] at ih ⊢; omega
theorem weight_mem {ps : List Pt} {p : Pt} (h : p ∈ ps) : p.t.size ≤ weight ps := by
  induction ps with
  | nil => simp at h
  | cons q ps ih =>
    simp only [weight, List.map_cons, List.sum_cons] at ih ⊢
    rcases List.mem_cons.1 h with rfl | h
    · omega
    · have := ih h; omega
theorem enc_weight (op : Bool) (ps : List Pt) : (enc op ps).length ≤ 3 * weight ps := by
  induction ps with
  | nil => simp [enc]
  | cons p ps ih =>
    rw [enc_cons, List.length_append]
    have := piece_length p (op && ps.isEmpty)
    simp only [weight, List.map_cons, List.sum_cons] at ih ⊢
    omega
end Go.Proofs.Ytindefkngcelnaa
