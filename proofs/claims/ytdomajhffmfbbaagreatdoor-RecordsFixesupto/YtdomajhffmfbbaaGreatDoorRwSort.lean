/- Layer 7 (rows): slices.Sort and slices.Compact of a call's own texts. -/
import Derived.Test.YtdomajhffmfbbaaGreatDoorRcLow
import Derived.Test.YtdomajhffmfbbaaGreatDoorShelf
import Derived.Sort.OwnSorted
namespace Go.Proofs.YtdomajhffmfbbaaGreatDoor
open Go.RowKit
set_option linter.unusedVariables false

abbrev encS : List UInt8 → Value := fun l => Value.string ⟨l.toArray⟩
theorem row_short {w : World} {B g n cap : Nat} {e : TypeId} {l1 l2 : List Value} (h : w.ownsRow B e 1 (.slice (some ⟨g, 0, none⟩) n cap) n (l1 ++ l2)) : w.ownsRow B e 1 (.slice (some ⟨g, 0, none⟩) l1.length cap) l1.length l1 := by
  refine ⟨by simp, ?_⟩
  have hl := h.1
  rw [List.length_append, Nat.mul_one] at hl
  rcases h.2 with ⟨he, _⟩ | ⟨g', cap', cur, he, hb, hg, h1, h2, h3, h4⟩
  · cases he
  · simp only [Value.slice.injEq] at he
    obtain ⟨ha, _, rfl⟩ := he
    refine .inr ⟨g', cap, cur, by rw [ha], hb, hg, by omega, h2, h3, ?_⟩
    have h5 : (cur.toList.take (n * 1)).take l1.length = l1 := by rw [h4, List.take_left']; rfl
    rw [List.take_take, Nat.mul_one, show min l1.length n = l1.length by omega] at h5
    rw [Nat.mul_one]
    exact h5
theorem compactUpTo_le (d : Array (List UInt8)) (m : Nat) : (Lib.compactUpTo d m).length ≤ m := by
  induction m with
  | zero => simp [Lib.compactUpTo]
  | succ m ih =>
    rw [Lib.compactUpTo_succ, List.length_append]
    split <;> simp <;> omega
theorem compact_le (zs : List (List UInt8)) : (Lib.compact zs).length ≤ zs.length := by
  unfold Lib.compact
  exact compactUpTo_le _ _

theorem sort_calls (g cap B : Nat) (ks : List (List UInt8)) (w : World) (hl : ks.length ≤ 100000) (h : w.ownsRow B 9 1 (.slice (some ⟨g, 0, none⟩) ks.length cap) ks.length (ks.map encS)) :
    Calls Tryz.prog 42 #[.slice (some ⟨g, 0, none⟩) ks.length cap] w fun e w' => e = .returned (.tuple #[]) ∧ w'.ownsRow B 9 1 (.slice (some ⟨g, 0, none⟩) ks.length cap) ks.length ((ks.mergeSort fun x y => decide (x ≤ y)).map encS) ∧ Grew w w' (.slice (some ⟨g, 0, none⟩) ks.length cap) (.slice (some ⟨g, 0, none⟩) ks.length cap) := by
  rcases h.2 with ⟨he, _⟩ | ⟨g', cap', cur, he, hb, hg, h1, h2, h3, h4⟩
  · cases he
  · simp only [Value.slice.injEq, Option.some.injEq, Addr.mk.injEq] at he
    obtain ⟨⟨rfl, _⟩, _, rfl⟩ := he
    refine (Tryz.slices_Sort_string g 0 cap ks w (holds_of_block hg (by rw [Nat.mul_one] at h4; exact h4)) (Array.getElem?_eq_some_iff.1 hg).1 (by omega)).mono ?_
    rintro e w' ⟨rfl, n, os, rfl⟩
    exact ⟨rfl, ownsRow_sorted (by simp) hb hg h1 h2 h3, ⟨grownBy_sorted _, fun k hk => .inl hk⟩⟩
theorem compact_calls (g cap B : Nat) (zs : List (List UInt8)) (w : World) (hl : zs.length ≤ 100000) (h : w.ownsRow B 9 1 (.slice (some ⟨g, 0, none⟩) zs.length cap) zs.length (zs.map encS)) :
    Calls Tryz.prog 43 #[.slice (some ⟨g, 0, none⟩) zs.length cap] w fun e w' => e = .returned (.slice (some ⟨g, 0, none⟩) (Lib.compact zs).length cap) ∧ w'.ownsRow B 9 1 (.slice (some ⟨g, 0, none⟩) (Lib.compact zs).length cap) (Lib.compact zs).length ((Lib.compact zs).map encS) ∧ Grew w w' (.slice (some ⟨g, 0, none⟩) zs.length cap) (.slice (some ⟨g, 0, none⟩) zs.length cap) := by
  rcases h.2 with ⟨he, _⟩ | ⟨g', cap', cur, he, hb, hg, h1, h2, h3, h4⟩
  · cases he
  · simp only [Value.slice.injEq, Option.some.injEq, Addr.mk.injEq] at he
    obtain ⟨⟨rfl, _⟩, _, rfl⟩ := he
    refine (Tryz.slices_Compact_string g 0 cap zs w (holds_of_block hg (by rw [Nat.mul_one] at h4; exact h4)) (by omega) h1).mono ?_
    rintro e w' ⟨rfl, q, rfl⟩
    have hle := compact_le zs
    have hr := ownsRow_sorted (n := q) (os := #[]) (ts := Lib.compact zs ++ List.replicate (zs.length - (Lib.compact zs).length) []) (ss := zs) (by simp; omega) hb hg h1 h2 h3
    have hgr := grownBy_sorted (w := w) (g := g) (n := q) (os := #[]) (Lib.compact zs ++ List.replicate (zs.length - (Lib.compact zs).length) []).toArray
    rw [Sort.grow_empty] at hr hgr
    rw [List.map_append] at hr
    have hs := row_short hr
    rw [List.length_map] at hs
    exact ⟨rfl, hs, ⟨hgr, fun k hk => .inl hk⟩⟩
end Go.Proofs.YtdomajhffmfbbaaGreatDoor
