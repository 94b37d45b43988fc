import Derived.Test.YtmkohdepgfahnaaGreatDoorRcOpD
import Derived.Test.YtmkohdepgfahnaaGreatDoorRwPut
import Derived.Test.YtmkohdepgfahnaaGreatDoorSGenB
/- Layer 9 (records): what is fixed stays as it is; small letters and great ones are fixed alike. Plain. -/
namespace Go.Proofs.YtmkohdepgfahnaaGreatDoor
open Go.RowKit

theorem lab_zero {s : ByteArray} (h : labE s = 0) : labB s = true := by
  unfold labE at h
  split at h
  · assumption
  · cases h
theorem lab_again {s : ByteArray} (h : labE s = 0) : labE (labT s) = 0 ∧ labT (labT s) = labT s := by
  rw [(lab_yes (lab_zero h)).1, labE_low, labT_low, (lab_yes (lab_zero h)).1]
  exact ⟨h, rfl⟩
theorem orE_zero {a b : Int} (h : orE a b = 0) : a = 0 ∧ b = 0 := by
  unfold orE at h
  split at h
  · exact ⟨by assumption, h⟩
  · exact absurd h (by assumption)
theorem node_again {n : Nd} (h : nodeE n = 0) : nodeE (fixN n) = 0 ∧ fixN (fixN n) = fixN n := by
  obtain ⟨h1, h2⟩ := orE_zero h
  obtain ⟨k1, k2⟩ := lab_again h1
  have e : fixN n = ⟨labT n.name, n.addr, 0, 0⟩ := if_pos h
  have e2 : nodeE ⟨labT n.name, n.addr, 0, 0⟩ = 0 := by
    unfold nodeE orE
    rw [if_pos k1]
    exact h2
  rw [e]
  refine ⟨e2, ?_⟩
  unfold fixN
  rw [if_pos e2]
  show (⟨labT (labT n.name), n.addr, 0, 0⟩ : Nd) = _
  rw [k2]
theorem lowL_low (x : ByteArray) : lowL (lowS x) = lowL x := by
  unfold lowL
  rw [lowS_low]
theorem tagsOk_low (l : List ByteArray) : tagsOk (l.map lowS) ↔ tagsOk l := by
  unfold tagsOk
  rw [List.length_map]
  constructor
  · rintro ⟨h1, h2⟩
    exact ⟨h1, fun x hx => by rw [← labB_low]; exact h2 _ (List.mem_map_of_mem hx)⟩
  · rintro ⟨h1, h2⟩
    refine ⟨h1, fun x hx => ?_⟩
    obtain ⟨y, hy, rfl⟩ := List.mem_map.1 hx
    rw [labB_low]
    exact h2 y hy
theorem tagsE_low (l : List ByteArray) : tagsE (l.map lowS) = tagsE l := by
  by_cases h : tagsOk l
  · rw [(tags_yes h).1, (tags_yes ((tagsOk_low l).2 h)).1]
  · rw [(tags_no h).1, (tags_no (fun e => h ((tagsOk_low l).1 e))).1]
theorem tagsL_low (l : List ByteArray) : tagsL (l.map lowS) = tagsL l := by
  by_cases h : tagsOk l
  · rw [(tags_yes h).2, (tags_yes ((tagsOk_low l).2 h)).2, List.map_map]
    have : lowL ∘ lowS = lowL := funext lowL_low
    rw [this]
  · rw [(tags_no h).2, (tags_no (fun e => h ((tagsOk_low l).1 e))).2]
theorem tagsB_low (l : List ByteArray) : tagsB (l.map lowS) = tagsB l := by
  unfold tagsB
  rw [tagsL_low]
theorem tagsL_put {l : List ByteArray} (h : tagsOk l) : tagsL l = putAll (l.map lowL) := (tags_yes h).2.trans (compact_putAll _)
theorem tagsL_rising (l : List ByteArray) : Rising (tagsL l) := by
  by_cases h : tagsOk l
  · rw [tagsL_put h]; exact putAll_rising _
  · rw [(tags_no h).2]; exact List.Pairwise.nil
theorem tagsL_mem {l : List ByteArray} (h : tagsOk l) (y : List UInt8) : y ∈ tagsL l ↔ ∃ x ∈ l, lowL x = y := by
  rw [tagsL_put h, putAll_mem, List.mem_map]
theorem tagsB_mem {l : List ByteArray} (h : tagsOk l) {y : ByteArray} (hy : y ∈ tagsB l) : ∃ x ∈ l, lowS x = y := by
  unfold tagsB at hy
  obtain ⟨b, hb, rfl⟩ := List.mem_map.1 hy
  obtain ⟨x, hx, rfl⟩ := (tagsL_mem h b).1 hb
  exact ⟨x, hx, rfl⟩
theorem tagsOk_again {l : List ByteArray} (h : tagsOk l) : tagsOk (tagsB l) := by
  refine ⟨?_, fun y hy => ?_⟩
  · rw [tagsB_len, (tags_yes h).2]
    refine Nat.le_trans (compact_le _) ?_
    rw [List.length_mergeSort, List.length_map]
    exact h.1
  · obtain ⟨x, hx, rfl⟩ := tagsB_mem h hy
    rw [labB_low]
    exact h.2 x hx
theorem tagsB_lowL {l : List ByteArray} (h : tagsOk l) : (tagsB l).map lowL = tagsL l := by
  unfold tagsB
  rw [List.map_map]
  conv => rhs; rw [← List.map_id (tagsL l)]
  refine List.map_congr_left fun b hb => ?_
  obtain ⟨x, hx, rfl⟩ := (tagsL_mem h b).1 hb
  exact lowL_low x
theorem tagsL_again {l : List ByteArray} (h : tagsOk l) : tagsL (tagsB l) = tagsL l := by
  rw [tagsL_put (tagsOk_again h), tagsB_lowL h]
  exact rising_uniq (putAll_rising _) (tagsL_rising l) fun y => putAll_mem _ y
theorem tagsB_again {l : List ByteArray} (h : tagsOk l) : tagsB (tagsB l) = tagsB l := by
  have := tagsL_again h
  unfold tagsB at this ⊢
  rw [this]
theorem tags_zero {l : List ByteArray} (h : tagsE l = 0) : tagsOk l := by
  unfold tagsE at h
  split at h
  · assumption
  · cases h
theorem svc_again {s : Sp} (h : svcE s = 0) : svcE (svcF s) = 0 ∧ svcF (svcF s) = svcF s := by
  obtain ⟨h1, h2, h3, h4⟩ := svc_parts h
  obtain ⟨i1, i2⟩ := orE_zero h1
  obtain ⟨a1, a2⟩ := lab_again i1
  obtain ⟨b1, b2⟩ := lab_again i2
  obtain ⟨c1, c2⟩ := lab_again h2
  have ht := tags_zero h4
  rw [svc_yes h]
  have e : svcE ⟨labT s.node, labT s.id, labT s.name, s.port, tagsB s.tags, 0, 0⟩ = 0 := by
    unfold svcE
    simp only [firstE, orE, idE, a1, b1, c1, h3, (tags_yes (tagsOk_again ht)).1, if_true]
  refine ⟨e, ?_⟩
  rw [svc_yes e]
  simp only [a2, b2, c2, tagsB_again ht]
end Go.Proofs.YtmkohdepgfahnaaGreatDoor

/- Layer 13 (journal): bytes in memory. -/
namespace Go.Proofs.YtmkohdepgfahnaaGreatDoor
open Go.RowKit
set_option linter.unusedVariables false

/-- The bytes l lie one behind the other at the address. -/
def BAt (w : World) (ao : Option Addr) (l : List UInt8) : Prop := CellsAt w ao (bs l)
theorem BAt.below {w w' : World} {ao : Option Addr} {l : List UInt8} (h : BAt w ao l) (hb : Below w.heap.size w w') : BAt w' ao l := CellsAt.below h hb
theorem BAt.at {w : World} {ao : Option Addr} {l : List UInt8} (h : BAt w ao l) (k : Nat) (hk : k < l.length) : ∃ b off, ao = some ⟨b, off, none⟩ ∧ w.cell? ⟨b, off + k, none⟩ = some (.int .u8 (l[k].toNat : Int)) := by
  obtain ⟨b, off, ha, hc⟩ := h (fun e => by have := bs_length l; rw [e] at this; simp at this; omega)
  exact ⟨b, off, ha, hc k _ (by simp [bs, hk])⟩
theorem Own.bytes {w : World} {B : Nat} {ao : Option Addr} {cap : Nat} {l : List UInt8} (h : Own w B (.slice ao l.length cap) l) : BAt w ao l := row_cells h
theorem BAt.nil (w : World) (ao : Option Addr) : BAt w ao [] := fun h => absurd rfl h
theorem byte_le (c : UInt8) : (c.toNat : Int) ≤ 255 := by have := c.toNat_lt; omega
theorem list_take_snoc {α : Type} (l : List α) (k : Nat) (h : k < l.length) : l.take (k + 1) = l.take k ++ [l[k]] := List.take_succ_eq_append_getElem h
end Go.Proofs.YtmkohdepgfahnaaGreatDoor
