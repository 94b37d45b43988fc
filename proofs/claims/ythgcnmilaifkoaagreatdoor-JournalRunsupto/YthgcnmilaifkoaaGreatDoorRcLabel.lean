import Derived.Test.YthgcnmilaifkoaaGreatDoorKLaw
import Derived.Lib.ConvBytes
/- Layer 7 (rows): Low. -/
namespace Go.Proofs.YthgcnmilaifkoaaGreatDoor
open Go.RowKit
set_option linter.unusedVariables false

def lowB (b : UInt8) : UInt8 := if 65 ≤ b.toNat ∧ b.toNat ≤ 90 then b + 32 else b
def lowS (s : ByteArray) : ByteArray := ⟨(s.data.toList.map lowB).toArray⟩
theorem lowB_toNat (b : UInt8) : (lowB b).toNat = if 65 ≤ b.toNat ∧ b.toNat ≤ 90 then b.toNat + 32 else b.toNat := by
 unfold lowB
 split
 ·next h =>
  rw [UInt8.toNat_add]
  have : (32 : UInt8).toNat = 32 := rfl
  rw [this]
  omega
 ·rfl
theorem lowS_size (s : ByteArray) : (lowS s).size = s.size := by
 show (s.data.toList.map lowB).toArray.size = s.data.size
 rw [List.size_toArray, List.length_map, Array.length_toList]
theorem lowB_low (b : UInt8) : lowB (lowB b) = lowB b := by
 apply UInt8.toNat_inj.1
 rw [lowB_toNat (lowB b), lowB_toNat b]
 by_cases h : 65 ≤ b.toNat ∧ b.toNat ≤ 90
 ·rw [if_pos h, if_neg (by omega)]
 ·rw [if_neg h, if_neg h]
theorem lowS_low (s : ByteArray) : lowS (lowS s) = lowS s := by
 simp [lowS, Function.comp_def, lowB_low]

theorem conv_bytes (w : World) (s : ByteArray) (n : Nat) (hn : s.size = n) : ∃ cap w1, (convert 9 50 (.string s)).run Tryz.prog w = .ok (.slice (some ⟨w.heap.size, 0, none⟩) n cap) w1 ∧
  (∀ j (h : j < n), w1.cell? ⟨w.heap.size, j, none⟩ = some (.int .u8 (s.data.toList.getD j 0).toNat) ∧ w1.frozen? ⟨w.heap.size, j, none⟩ = false) ∧ Below w.heap.size w w1 ∧ w.heap.size < w1.heap.size := by
 subst hn
 refine ⟨_, _, Lib.run_convert_string_bytes w _ _ _ s Tryz.underlying9 Tryz.underlying50 Tryz.underlying5, ?_, ?_, ?_⟩
 ·intro j hj
  refine ⟨Lib.bytesWorld_cell w _ s j hj, ?_⟩
  simp only [World.frozen?, Lib.bytesWorld_at_new]
  simp [Lib.bytesCells]
  omega
 ·refine ⟨rfl, rfl, rfl, by rw [Lib.bytesWorld_size]; omega, fun k hk => Lib.bytesWorld_at_old w _ s k hk⟩
 ·rw [Lib.bytesWorld_size]; omega

/-- The bytes of s lie at g, the first k of them lowered. -/
def LowI (s : ByteArray) (g k : Nat) (w : World) : Prop := ∀ j (h : j < s.size), w.cell? ⟨g, j, none⟩ = some (.int .u8 ((if j < k then lowB s[j] else s[j]).toNat : Int)) ∧ w.frozen? ⟨g, j, none⟩ = false
theorem LowI.keep {s : ByteArray} {g k : Nat} {w : World} (h : LowI s g k w) (hk : k < s.size) (hb : ¬ (65 ≤ s[k].toNat ∧ s[k].toNat ≤ 90)) : LowI s g (k + 1) w := by
 intro j hj
 have := h j hj
 by_cases e : j = k
 ·subst e
  rw [if_neg (by omega)] at this
  rw [if_pos (by omega), show lowB s[j] = s[j] by unfold lowB; rw [if_neg hb]]
  exact this
 ·have e2 : (j < k + 1) = (j < k) := by simp; omega
  simp only [e2]
  exact this
theorem LowI.set {s : ByteArray} {g k : Nat} {w : World} (h : LowI s g k w) (hk : k < s.size) (hb : 65 ≤ s[k].toNat ∧ s[k].toNat ≤ 90) : LowI s g (k + 1) (w.setCell ⟨g, k, none⟩ (.int .u8 ((s[k].toNat : Int) + 32))) := by
 intro j hj
 have h1 := h j hj
 refine ⟨?_, (World.frozen?_setCell _ _ _ _).trans h1.2⟩
 by_cases e : j = k
 ·subst e
  rw [World.cell?_setCell_same _ _ _ h1.1, if_pos (by omega), lowB_toNat, if_pos hb]
  simp
 ·have hne : (⟨g, k, none⟩ : Addr) ≠ ⟨g, j, none⟩ := fun e' => e (by simpa using e'.symm)
  rw [World.cell?_setCell_other _ _ _ _ hne, h1.1]
  have e2 : (j < k + 1) = (j < k) := by simp; omega
  simp only [e2]
theorem LowI.string {s : ByteArray} {g cap : Nat} {w : World} (h : LowI s g s.size w) : (convert 50 9 (.slice (some ⟨g, 0, none⟩) s.size cap)).run Tryz.prog w = .ok (.string (lowS s)) w := by
 have hl : (s.data.toList.map lowB).length = s.size := by simp
 have := run_convert_bytes_back (P := Tryz.prog) w 50 9 5 ⟨g, 0, none⟩ cap (s.data.toList.map lowB) Tryz.underlying50 Tryz.underlying5 Tryz.underlying9 ?_
 ·rw [hl] at this; exact this
 ·intro i hi
  rw [hl] at hi
  have hadd : (⟨g, 0, none⟩ : Addr).add i = ⟨g, i, none⟩ := by unfold Addr.add; split <;> simp_all
  rw [hadd, (h i hi).1, if_pos hi]
  simp
  rfl

set_option maxHeartbeats 1000000 in
theorem low_calls (s : ByteArray) (w : World) (hs : s.size ≤ 140737488351296) :
  Calls Tryz.prog 85 #[.string s] w fun e w' => e = .returned (.string (lowS s)) ∧ Below w.heap.size w w' := by
 obtain ⟨cap, w1, hrun, hcells, hb1, hs1⟩ := conv_bytes w s s.size rfl
 have HI0 : Hid (LowI s w.heap.size 0 w1) := fun j hj => by
  have := hcells j hj
  rw [if_neg (by omega)]
  refine ⟨?_, this.2⟩
  rw [this.1, show s.data.toList.getD j 0 = s[j] by rw [List.getD_eq_getElem?_getD, List.getElem?_eq_getElem (by simpa using hj)]; rfl]
 have HB1 : Hid (Below w.heap.size w w1) := hb1
 clear hcells hb1 hs1
 go_enter Tryz.func85, Tryz.ntmps85
 go_wp2
 go_loopw [4, 5, 10] (fun a4 a5 x wr => ∃ k : Nat, k ≤ s.size ∧ x = .int .i64 k ∧ Hid (LowI s w.heap.size k wr) ∧ Hid (Below w.heap.size w wr)) (fun _ _ x _ => s.size - (intOf x).toNat)
 case atStart => exact ⟨0, Nat.zero_le _, rfl, HI0, HB1⟩
 case round =>
  obtain ⟨k, hk, rfl, HI, HB⟩ := hrel
  clear hrun HI0 HB1
  by_cases hlt : k < s.size
  ·have c0 := (HI.out k hlt).1
   have z0 := (HI.out k hlt).2
   rw [if_neg (by omega)] at c0
   have hby : (s[k].toNat : Int) ≤ 255 := by have := s[k].toNat_lt; omega
   by_cases hb : 65 ≤ s[k].toNat ∧ s[k].toNat ≤ 90
   ·have q1 : (65 : Int) ≤ (s[k].toNat : Int) := by omega
    have q2 : (s[k].toNat : Int) ≤ 90 := by omega
    have HN : Hid (LowI s w.heap.size (k + 1) (wr.setCell ⟨w.heap.size, k, none⟩ (.int .u8 ((s[k].toNat : Int) + 32)))) := HI.out.set hlt hb
    have qa : (s[k].toNat : Int) + 97 - 65 = (s[k].toNat : Int) + 32 := by omega
    clear hb
    go_wp2
    go_roundw
    case rel => exact ⟨k + 1, by omega, by go_num, by first | exact HN | (rw [qa]; exact HN), HB.out.setCell (Nat.le_refl _) _⟩
    case measure => simp [intOf]; omega
   ·have HN : Hid (LowI s w.heap.size (k + 1) wr) := HI.out.keep hlt hb
    by_cases h65 : 65 ≤ s[k].toNat
    ·have q1 : (65 : Int) ≤ (s[k].toNat : Int) := by omega
     have q2 : ¬ ((s[k].toNat : Int) ≤ 90) := by omega
     clear hb h65
     go_wp2
     go_roundw
     case rel => exact ⟨k + 1, by omega, by go_num, HN, HB⟩
     case measure => simp [intOf]; omega
    ·have q1 : ¬ ((65 : Int) ≤ (s[k].toNat : Int)) := by omega
     clear hb h65
     go_wp2
     go_roundw
     case rel => exact ⟨k + 1, by omega, by go_num, HN, HB⟩
     case measure => simp [intOf]; omega
  ·obtain rfl : k = s.size := by omega
   have hst := HI.out.string (cap := cap)
   go_wp2
   go_ret
   exact ⟨rfl, HB.out⟩

end Go.Proofs.YthgcnmilaifkoaaGreatDoor

/- What was written byte by byte, as a text. -/
namespace Go.Proofs.YthgcnmilaifkoaaGreatDoor
open Go.RowKit
set_option linter.unusedVariables false

theorem Own.string {w : World} {B : Nat} {v : Value} {l : List UInt8} (h : Own w B v l) : (convert 50 9 v).run Tryz.prog w = .ok (.string ⟨l.toArray⟩) w := by
 rcases h.2 with ⟨rfl, h0⟩ | ⟨g, cap, cur, rfl, _, _, _, _, _, _⟩
 ·rw [run_convert_bytes_nil w _ _ Tryz.underlying50 Tryz.underlying5 0 0 _ Tryz.underlying9]
  rw [List.length_eq_zero_iff.1 h0]; rfl
 ·refine run_convert_bytes_back w _ _ _ _ _ l Tryz.underlying50 Tryz.underlying5 Tryz.underlying9 ?_
  intro j hj
  refine World.ownsRow.cells h (g := g) rfl j _ ?_
  simp [bs, hj]

end Go.Proofs.YthgcnmilaifkoaaGreatDoor

/- Layer 7 (rows): the document's Low; RowsLow. -/
namespace Go.Proofs.YthgcnmilaifkoaaGreatDoor
open Go.RowKit
set_option linter.unusedVariables false

def lowTo (s : ByteArray) (k : Nat) : List UInt8 := (s.data.toList.take k).map lowB
theorem lowTo_succ (s : ByteArray) (k : Nat) (hk : k < s.size) : lowTo s (k + 1) = lowTo s k ++ [lowB s[k]] := by
 unfold lowTo
 rw [List.take_succ_eq_append_getElem (by simpa using hk), List.map_append]
 rfl
theorem lowTo_all (s : ByteArray) : (⟨(lowTo s s.size).toArray⟩ : ByteArray) = lowS s := by
 unfold lowTo lowS
 rw [List.take_of_length_le (by simp)]
theorem lowTo_len (s : ByteArray) (k : Nat) (hk : k ≤ s.size) : (lowTo s k).length = k := by
 unfold lowTo
 rw [List.length_map, List.length_take]
 simp only [Array.length_toList]
 exact Nat.min_eq_left hk

set_option maxRecDepth 100000 in
set_option maxHeartbeats 1000000 in
theorem refLow_calls (s : ByteArray) (w : World) (hs : s.size ≤ 140737488351296) :
  Calls Tryz.prog 43 #[.string s] w fun e w' => e = .returned (.string (lowS s)) ∧ Below w.heap.size w w' := by
 go_enter Tryz.func43, Tryz.ntmps43
 go_wp2
 go_loopw [3, 4] (fun v i wr => ∃ (k : Nat) (a : Option Addr) (c : Nat), k ≤ s.size ∧ i = .int .i64 k ∧ v = .slice a k c ∧ Hid (Own wr w.heap.size (.slice a k c) (lowTo s k)) ∧ Hid (Below w.heap.size w wr)) (fun _ i _ => s.size - (intOf i).toNat)
 case atStart => exact ⟨0, _, _, Nat.zero_le _, rfl, rfl, World.ownsRow_lit (size := 1) w #[] 0 (Nat.le_refl _) (by unfold maxLen; omega) rfl, (Below.refl _ _).alloc (Nat.le_refl _) _⟩
 case round =>
  obtain ⟨k, a, c, hk, rfl, rfl, HO, HB⟩ := hrel
  have hlen := lowTo_len s k hk
  by_cases hlt : k < s.size
  ·have hby : (s[k].toNat : Int) ≤ 255 := by have := s[k].toNat_lt; omega
   have hsz := HB.out.size
   have HT : Hid (lowTo s (k + 1) = lowTo s k ++ [lowB s[k]]) := lowTo_succ s k hlt
   have hln := lowB_toNat s[k]
   by_cases hb : 65 ≤ s[k].toNat ∧ s[k].toNat ≤ 90
   ·have q1 : (65 : Int) ≤ (s[k].toNat : Int) := by omega
    have q2 : (s[k].toNat : Int) ≤ 90 := by omega
    rw [if_pos hb] at hln
    have HC : Hid (#[Value.int .u8 ((s[k].toNat : Int) + 32)] = (bs [lowB s[k]]).toArray) := by
     rw [Hid]
     simp only [bs, List.map_cons, List.map_nil]
     rw [hln]
     simp
    clear hb hln
    go_wp2_with (at_builtin; refine append_lit _ rfl (.tmp 22) (.tmp 27) rfl w.heap.size _ (lowTo s k) rfl [lowB s[k]] _ 1 1 _ rfl rfl HC.out rfl HO.out (by omega) hsz ?_)
    intro v1 w1 ho1 hg1
    have HB1 : Hid (Below w.heap.size w w1) := HB.out.trans (HO.out.toBelow hsz hg1)
    have HO1 : Hid (Own w1 w.heap.size v1 (lowTo s (k + 1))) := by rw [Hid, HT.out]; exact ho1
    obtain ⟨a1, c1, rfl⟩ := HO1.out.shape
    rw [lowTo_len s (k + 1) hlt] at HO1 ⊢
    clear ho1 hg1
    go_wp2
    go_roundw
    case rel => exact ⟨k + 1, a1, c1, by omega, by go_num, rfl, HO1, HB1⟩
    case measure => simp [intOf]; omega
   ·rw [if_neg hb] at hln
    have HC : Hid (#[Value.int .u8 (s[k].toNat : Int)] = (bs [lowB s[k]]).toArray) := by
     rw [Hid]
     simp only [bs, List.map_cons, List.map_nil]
     rw [hln]
    clear hln
    by_cases h65 : 65 ≤ s[k].toNat
    ·have q1 : (65 : Int) ≤ (s[k].toNat : Int) := by omega
     have q2 : ¬ ((s[k].toNat : Int) ≤ 90) := by omega
     clear hb h65
     go_wp2_with (at_builtin; refine append_lit _ rfl (.tmp 29) (.tmp 33) rfl w.heap.size _ (lowTo s k) rfl [lowB s[k]] _ 1 1 _ rfl rfl HC.out rfl HO.out (by omega) hsz ?_)
     intro v1 w1 ho1 hg1
     have HB1 : Hid (Below w.heap.size w w1) := HB.out.trans (HO.out.toBelow hsz hg1)
     have HO1 : Hid (Own w1 w.heap.size v1 (lowTo s (k + 1))) := by rw [Hid, HT.out]; exact ho1
     obtain ⟨a1, c1, rfl⟩ := HO1.out.shape
     rw [lowTo_len s (k + 1) hlt] at HO1 ⊢
     clear ho1 hg1
     go_wp2
     go_roundw
     case rel => exact ⟨k + 1, a1, c1, by omega, by go_num, rfl, HO1, HB1⟩
     case measure => simp [intOf]; omega
    ·have q1 : ¬ ((65 : Int) ≤ (s[k].toNat : Int)) := by omega
     clear hb h65
     go_wp2_with (at_builtin; refine append_lit _ rfl (.tmp 29) (.tmp 33) rfl w.heap.size _ (lowTo s k) rfl [lowB s[k]] _ 1 1 _ rfl rfl HC.out rfl HO.out (by omega) hsz ?_)
     intro v1 w1 ho1 hg1
     have HB1 : Hid (Below w.heap.size w w1) := HB.out.trans (HO.out.toBelow hsz hg1)
     have HO1 : Hid (Own w1 w.heap.size v1 (lowTo s (k + 1))) := by rw [Hid, HT.out]; exact ho1
     obtain ⟨a1, c1, rfl⟩ := HO1.out.shape
     rw [lowTo_len s (k + 1) hlt] at HO1 ⊢
     clear ho1 hg1
     go_wp2
     go_roundw
     case rel => exact ⟨k + 1, a1, c1, by omega, by go_num, rfl, HO1, HB1⟩
     case measure => simp [intOf]; omega
  ·obtain rfl : k = s.size := by omega
   have hst := HO.out.string
   rw [lowTo_all] at hst
   go_wp2
   go_ret
   exact ⟨rfl, HB.out⟩
end Go.Proofs.YthgcnmilaifkoaaGreatDoor

/- Layer 9 (records): Label, the document's Label. -/
namespace Go.Proofs.YthgcnmilaifkoaaGreatDoor
open Go.RowKit
set_option linter.unusedVariables false

def alB (b : UInt8) : Bool := decide (97 ≤ b.toNat ∧ b.toNat ≤ 122 ∨ 65 ≤ b.toNat ∧ b.toNat ≤ 90)
def dgB (b : UInt8) : Bool := decide (48 ≤ b.toNat ∧ b.toNat ≤ 57)
/-- The byte at place k of a text of n bytes may stand in a label. -/
def okAt (n k : Nat) (b : UInt8) : Bool := alB b || dgB b || (b == 45 && k != 0 && k + 1 != n)
def labTo (s : ByteArray) (k : Nat) : Prop := ∀ i (h : i < s.size), i < k → okAt s.size i s[i] = true
instance (s : ByteArray) (k : Nat) : Decidable (labTo s k) := by unfold labTo; infer_instance
/-- A label? -/
def labB (s : ByteArray) : Bool := decide (0 < s.size) && decide (s.size ≤ 63) && decide (labTo s s.size)
def labT (s : ByteArray) : ByteArray := if labB s then lowS s else ⟨#[]⟩
def labE (s : ByteArray) : Int := if labB s then 0 else 90
theorem lab_yes {s : ByteArray} (h : labB s = true) : labT s = lowS s ∧ labE s = 0 := by simp [labT, labE, h]
theorem lab_no {s : ByteArray} (h : labB s = false) : labT s = ⟨#[]⟩ ∧ labE s = 90 := by simp [labT, labE, h]
theorem lab_empty {s : ByteArray} (h : s.size = 0) : labB s = false := by simp [labB, h]
theorem lab_long {s : ByteArray} (h : ¬ s.size ≤ 63) : labB s = false := by simp [labB, h]
theorem lab_bad {s : ByteArray} {k : Nat} (hk : k < s.size) (h : okAt s.size k s[k] = false) : labB s = false := by
 have : ¬ labTo s s.size := fun e => by have := e k hk hk; rw [h] at this; cases this
 simp [labB, this]
theorem lab_good {s : ByteArray} (h0 : 0 < s.size) (h1 : s.size ≤ 63) (h : labTo s s.size) : labB s = true := by simp [labB, h0, h1, h]
theorem labB_all {s : ByteArray} (h : labB s = true) : 0 < s.size ∧ s.size ≤ 63 ∧ labTo s s.size := by
 simpa [labB, and_assoc] using h
theorem okAt_low (n k : Nat) (b : UInt8) : okAt n k (lowB b) = okAt n k b := by
 have h1 : ((lowB b == 45) : Bool) = (b == 45) := by
  rw [Bool.eq_iff_iff, beq_iff_eq, beq_iff_eq, ← UInt8.toNat_inj, ← UInt8.toNat_inj, lowB_toNat]
  have : (45 : UInt8).toNat = 45 := rfl
  split <;> omega
 have h2 : alB (lowB b) = alB b := by
  unfold alB
  rw [lowB_toNat]
  split <;> exact decide_eq_decide.2 ⟨fun h => by omega, fun h => by omega⟩
 have h3 : dgB (lowB b) = dgB b := by
  unfold dgB
  rw [lowB_toNat]
  split <;> exact decide_eq_decide.2 ⟨fun h => by omega, fun h => by omega⟩
 unfold okAt
 rw [h1, h2, h3]
theorem lowS_at (s : ByteArray) (k : Nat) (hk : k < s.size) (hk' : k < (lowS s).size) : (lowS s)[k] = lowB s[k] := by
 have h1 : (lowS s)[k] = (s.data.toList.map lowB)[k]'(by rw [List.length_map, Array.length_toList]; exact hk) := rfl
 rw [h1, List.getElem_map]
 rfl
theorem labTo_low (s : ByteArray) (k : Nat) : labTo (lowS s) k ↔ labTo s k := by
 constructor
 ·intro h i hi hk
  have := h i (by rw [lowS_size]; exact hi) hk
  rw [lowS_at s i hi, okAt_low, lowS_size] at this
  exact this
 ·intro h i hi hk
  have hi' : i < s.size := by rw [lowS_size] at hi; exact hi
  rw [lowS_at s i hi' hi, okAt_low, lowS_size]
  exact h i hi' hk
theorem labB_low (s : ByteArray) : labB (lowS s) = labB s := by
 unfold labB
 rw [lowS_size]
 congr 1
 exact decide_eq_decide.2 (by rw [labTo_low])
theorem labT_low (s : ByteArray) : labT (lowS s) = labT s := by unfold labT; rw [labB_low, lowS_low]
theorem labE_low (s : ByteArray) : labE (lowS s) = labE s := by unfold labE; rw [labB_low]

theorem rIsLetter_calls (b : UInt8) (w : World) : Calls Tryz.prog 92 #[.int .u8 (b.toNat : Int)] w fun e w' => e = .returned (.bool (alB b)) ∧ w' = w := by
 by_cases h : 97 ≤ b.toNat ∧ b.toNat ≤ 122 ∨ 65 ≤ b.toNat ∧ b.toNat ≤ 90
 all_goals
  go_enter Tryz.func92, Tryz.ntmps92
  go_wp2
 all_goals go_ret
 all_goals refine ⟨?_, rfl⟩
 all_goals simp [alB, h]
 all_goals omega
theorem rIsDigit_calls (b : UInt8) (w : World) : Calls Tryz.prog 93 #[.int .u8 (b.toNat : Int)] w fun e w' => e = .returned (.bool (dgB b)) ∧ w' = w := by
 by_cases h : 48 ≤ b.toNat ∧ b.toNat ≤ 57
 all_goals
  go_enter Tryz.func93, Tryz.ntmps93
  go_wp2
 all_goals go_ret
 all_goals refine ⟨?_, rfl⟩
 all_goals simp [dgB, h]
 all_goals omega
def chTo (s : ByteArray) (k : Nat) : Prop := ∀ i (h : i < s.size), i < k → (alB s[i] || dgB s[i] || s[i] == 45) = true
theorem chTo.next {s : ByteArray} {k : Nat} (h : chTo s k) (hk : k < s.size) (hv : (alB s[k] || dgB s[k] || s[k] == 45) = true) : chTo s (k + 1) := fun i hi hik => by
 rcases Nat.lt_or_ge i k with h' | h'
 ·exact h i hi h'
 ·obtain rfl : i = k := by omega
  exact hv
theorem ch_bad {s : ByteArray} {k : Nat} (hk : k < s.size) (h1 : alB s[k] = false) (h2 : dgB s[k] = false) (h3 : ¬ s[k] = 45) : labB s = false := lab_bad hk (by simp [okAt, h1, h2, h3])
theorem hyph (b : UInt8) (h : b = 45) : alB b = false ∧ dgB b = false := by subst h; exact ⟨rfl, rfl⟩
theorem ch_first {s : ByteArray} (h0 : 0 < s.size) (h : s[0] = 45) : labB s = false := lab_bad h0 (by obtain ⟨h1, h2⟩ := hyph _ h; simp [okAt, h1, h2])
theorem ch_last {s : ByteArray} {m : Nat} (hm : s.size = m + 1) (h : s[m]'(by omega) = 45) : labB s = false := lab_bad (k := m) (by omega) (by obtain ⟨h1, h2⟩ := hyph _ h; simp [okAt, h1, h2, hm])
theorem ch_good {s : ByteArray} {m : Nat} (hm : s.size = m + 1) (hl : s.size ≤ 63) (h : chTo s s.size) (h0 : ¬ s[0]'(by omega) = 45) (h1 : ¬ s[m]'(by omega) = 45) : labB s = true := by
 refine lab_good (by omega) hl fun i hi _ => ?_
 have := h i hi hi
 by_cases e : s[i] = 45
 ·obtain ⟨a, b⟩ := hyph _ e
  have e0 : i ≠ 0 := fun h => by subst h; exact h0 e
  have e1 : i ≠ m := fun h => by subst h; exact h1 e
  simp [okAt, e, e0]
  omega
 ·simp only [Bool.or_eq_true, beq_iff_eq, e, or_false] at this
  simp only [okAt, Bool.or_eq_true]
  exact .inl this
theorem u8_ne {b c : UInt8} (h : ¬ b = c) : ((b.toNat : Int) == (c.toNat : Int)) = false := by
 have : b.toNat ≠ c.toNat := fun e => h (UInt8.toNat_inj.1 e)
 simp; omega
theorem u8_bne {b : UInt8} (h : ¬ b = 45) : ((b.toNat : Int) != 45) = true := by
 have := u8_ne h
 rw [bne, show (45 : Int) = ((45 : UInt8).toNat : Int) from rfl, this]
 rfl
theorem lab_size_pos {s : ByteArray} (h : ¬ s.toList = []) : 0 < s.size := by
 rw [ByteArray.toList_eq] at h
 rcases Nat.eq_zero_or_pos s.size with h0 | h0
 ·exact absurd (List.length_eq_zero_iff.1 (by simpa using h0)) h
 ·exact h0

set_option maxHeartbeats 1000000 in
theorem isLabel_calls (s : ByteArray) (w : World) (hs : s.size ≤ 9223372036854775807) : Calls Tryz.prog 84 #[.string s] w fun e w' => e = .returned (.bool (labB s)) ∧ w' = w := by
 by_cases he : s.toList = []
 ·have hn : Hid (false = labB s) := (lab_empty (by rw [ByteArray.toList_eq] at he; simpa using congrArg List.length he)).symm
  go_enter Tryz.func84, Tryz.ntmps84
  go_wp2
  go_ret
  exact ⟨ret_bool hn.out, rfl⟩
 have h0 := lab_size_pos he
 have hemp : s.toList.isEmpty = false := by rw [ByteArray.toList_eq] at he ⊢; simpa using he
 by_cases hl : s.size ≤ 63
 case neg =>
  have hn : Hid (false = labB s) := (lab_long hl).symm
  have hl' : (63 : Int) < (s.size : Int) := by omega
  go_enter Tryz.func84, Tryz.ntmps84
  go_wp2
  go_ret
  exact ⟨ret_bool hn.out, rfl⟩
 have hl' : ¬ (63 : Int) < (s.size : Int) := by omega
 go_enter Tryz.func84, Tryz.ntmps84
 go_wp2
 go_loop [13] (fun x => ∃ k : Nat, k ≤ s.size ∧ x = .int .i64 k ∧ Hid (chTo s k)) (fun x => s.size - (intOf x).toNat)
 case atStart => exact ⟨0, Nat.zero_le _, rfl, fun i h h' => by omega⟩
 case round =>
  obtain ⟨k, hk, rfl, HK⟩ := hrel
  by_cases hlt : k < s.size
  ·cases hb : alB s[k] with
   | true =>
    have HN : Hid (chTo s (k + 1)) := HK.out.next hlt (by simp [hb])
    go_wp2_with (go_at_call 92; refine (rIsLetter_calls _ _).mono ?_; rintro e w' ⟨rfl, rfl⟩)
    go_round
    case rel => exact ⟨k + 1, by omega, by go_num, HN⟩
    case measure => simp [intOf]; omega
   | false =>
    cases hb2 : dgB s[k] with
    | true =>
     have HN : Hid (chTo s (k + 1)) := HK.out.next hlt (by simp [hb2])
     go_wp2_with (first | (go_at_call 92; refine (rIsLetter_calls _ _).mono ?_; rintro e w' ⟨rfl, rfl⟩) | (go_at_call 93; refine (rIsDigit_calls _ _).mono ?_; rintro e w' ⟨rfl, rfl⟩))
     go_round
     case rel => exact ⟨k + 1, by omega, by go_num, HN⟩
     case measure => simp [intOf]; omega
    | false =>
     by_cases hy : s[k] = 45
     ·have HN : Hid (chTo s (k + 1)) := HK.out.next hlt (by simp [hy])
      have q : ((s[k].toNat : Int) == 45) = true := by rw [hy]; rfl
      clear hy
      go_wp2_with (first | (go_at_call 92; refine (rIsLetter_calls _ _).mono ?_; rintro e w' ⟨rfl, rfl⟩) | (go_at_call 93; refine (rIsDigit_calls _ _).mono ?_; rintro e w' ⟨rfl, rfl⟩))
      go_round
      case rel => exact ⟨k + 1, by omega, by go_num, HN⟩
      case measure => simp [intOf]; omega
     ·have hn : Hid (false = labB s) := (ch_bad hlt hb hb2 hy).symm
      have q : ((s[k].toNat : Int) == 45) = false := u8_ne hy
      clear hy
      go_wp2_with (first | (go_at_call 92; refine (rIsLetter_calls _ _).mono ?_; rintro e w' ⟨rfl, rfl⟩) | (go_at_call 93; refine (rIsDigit_calls _ _).mono ?_; rintro e w' ⟨rfl, rfl⟩))
      go_ret
      exact ⟨ret_bool hn.out, rfl⟩
  ·obtain rfl : k = s.size := by omega
   obtain ⟨m, hm⟩ : ∃ m, s.size = m + 1 := ⟨s.size - 1, by omega⟩
   have Hm : Hid (s.size = m + 1) := hm
   have hms : m < s.size := by omega
   have hmz : (s.size : Int) - 1 = (m : Int) := by omega
   have HL : Hid (s.size ≤ 63) := hl
   clear hm hl hl'
   by_cases hf : s[0] = 45
   ·have hn : Hid (false = labB s) := (ch_first h0 hf).symm
    have q : ((s[0].toNat : Int) != 45) = false := by rw [hf]; rfl
    have p : (s[0].toNat : Int) = 45 := by rw [hf]; rfl
    clear hf
    go_wp2
    go_ret
    exact ⟨ret_bool hn.out, rfl⟩
   ·have q : ((s[0].toNat : Int) != 45) = true := u8_bne hf
    have p : ¬ (s[0].toNat : Int) = 45 := fun e => hf (UInt8.toNat_inj.1 (by exact Int.ofNat.inj e))
    by_cases hf2 : s[m] = 45
    ·have hn : Hid (false = labB s) := (ch_last Hm.out hf2).symm
     have q2 : ((s[m].toNat : Int) != 45) = false := by rw [hf2]; rfl
     clear hf hf2
     go_wp2
     go_ret
     exact ⟨ret_bool hn.out, rfl⟩
    ·have hn : Hid (true = labB s) := (ch_good Hm.out HL.out HK.out hf hf2).symm
     have q2 : ((s[m].toNat : Int) != 45) = true := u8_bne hf2
     clear hf hf2
     go_wp2
     go_ret
     exact ⟨ret_bool hn.out, rfl⟩

theorem ret_pairS {s s' : ByteArray} {e e' : Int} (h : s = s') (h2 : e = e') : Ending.returned (.tuple #[.string s, .int .i64 e]) = .returned (.tuple #[.string s', .int .i64 e']) := by rw [h, h2]
set_option maxHeartbeats 1000000 in
theorem label_calls (s : ByteArray) (w : World) (hs : s.size ≤ 140737488351296) : Calls Tryz.prog 69 #[.string s] w fun e w' => e = .returned (.tuple #[.string (labT s), .int .i64 (labE s)]) ∧ Below w.heap.size w w' := by
 have HL : Hid (Calls Tryz.prog 84 #[.string s] w fun e w' => e = .returned (.bool (labB s)) ∧ w' = w) := isLabel_calls s w (by omega)
 cases hb : labB s with
 | false =>
  have HN : Hid (labT s = ⟨#[]⟩ ∧ labE s = 90) := lab_no hb
  rw [hb] at HL
  go_enter Tryz.func69, Tryz.ntmps69
  go_wp2_with (go_at_call 84; refine HL.out.mono ?_; rintro e w' ⟨rfl, rfl⟩)
  go_ret2
  exact ⟨ret_pairS HN.out.1.symm HN.out.2.symm, Below.refl _ _⟩
 | true =>
  have HN : Hid (labT s = lowS s ∧ labE s = 0) := lab_yes hb
  rw [hb] at HL
  go_enter Tryz.func69, Tryz.ntmps69
  go_wp2_with (go_at_call 84; refine HL.out.mono ?_; rintro e w' ⟨rfl, hw⟩; subst w')
  refine (low_calls s _ hs).mono ?_
  rintro e w1 ⟨rfl, hb1⟩
  have HB : Hid (Below w.heap.size w w1) := hb1
  clear hb1
  go_wp2
  go_ret2
  exact ⟨ret_pairS HN.out.1.symm HN.out.2.symm, HB.out⟩

end Go.Proofs.YthgcnmilaifkoaaGreatDoor
