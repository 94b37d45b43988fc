/- Layer 18 (json): word. -/
import Derived.Test.YtelhgjepjieocaaDoorJxWord
namespace Go.Proofs.YtelhgjepjieocaaDoor
open Go.RowKit
set_option linter.unusedVariables false

def wNull : ByteArray := ⟨#[110, 117, 108, 108]⟩
def wTrue : ByteArray := ⟨#[116, 114, 117, 101]⟩
def wFalse : ByteArray := ⟨#[102, 97, 108, 115, 101]⟩
/-- A word: its kind, its number, what comes behind it. -/
def wordP (l : List UInt8) : Option (Int × Int × List UInt8) :=
  if Lib.hasPrefix l wNull.data.toList then some (1, 0, l.drop 4)
  else if Lib.hasPrefix l wTrue.data.toList then some (2, 1, l.drop 4)
  else if Lib.hasPrefix l wFalse.data.toList then some (2, 0, l.drop 5) else none
/-- What a step of the reader answers that yields a value without parts. -/
def PlV (w : World) (rb : Nat) (s : ByteArray) (r : Option (Int × Int × List UInt8)) (e : Ending) (w' : World) : Prop :=
  match r with
  | some (k, n, l') => e = .returned (.tuple #[.agg (jC k n ⟨#[]⟩ (.slice none 0 0) (.slice none 0 0)), .int .i64 0]) ∧ RdP w rb s l' w'
  | none => e = .returned (.tuple #[.agg jZ, .int .i64 181]) ∧ ∃ l', RdP w rb s l' w'

set_option maxRecDepth 100000 in
set_option maxHeartbeats 2000000 in
theorem word_calls (w : World) (rb n : Nat) (s : ByteArray) (l : List UInt8) (h : Rd w rb s n l) :
    Calls Tryd.prog 62 #[.pointer (some ⟨rb, 0, none⟩)] w (PlV w rb s (wordP l)) := by
  have hrb := lt_of_heapT h.blk
  obtain ⟨w1, Hw1⟩ : ∃ w1, Hid (w1 = w.alloc (.cells jZ 26)) := ⟨_, rfl⟩
  obtain ⟨g, Hg⟩ : ∃ g, Hid (g = w.heap.size) := ⟨_, rfl⟩
  have HB1 : Hid (Blk w1 g jZ 26) := by rw [Hid, Hw1.out, Hg.out]; exact Blk.new _ _ _
  have HF1 : Hid (Frm (fun k => k = rb) w w1) := by rw [Hid, Hw1.out]; exact Frm.ofBelow (below_new _ _) _
  have h1 : Rd w1 rb s n l := by rw [Hw1.out]; exact h.below (below_new _ _)
  have hne : g ≠ rb := by rw [Hg.out]; omega
  have hgw : w.heap.size ≤ g := by rw [Hg.out]; exact Nat.le_refl _
  clear h
  unfold jZ jC at Hw1
  go_enter Tryd.func62, Tryd.ntmps62
  go_wp2_with fail
  rw [← Hw1.out, ← Hg.out]
  clear Hw1 Hg
  refine (takeWord_calls w1 rb n s l wNull h1 (by decide)).mono ?_
  rintro e w2 ⟨rfl, hR2, hF2⟩
  have HF2 : Hid (Frm (fun k => k = rb) w w2) := HF1.out.trans hF2
  have HB2 : Hid (Blk w2 g jZ 26) := HB1.out.rd hF2 hne
  by_cases p0 : Lib.hasPrefix l wNull.data.toList = true
  · rw [p0]
    simp only [p0, if_true] at hR2
    have HP : Hid (wordP l = some (1, 0, l.drop 4)) := by simp only [Hid, wordP, p0]; rfl
    clear hF2
    go_wp2_with fail
    refine (null_calls _).mono ?_
    rintro e w9 ⟨rfl, hb9⟩
    have HB9 : Hid (Blk w9 g jZ 26) := HB2.out.below hb9
    obtain ⟨c0, c1, c2, c3, c4, f0, f1, f2, f3, f4⟩ := Blk.five HB9.out
    have HZ : Hid (RdP w rb s (l.drop 4) w9) := RdP.below ⟨hR2, HF2.out⟩ hb9
    clear hb9 hR2
    unfold jC
    go_wp2
    change bodyPost _ _ _ _ _ (putC w9 g 0 [.int .i64 1, .int .i64 0, .string ⟨#[]⟩, .slice none 0 0, .slice none 0 0])
    exact ret_cellE rfl rfl rfl rfl (load_js (putC_all HB9.out rfl) rfl) (by rw [HP.out]; exact ⟨rfl, HZ.out.put hgw hrb _⟩)
  · rw [Bool.eq_false_iff.2 p0]
    simp only [p0, if_false, Bool.false_eq_true] at hR2
    obtain ⟨n2, h2⟩ := hR2
    clear hF2
    go_wp2_with fail
    refine (takeWord_calls w2 rb n2 s l wTrue h2 (by decide)).mono ?_
    rintro e w3 ⟨rfl, hR3, hF3⟩
    have HF3 : Hid (Frm (fun k => k = rb) w w3) := HF2.out.trans hF3
    have HB3 : Hid (Blk w3 g jZ 26) := HB2.out.rd hF3 hne
    by_cases p1 : Lib.hasPrefix l wTrue.data.toList = true
    · rw [p1]
      simp only [p1, if_true] at hR3
      have HP : Hid (wordP l = some (2, 1, l.drop 4)) := by simp only [Hid, wordP, p0, p1]; rfl
      clear hF3
      go_wp2_with fail
      refine (boolJ_calls true _).mono ?_
      rintro e w9 ⟨rfl, hb9⟩
      have HB9 : Hid (Blk w9 g jZ 26) := HB3.out.below hb9
      obtain ⟨c0, c1, c2, c3, c4, f0, f1, f2, f3, f4⟩ := Blk.five HB9.out
      have HZ : Hid (RdP w rb s (l.drop 4) w9) := RdP.below ⟨hR3, HF3.out⟩ hb9
      clear hb9 hR3
      unfold jC
      go_wp2
      change bodyPost _ _ _ _ _ (putC w9 g 0 [.int .i64 2, .int .i64 1, .string ⟨#[]⟩, .slice none 0 0, .slice none 0 0])
      exact ret_cellE rfl rfl rfl rfl (load_js (putC_all HB9.out rfl) rfl) (by rw [HP.out]; exact ⟨rfl, HZ.out.put hgw hrb _⟩)
    · rw [Bool.eq_false_iff.2 p1]
      simp only [p1, if_false, Bool.false_eq_true] at hR3
      obtain ⟨n3, h3⟩ := hR3
      clear hF3
      go_wp2_with fail
      refine (takeWord_calls w3 rb n3 s l wFalse h3 (by decide)).mono ?_
      rintro e w4 ⟨rfl, hR4, hF4⟩
      have HF4 : Hid (Frm (fun k => k = rb) w w4) := HF3.out.trans hF4
      have HB4 : Hid (Blk w4 g jZ 26) := HB3.out.rd hF4 hne
      by_cases p2 : Lib.hasPrefix l wFalse.data.toList = true
      · rw [p2]
        simp only [p2, if_true] at hR4
        have HP : Hid (wordP l = some (2, 0, l.drop 5)) := by simp only [Hid, wordP, p0, p1, p2]; rfl
        clear hF4
        go_wp2_with fail
        refine (boolJ_calls false _).mono ?_
        rintro e w9 ⟨rfl, hb9⟩
        have HB9 : Hid (Blk w9 g jZ 26) := HB4.out.below hb9
        obtain ⟨c0, c1, c2, c3, c4, f0, f1, f2, f3, f4⟩ := Blk.five HB9.out
        have HZ : Hid (RdP w rb s (l.drop 5) w9) := RdP.below ⟨hR4, HF4.out⟩ hb9
        clear hb9 hR4
        unfold jC
        go_wp2
        change bodyPost _ _ _ _ _ (putC w9 g 0 [.int .i64 2, .int .i64 0, .string ⟨#[]⟩, .slice none 0 0, .slice none 0 0])
        exact ret_cellE rfl rfl rfl rfl (load_js (putC_all HB9.out rfl) rfl) (by rw [HP.out]; exact ⟨rfl, HZ.out.put hgw hrb _⟩)
      · rw [Bool.eq_false_iff.2 p2]
        simp only [p2, if_false, Bool.false_eq_true] at hR4
        obtain ⟨n4, h4⟩ := hR4
        clear hF4
        have HP : Hid (wordP l = none) := by simp only [Hid, wordP, p0, p1, p2]; rfl
        obtain ⟨c0, c1, c2, c3, c4, f0, f1, f2, f3, f4⟩ := Blk.five HB4.out
        have HZ : Hid (RdP w rb s l w4) := ⟨⟨n4, h4⟩, HF4.out⟩
        go_wp2
        change bodyPost _ _ _ _ _ (putC w4 g 0 [.int .i64 0, .int .i64 0, .string ⟨#[]⟩, .slice none 0 0, .slice none 0 0])
        exact ret_cellE rfl rfl rfl rfl (load_js (putC_all HB4.out rfl) rfl) (by rw [HP.out]; exact ⟨rfl, l, HZ.out.put hgw hrb _⟩)
end Go.Proofs.YtelhgjepjieocaaDoor
