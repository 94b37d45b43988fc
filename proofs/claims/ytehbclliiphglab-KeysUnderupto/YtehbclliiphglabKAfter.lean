/- The walks of Starts, After and the document's After. -/
import Derived.Test.YtehbclliiphglabKWrite
import Derived.Lib.ConvBytes
namespace Go.Proofs.Ytehbclliiphglab
open Go.RowKit
set_option linter.unusedVariables false

def startsB (s p : List UInt8) : Bool := decide (p.length ≤ s.length) && (s.take p.length == p)

theorem extract_take (s : ByteArray) (k : Nat) : (s.extract 0 k).data.toList = s.data.toList.take k := by
  rw [ByteArray.data_extract]
  simp

set_option maxHeartbeats 400000 in
theorem starts_calls (s p : ByteArray) (w : World) (hs : s.size ≤ 281474976702464) (hp : p.size ≤ 281474976702464) :
    Calls Try.prog 13 #[.string s, .string p] w fun e w' => e = .returned (.bool (startsB s.data.toList p.data.toList)) ∧ w' = w := by
  by_cases h : p.size ≤ s.size
  · have hi : (p.size : Int) ≤ (s.size : Int) := by omega
    have hd : decide ((p.size : Int) ≤ (s.size : Int)) = true := by simpa using h
    go_enter Try.func13, Try.ntmps13
    go_wp2
    go_light
    go_ret
    refine ⟨ret_bool ?_, rfl⟩
    rw [ByteArray.toList_eq, ByteArray.toList_eq, extract_take]
    simp [startsB, h]
  · have hd : decide ((p.size : Int) ≤ (s.size : Int)) = false := by simp; omega
    go_enter Try.func13, Try.ntmps13
    go_wp2
    go_ret
    refine ⟨ret_bool ?_, rfl⟩
    simp [startsB, h]

/-- The least text behind all that begin with l. -/
def aft : List UInt8 → Option (List UInt8)
  | [] => none
  | c :: r => match aft r with
    | some x => some (c :: x)
    | none => if c = 255 then none else some [c + 1]

theorem aft_none (l : List UInt8) (h : ∀ i (hi : i < l.length), l[i] = 255) : aft l = none := by
  induction l with
  | nil => rfl
  | cons c r ih =>
    have h0 : c = 255 := h 0 (by simp)
    have hr := ih fun i hi => h (i + 1) (by simp; omega)
    simp [aft, hr, h0]
theorem aft_at (l : List UInt8) : ∀ (j : Nat) (hj : j < l.length), l[j] ≠ 255 → (∀ i (hi : i < l.length), j < i → l[i] = 255) → aft l = some (l.take j ++ [l[j] + 1]) := by
  induction l with
  | nil => intro j hj; simp at hj
  | cons c r ih =>
    intro j hj hc h
    cases j with
    | zero =>
      have hr := aft_none r fun i hi => h (i + 1) (by simp; omega) (by omega)
      simp at hc
      simp [aft, hr, hc]
    | succ j =>
      have := ih j (by simpa using hj) (by simpa using hc) fun i hi hji => h (i + 1) (by simp; omega) (by omega)
      simp [aft, this]

def aftAns (l : List UInt8) : List UInt8 × Bool := match aft l with
  | none => ([], false)
  | some x => (x, true)

/-- []byte(s): new memory that holds the text's bytes. -/
theorem conv_bytes (w : World) (s : ByteArray) (n : Nat) (hn : s.size = n) : ∃ cap w1, (convert 9 47 (.string s)).run Try.prog w = .ok (.slice (some ⟨w.heap.size, 0, none⟩) n cap) w1 ∧
    (∀ j (h : j < n), w1.cell? ⟨w.heap.size, j, none⟩ = some (.int .u8 (s.data.toList.getD j 0).toNat) ∧ w1.frozen? ⟨w.heap.size, j, none⟩ = false) ∧ Below w.heap.size w w1 ∧ w.heap.size < w1.heap.size := by
  subst hn
  refine ⟨_, _, Lib.run_convert_string_bytes w _ _ _ s Try.underlying9 Try.underlying47 Try.underlying5, ?_, ?_, ?_⟩
  · intro j hj
    refine ⟨Lib.bytesWorld_cell w _ s j hj, ?_⟩
    simp only [World.frozen?, Lib.bytesWorld_at_new]
    simp [Lib.bytesCells]
    omega
  · refine ⟨rfl, rfl, rfl, by rw [Lib.bytesWorld_size]; omega, fun k hk => Lib.bytesWorld_at_old w _ s k hk⟩
  · rw [Lib.bytesWorld_size]; omega

theorem u8_succ {c : UInt8} (h : c ≠ 255) : (c + 1).toNat = c.toNat + 1 := by
  have h1 : c.toNat ≠ 255 := fun e => h (UInt8.toNat_inj.1 (by rw [e]; rfl))
  have h2 : c.toNat < 256 := c.toNat_lt
  rw [UInt8.toNat_add]
  have h3 : (1 : UInt8).toNat = 1 := rfl
  rw [h3]
  omega

/-- .. and back, with the last byte one higher. -/
theorem conv_back (w1 : World) (s : ByteArray) (g j cap : Nat) (hj : j < s.size) (hc : s[j] ≠ 255)
    (hcell : ∀ i (h : i < j + 1), w1.cell? ⟨g, i, none⟩ = some (.int .u8 ((s.extract 0 (j + 1)).data.toList.getD i 0).toNat)) :
    (convert 47 9 (.slice (some ⟨g, 0, none⟩) (j + 1) cap)).run Try.prog (w1.setCell ⟨g, j, none⟩ (.int .u8 ((s[j].toNat : Int) + 1))) = .ok (.string ⟨(s.data.toList.take j ++ [s[j] + 1]).toArray⟩) (w1.setCell ⟨g, j, none⟩ (.int .u8 ((s[j].toNat : Int) + 1))) := by
  have hl : (s.data.toList.take j ++ [s[j] + 1]).length = j + 1 := by simp; omega
  have := run_convert_bytes_back (P := Try.prog) (w1.setCell ⟨g, j, none⟩ (.int .u8 ((s[j].toNat : Int) + 1))) 47 9 5 ⟨g, 0, none⟩ cap (s.data.toList.take j ++ [s[j] + 1]) Try.underlying47 Try.underlying5 Try.underlying9 ?_
  · rw [hl] at this; exact this
  · intro i hi
    rw [hl] at hi
    have hadd : (⟨g, 0, none⟩ : Addr).add i = ⟨g, i, none⟩ := by unfold Addr.add; split <;> simp_all
    rw [hadd]
    by_cases hij : i = j
    · subst hij
      rw [World.cell?_setCell_same _ _ _ (hcell i hi)]
      simp [u8_succ hc, show min i s.size = i by omega]
    · have hne : (⟨g, j, none⟩ : Addr) ≠ ⟨g, i, none⟩ := fun e => hij (by simpa using e.symm)
      rw [World.cell?_setCell_other _ _ _ _ hne, hcell i hi, extract_take]
      have hi2 : i < j := by omega
      rw [List.getElem_append_left (by simp; omega)]
      simp [show i < s.size by omega, hi]

theorem bytes_aft_none (s : ByteArray) (h : ∀ i (h : i < s.size), s[i] = 255) : aftAns s.data.toList = ([], false) := by
  have := aft_none s.data.toList fun i hi => h i (by simpa using hi)
  simp [aftAns, this]
theorem bytes_aft_at (s : ByteArray) (j : Nat) (hj : j < s.size) (hc : s[j] ≠ 255) (h : ∀ i (h : i < s.size), j + 1 ≤ i → s[i] = 255) : aftAns s.data.toList = (s.data.toList.take j ++ [s[j] + 1], true) := by
  have := aft_at s.data.toList j (by simpa using hj) hc fun i hi hji => h i (by simpa using hi) hji
  simp only [aftAns, this]
  rfl

theorem b255_eq {c : UInt8} (h : c = 255) : ((c.toNat : Int) == 255) = true := by subst h; rfl
theorem b255_ne {c : UInt8} (h : ¬ c = 255) : ((c.toNat : Int) == 255) = false := by
  have : c.toNat ≠ 255 := fun e => h (UInt8.toNat_inj.1 (by rw [e]; rfl))
  rw [beq_eq_false_iff_ne]
  omega

set_option maxRecDepth 100000 in
set_option maxHeartbeats 1000000 in
theorem after_calls (s : ByteArray) (w : World) (hs : s.size ≤ 140737488351232) :
    Calls Try.prog 14 #[.string s] w fun e w' => e = .returned (.tuple #[.string ⟨(aftAns s.data.toList).1.toArray⟩, .bool (aftAns s.data.toList).2]) ∧ Below w.heap.size w w' := by
  go_enter Try.func14, Try.ntmps14
  go_wp2
  go_loop [4] (fun x => ∃ k : Nat, k ≤ s.size ∧ x = .int .i64 k ∧ Hid (∀ i (h : i < s.size), k ≤ i → s[i] = 255)) (fun x => (intOf x).toNat)
  case atStart => exact ⟨s.size, Nat.le_refl _, rfl, fun i h h2 => by omega⟩
  case round =>
    obtain ⟨k, hk, rfl, HK⟩ := hrel
    cases k with
    | zero =>
      have HA : Hid (aftAns s.data.toList = ([], false)) := bytes_aft_none s fun i h => HK.out i h (by omega)
      go_wp2
      go_light
      go_ret2
      rw [HA.out]
      exact ⟨rfl, Below.refl _ _⟩
    | succ j =>
      have hj : j < s.size := by omega
      have hd : decide ((0 : Int) < ((j + 1 : Nat) : Int)) = true := by simp
      by_cases hc : s[j] = 255
      · have hcb := b255_eq hc
        have HK2 : Hid (∀ i (h : i < s.size), j ≤ i → s[i] = 255) := by
          intro i h h2
          by_cases e : i = j
          · subst e; exact hc
          · exact HK.out i h (by omega)
        clear hc
        go_wp2
        go_round
        case rel => exact ⟨j, by omega, rfl, HK2⟩
        case measure => simp [intOf]
      · have hcb := b255_ne hc
        have HA : Hid (aftAns s.data.toList = (s.data.toList.take j ++ [s[j] + 1], true)) := bytes_aft_at s j hj hc HK.out
        obtain ⟨cap, w1, hrun, hcells, hb1, hs1⟩ := conv_bytes w (s.extract 0 (j + 1)) (j + 1) (by simp; omega)
        have hback := conv_back w1 s w.heap.size j cap hj hc fun i hi => (hcells i hi).1
        have hcj : w1.cell? ⟨w.heap.size, j, none⟩ = some (.int .u8 s[j].toNat) := by
          rw [(hcells j (by omega)).1, extract_take]
          have : (s.data.toList.take (j + 1)).getD j 0 = s[j] := by simp [hj]; rfl
          rw [this]
        have hfj := (hcells j (by omega)).2
        have hby : (s[j].toNat : Int) + 1 ≤ 255 := by
          have h1 : s[j].toNat ≠ 255 := fun e => hc (UInt8.toNat_inj.1 (by rw [e]; rfl))
          have := s[j].toNat_lt
          omega
        clear hcells hc
        go_wp2
        go_light
        go_ret2
        rw [HA.out]
        exact ⟨rfl, hb1.setCell (by simp) _⟩

set_option maxRecDepth 100000 in
set_option maxHeartbeats 1000000 in
theorem rafter_calls (s : ByteArray) (w : World) (hs : s.size ≤ 140737488351232) :
    Calls Try.prog 15 #[.string s] w fun e w' => e = .returned (.tuple #[.string ⟨(aftAns s.data.toList).1.toArray⟩, .bool (aftAns s.data.toList).2]) ∧ Below w.heap.size w w' := by
  go_enter Try.func15, Try.ntmps15
  go_wp2
  go_loop [4] (fun x => ∃ k : Nat, k ≤ s.size ∧ x = .int .i64 ((k : Int) - 1) ∧ Hid (∀ i (h : i < s.size), k ≤ i → s[i] = 255)) (fun x => (intOf x + 1).toNat)
  case atStart => exact ⟨s.size, Nat.le_refl _, rfl, fun i h h2 => by omega⟩
  case round =>
    obtain ⟨k, hk, rfl, HK⟩ := hrel
    cases k with
    | zero =>
      have HA : Hid (aftAns s.data.toList = ([], false)) := bytes_aft_none s fun i h => HK.out i h (by omega)
      go_wp2
      go_light
      go_ret2
      rw [HA.out]
      exact ⟨rfl, Below.refl _ _⟩
    | succ j =>
      have hj : j < s.size := by omega
      rw [show (((j + 1 : Nat) : Int) - 1) = (j : Int) by omega]
      by_cases hc : s[j] = 255
      · have hcb : ((s[j].toNat : Int) != 255) = false := by have := b255_eq hc; simpa [bne] using this
        have HK2 : Hid (∀ i (h : i < s.size), j ≤ i → s[i] = 255) := by
          intro i h h2
          by_cases e : i = j
          · subst e; exact hc
          · exact HK.out i h (by omega)
        clear hc
        go_wp2
        go_round
        case rel => exact ⟨j, by omega, rfl, HK2⟩
        case measure => simp [intOf]
      · have hcb : ((s[j].toNat : Int) != 255) = true := by have := b255_ne hc; simpa [bne] using this
        have HA : Hid (aftAns s.data.toList = (s.data.toList.take j ++ [s[j] + 1], true)) := bytes_aft_at s j hj hc HK.out
        obtain ⟨cap, w1, hrun, hcells, hb1, hs1⟩ := conv_bytes w (s.extract 0 (j + 1)) (j + 1) (by simp; omega)
        have hback := conv_back w1 s w.heap.size j cap hj hc fun i hi => (hcells i hi).1
        have hcj : w1.cell? ⟨w.heap.size, j, none⟩ = some (.int .u8 s[j].toNat) := by
          rw [(hcells j (by omega)).1, extract_take]
          have : (s.data.toList.take (j + 1)).getD j 0 = s[j] := by simp [hj]; rfl
          rw [this]
        have hfj := (hcells j (by omega)).2
        have hby : (s[j].toNat : Int) + 1 ≤ 255 := by
          have h1 : s[j].toNat ≠ 255 := fun e => hc (UInt8.toNat_inj.1 (by rw [e]; rfl))
          have := s[j].toNat_lt
          omega
        clear hcells hc
        go_wp2
        go_light
        go_ret2
        rw [HA.out]
        exact ⟨rfl, hb1.setCell (by simp) _⟩
end Go.Proofs.Ytehbclliiphglab
