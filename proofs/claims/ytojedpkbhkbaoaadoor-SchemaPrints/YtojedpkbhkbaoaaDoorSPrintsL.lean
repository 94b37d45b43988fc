/- Layer 6 (schema): SchemaPrints. -/
import Derived.Test.YtojedpkbhkbaoaaDoorSNames
import Derived.Test.YtojedpkbhkbaoaaDoorSRPlain
import Derived.Test.YtojedpkbhkbaoaaDoorSRSame2
namespace Go.Proofs.YtojedpkbhkbaoaaDoor
open Go.RowKit
set_option linter.unusedVariables false

theorem rTable_err {ln : Int} {ws : List ByteArray} {st : St} {e : Int × Int} (h : rTable ln ws st = .error e) : e.2 ≠ 0 := by
  unfold rTable at h
  repeat' split at h
  all_goals first | (injection h with h; subst h; simp; done) | (cases h; done)
theorem rField_err {ln : Int} {ws : List ByteArray} {st : St} {e : Int × Int} (h : rField ln ws st = .error e) : e.2 ≠ 0 := by
  unfold rField at h
  repeat' split at h
  all_goals first | (injection h with h; subst h; simp; done) | (cases h; done)
theorem rIndex_err {ln : Int} {ws : List ByteArray} {st : St} {e : Int × Int} (h : rIndex ln ws st = .error e) : e.2 ≠ 0 := by
  unfold rIndex at h
  repeat' split at h
  all_goals first | (injection h with h; subst h; simp; done) | (cases h; done)
theorem rLine_err {ln : Int} {ws : List ByteArray} {st : St} {e : Int × Int} (h : rLine ln ws st = .error e) : e.2 ≠ 0 := by
  unfold rLine at h
  repeat' split at h
  · exact rTable_err h
  · exact rField_err h
  · exact rIndex_err h
  · injection h with h; subst h; simp
theorem rLines_err : ∀ {ls : List ByteArray} {ln : Int} {st : St} {e : Int × Int}, rLines ln ls st = .error e → e.2 ≠ 0
  | [], ln, st, e, h => by cases h
  | l :: ls, ln, st, e, h => by
    rw [rLines] at h
    split at h
    · exact rLines_err h
    · split at h
      · next h1 => injection h with h; subst h; exact rLine_err h1
      · exact rLines_err h
theorem parse_err {text : ByteArray} {e : Int × Int} (h : parseP text = .error e) : e.2 ≠ 0 := by
  unfold parseP at h
  split at h
  · injection h with h; subst h; simp
  · split at h
    · next h1 => injection h with h; subst h; exact rLines_err h1
    · split at h
      · injection h with h; subst h; simp
      · cases h
theorem parse_short {text : ByteArray} {us : List Tb} (h : parseP text = .ok us) : text.size ≤ 8192 := by
  unfold parseP at h
  split at h
  · cases h
  · omega

theorem KindsAt.next {w w' : World} (h : KindsAt w) (hb : Below w.heap.size w w') : KindsAt w' := (h.fr (Fr.ofBelow hb (Nat.le_refl _)) (World.block_lt_of_cell? w _ h.c0))
theorem cell_next {w w' : World} {a : Addr} {v : Value} (h : w.cell? a = some v) (hb : Below w.heap.size w w') : w'.cell? a = some v := by rw [hb.cell (by exact World.block_lt_of_cell? w _ h)]; exact h
theorem text_size (l : List UInt8) : (⟨l.toArray⟩ : ByteArray).size = l.length := by show l.toArray.size = _; simp
theorem TabsRd.nil (w : World) : TabsRd w none [] := ⟨fun h => absurd rfl h, fun t ht => by simp at ht, fun t ht => by simp at ht, fun t ht => by simp at ht, by simp, fun t ht => by simp at ht⟩

set_option maxRecDepth 100000 in
set_option maxHeartbeats 4000000 in
theorem schemaPrints_calls (text : ByteArray) (w : World) (mx : Int) (hmx : w.cell? ⟨1, 0, none⟩ = some (.int .i64 mx)) (hk : KindsAt w) :
    Calls Tryd.prog 4 #[.string text] w fun e w' => e = .returned (.bool true) ∧ Below w.heap.size w w' := by
  have HM : Hid (w.cell? ⟨1, 0, none⟩ = some (.int .i64 mx)) := hmx
  have HK : Hid (KindsAt w) := hk
  clear hmx hk
  go_enter Tryd.func4, Tryd.ntmps4
  go_wp2_with fail
  refine (schemaFixed_calls w mx HM.out HK.out).mono ?_
  rintro e w1 ⟨rfl, hb1⟩
  have HM1 : Hid (w1.cell? ⟨1, 0, none⟩ = some (.int .i64 mx)) := cell_next HM.out hb1
  have HK1 : Hid (KindsAt w1) := HK.out.next hb1
  have HB1 : Hid (Below w.heap.size w w1) := hb1
  have HPr := print_calls none 0 [] w1 (TabsRd.nil _) HK1.out
  clear hb1 HM HK
  go_wp2_with fail
  refine HPr.mono ?_
  clear HPr
  rintro e w2 ⟨rfl, hb2⟩
  have HM2 : Hid (w2.cell? ⟨1, 0, none⟩ = some (.int .i64 mx)) := cell_next HM1.out hb2
  have HK2 : Hid (KindsAt w2) := HK1.out.next hb2
  have HB2 : Hid (Below w.heap.size w w2) := HB1.out.trans (hb2.mono HB1.out.size)
  have q1 : (⟨(printL (tbs [])).toArray⟩ : ByteArray).toList = [] := by rw [ByteArray.toList_eq]; rfl
  clear hb2 HM1 HK1 HB1
  go_wp2_with fail
  have HPa := parse_calls text w2 mx HM2.out HK2.out
  refine HPa.mono ?_
  clear HPa
  rintro e w3 ⟨hb3, h3⟩
  have HM3 : Hid (w3.cell? ⟨1, 0, none⟩ = some (.int .i64 mx)) := cell_next HM2.out hb3
  have HK3 : Hid (KindsAt w3) := HK2.out.next hb3
  have HB3 : Hid (Below w.heap.size w w3) := HB2.out.trans (hb3.mono HB2.out.size)
  clear hb3 HM2 HK2 HB2
  cases hp : parseP text with
  | error lc =>
    obtain ⟨l, c⟩ := lc
    have hc := parse_err hp
    dsimp only at hc
    rw [hp] at h3
    dsimp only at h3
    subst h3
    have q2 : (c != 0) = true := by simpa using hc
    go_wp2
    go_ret
    exact ⟨rfl, HB3.out.alloc HB3.out.size _⟩
  | ok us =>
    rw [hp] at h3
    obtain ⟨ao, cap, ts, rfl, hts, htb⟩ := h3
    have HT3 : Hid (TabsRd w3 ao ts) := htb.reads
    have HU : Hid (tbs ts = us) := hts
    have HP : Hid (parseP text = .ok us) := hp
    have hsz := parse_short hp
    clear hts htb hp
    go_wp2_with fail
    obtain ⟨w4, hw4⟩ : ∃ w4, w4 = w3.alloc (.cells #[.slice ao ts.length cap] 26) := ⟨_, rfl⟩
    have hb4 : Below w3.heap.size w3 w4 := by rw [hw4]; exact (Below.refl _ _).alloc (Nat.le_refl _) _
    have s4 : w4.cell? ⟨w3.heap.size, 0, none⟩ = some (.slice ao ts.length cap) := by rw [hw4, cell_blk (new_blk _ _)]; rfl
    rw [← hw4]
    clear hw4
    have HM4 : Hid (w4.cell? ⟨1, 0, none⟩ = some (.int .i64 mx)) := cell_next HM3.out hb4
    have HK4 : Hid (KindsAt w4) := HK3.out.next hb4
    have HB4 : Hid (Below w.heap.size w w4) := HB3.out.trans (hb4.mono HB3.out.size)
    have HT4 : Hid (TabsRd w4 ao ts) := HT3.out.below hb4
    obtain ⟨sb, hsb⟩ : ∃ sb, sb = w3.heap.size := ⟨_, rfl⟩
    rw [← hsb] at s4 ⊢
    clear hb4 HM3 HK3 HB3 HT3 hsb
    have HPr := print_calls ao cap ts w4 HT4.out HK4.out
    have hpp : (⟨(printL (tbs ts)).toArray⟩ : ByteArray) = ⟨(plainL text).toArray⟩ := by rw [HU.out, parse_prints HP.out]
    rw [hpp] at HPr
    clear hpp
    refine HPr.mono ?_
    clear HPr
    rintro e w5 ⟨rfl, hb5⟩
    have s5 := cell_next s4 hb5
    have HM5 : Hid (w5.cell? ⟨1, 0, none⟩ = some (.int .i64 mx)) := cell_next HM4.out hb5
    have HK5 : Hid (KindsAt w5) := HK4.out.next hb5
    have HB5 : Hid (Below w.heap.size w w5) := HB4.out.trans (hb5.mono HB4.out.size)
    have HT5 : Hid (TabsRd w5 ao ts) := HT4.out.below hb5
    clear hb5 HM4 HK4 HB4 HT4 s4
    obtain ⟨pt, hpt⟩ : ∃ pt : ByteArray, pt = ⟨(plainL text).toArray⟩ := ⟨_, rfl⟩
    have HPt : Hid (pt = ⟨(plainL text).toArray⟩) := hpt
    rw [← hpt]
    clear hpt
    go_wp2_with fail
    have HPl := rplain_calls text w5 hsz
    rw [← HPt.out] at HPl
    refine HPl.mono ?_
    clear HPl
    rintro e w6 ⟨rfl, hb6⟩
    have s6 := cell_next s5 hb6
    have HM6 : Hid (w6.cell? ⟨1, 0, none⟩ = some (.int .i64 mx)) := cell_next HM5.out hb6
    have HK6 : Hid (KindsAt w6) := HK5.out.next hb6
    have HB6 : Hid (Below w.heap.size w w6) := HB5.out.trans (hb6.mono HB5.out.size)
    have HT6 : Hid (TabsRd w6 ao ts) := HT5.out.below hb6
    clear hb6 HM5 HK5 HB5 HT5 s5
    have q2 : (pt.toList != pt.toList) = false := by simp
    by_cases hlong : 8192 < pt.size
    · have HLo : Hid (parseP pt = .error (0, 60)) := by
        show _ = _
        rw [HPt.out, text_size] at hlong
        rw [HPt.out]
        exact parse_long hlong
      go_wp2_with fail
      have HPa := parse_calls pt w6 mx HM6.out HK6.out
      rw [HLo.out] at HPa
      refine HPa.mono ?_
      clear HPa
      rintro e w7 ⟨hb7, rfl⟩
      have HB7 : Hid (Below w.heap.size w w7) := HB6.out.trans (hb7.mono HB6.out.size)
      clear hb7
      go_wp2
      go_ret
      exact ⟨rfl, HB7.out.alloc HB7.out.size _⟩
    · have HOk : Hid (parseP pt = .ok us) := by
        show _ = _
        rw [HPt.out, text_size] at hlong
        rw [HPt.out]
        exact parse_again HP.out (by omega)
      go_wp2_with fail
      have HPa := parse_calls pt w6 mx HM6.out HK6.out
      rw [HOk.out] at HPa
      refine HPa.mono ?_
      clear HPa
      rintro e w7 ⟨hb7, bo, cap2, vs, rfl, hvs, hvb⟩
      have s7 : ∀ o, (w7.alloc o).cell? ⟨sb, 0, none⟩ = some (.slice ao ts.length cap) := fun o => cell_next (cell_next s6 hb7) ((Below.refl _ _).alloc (Nat.le_refl _) o)
      have HK7 : Hid (KindsAt w7) := HK6.out.next hb7
      have HB7 : Hid (Below w.heap.size w w7) := HB6.out.trans (hb7.mono HB6.out.size)
      have HT7 : Hid (TabsRd w7 ao ts) := HT6.out.below hb7
      have HV7 : Hid (TabsRd w7 bo vs) := hvb.reads
      have HVU : Hid (tbs vs = us) := hvs
      clear hb7 hvs hvb s6 HM6 HK6 HB6 HT6
      go_wp2_with fail
      have hb8 : Below w7.heap.size w7 (w7.alloc (.cells #[.slice bo vs.length cap2] 26)) := (Below.refl _ _).alloc (Nat.le_refl _) _
      have n8 : (w7.alloc (.cells #[.slice bo vs.length cap2] 26)).cell? ⟨w7.heap.size, 0, none⟩ = some (.slice bo vs.length cap2) := by rw [cell_blk (new_blk _ _)]; rfl
      obtain ⟨w8, hw8⟩ : ∃ w8, w8 = w7.alloc (.cells #[.slice bo vs.length cap2] 26) := ⟨_, rfl⟩
      rw [← hw8] at hb8 n8 ⊢
      clear hw8
      refine (same_calls ao bo cap cap2 ts vs w8 (HT7.out.below hb8) (HV7.out.below hb8) (by rw [HU.out, HVU.out])).mono ?_
      rintro e w9 ⟨rfl, hb9⟩
      have n9 := cell_next n8 hb9
      have HB9 : Hid (Below w.heap.size w w9) := HB7.out.trans ((hb8.trans (hb9.mono hb8.size)).mono HB7.out.size)
      have HK9 : Hid (KindsAt w9) := (HK7.out.next hb8).next hb9
      have HV9 : Hid (TabsRd w9 bo vs) := (HV7.out.below hb8).below hb9
      have q3 : (pt.toList == pt.toList) = true := by simp
      clear hb8 hb9 n8 s7 HB7 HK7 HV7 HT7
      go_wp2_with fail
      have HPr := print_calls bo cap2 vs w9 HV9.out HK9.out
      have hpp : (⟨(printL (tbs vs)).toArray⟩ : ByteArray) = pt := by rw [HVU.out, parse_prints HP.out, HPt.out]
      rw [hpp] at HPr
      refine HPr.mono ?_
      clear HPr
      rintro e w10 ⟨rfl, hb10⟩
      have HB10 : Hid (Below w.heap.size w w10) := HB9.out.trans (hb10.mono HB9.out.size)
      clear hb10
      go_wp2
      go_ret
      exact ⟨rfl, HB10.out⟩
end Go.Proofs.YtojedpkbhkbaoaaDoor
