/- Layer 9 (records): RecordsSchema, the walk. -/
import Derived.Test.YtdomajhffmfbbaaDoorRcSchemaT
import Derived.Test.YtdomajhffmfbbaaDoorSPrint
import Derived.Test.YtdomajhffmfbbaaDoorSCatch
import Derived.Test.YtdomajhffmfbbaaDoorSRSame2
import Derived.Test.YtdomajhffmfbbaaDoorSRParse
namespace Go.Proofs.YtdomajhffmfbbaaDoor
open Go.RowKit
set_option linter.unusedVariables false

theorem schema_print : (⟨(printL schemaS).toArray⟩ : ByteArray) = schemaT := by kernel_rfl
theorem schema_size : schemaT.size ≤ 1000 := by decide +kernel
theorem KindsAt.nxt {w w' : World} (h : KindsAt w) (hb : Below w.heap.size w w') : KindsAt w' := (h.fr (Fr.ofBelow hb (Nat.le_refl _)) (World.block_lt_of_cell? w _ h.c0))
theorem cell_nxt {w w' : World} {a : Addr} {v : Value} (h : w.cell? a = some v) (hb : Below w.heap.size w w') : w'.cell? a = some v := by rw [hb.cell (by exact World.block_lt_of_cell? w _ h)]; exact h

set_option maxRecDepth 100000 in
theorem schemaText_calls (w : World) : Calls Tryd.prog 17 #[] w fun e w' => e = .returned (.string schemaT) ∧ w' = w := by
  go_enter Tryd.func17, Tryd.ntmps17
  go_wp2
  go_ret
  exact ⟨rfl, rfl⟩
set_option maxRecDepth 100000 in
theorem refSchemaText_calls (w : World) : Calls Tryd.prog 19 #[] w fun e w' => e = .returned (.string schemaT) ∧ w' = w := by
  go_enter Tryd.func19, Tryd.ntmps19
  go_wp2
  go_ret
  refine ⟨?_, rfl⟩
  congr 2

set_option maxRecDepth 100000 in
set_option maxHeartbeats 4000000 in
theorem recordsSchema_calls (w : World) (mx : Int) (hmx : w.cell? ⟨1, 0, none⟩ = some (.int .i64 mx)) (hk : KindsAt w) :
    Calls Tryd.prog 6 #[] w fun e w' => e = .returned (.bool true) ∧ Below w.heap.size w w' := by
  have HP := parse_calls schemaT w mx hmx hk
  rw [schema_parse] at HP
  have HP : Hid (Calls Tryd.prog 16 #[.string schemaT] w fun e w' => Parsed w (.ok schemaS) e w') := HP
  have HR : Hid (∀ w, Calls Tryd.prog 18 #[.string schemaT] w fun e w' => PParsed w (.ok schemaS) e w') := fun w => by
    have := rparse_calls schemaT w (Nat.le_trans schema_size (by decide))
    rw [schema_parse] at this
    exact this
  have HS : Hid (∀ w, Calls Tryd.prog 17 #[] w fun e w' => e = .returned (.string schemaT) ∧ w' = w) := schemaText_calls
  have HS2 : Hid (∀ w, Calls Tryd.prog 19 #[] w fun e w' => e = .returned (.string schemaT) ∧ w' = w) := refSchemaText_calls
  have HPt : Hid ((⟨(printL schemaS).toArray⟩ : ByteArray) = schemaT) := schema_print
  have HK : Hid (KindsAt w) := hk
  clear hmx hk
  generalize schemaT = text at *
  generalize schemaS = us at *
  have q1 : (text.toList == text.toList) = true := beq_self_eq_true _
  go_enter Tryd.func6, Tryd.ntmps6
  go_wp2_with fail
  refine (HS.out _).mono ?_
  rintro e w1 ⟨rfl, hw⟩
  subst w1
  go_wp2_with fail
  refine HP.out.mono ?_
  rintro e w1 ⟨hb1, ao, cap, ts, rfl, hts, htb⟩
  have HK1 : Hid (KindsAt w1) := HK.out.nxt hb1
  have HB1 : Hid (Below w.heap.size w w1) := hb1
  have HT1 : Hid (TabsRd w1 ao ts) := htb.reads
  have HU : Hid (tbs ts = us) := hts
  clear hb1 hts htb HP HK
  go_wp2_with fail
  obtain ⟨w2, hw2⟩ : ∃ w2, w2 = w1.alloc (.cells #[.slice ao ts.length cap] 52) := ⟨_, rfl⟩
  have hb2 : Below w1.heap.size w1 w2 := by rw [hw2]; exact (Below.refl _ _).alloc (Nat.le_refl _) _
  have s2 : w2.cell? ⟨w1.heap.size, 0, none⟩ = some (.slice ao ts.length cap) := by rw [hw2, cell_blk (new_blk _ _)]; rfl
  rw [← hw2]
  clear hw2
  have HK2 : Hid (KindsAt w2) := HK1.out.nxt hb2
  have HB2 : Hid (Below w.heap.size w w2) := HB1.out.trans (hb2.mono HB1.out.size)
  have HT2 : Hid (TabsRd w2 ao ts) := HT1.out.below hb2
  obtain ⟨sb, hsb⟩ : ∃ sb, sb = w1.heap.size := ⟨_, rfl⟩
  rw [← hsb] at s2 ⊢
  clear hb2 HK1 HB1 HT1 hsb
  refine (HS2.out _).mono ?_
  rintro e w3 ⟨rfl, hw⟩
  subst w3
  go_wp2_with fail
  refine (HR.out _).mono ?_
  rintro e w3 ⟨hb3, bo, cap2, vs, rfl, hvs, hvb⟩
  have s3 := cell_nxt s2 hb3
  have HK3 : Hid (KindsAt w3) := HK2.out.nxt hb3
  have HB3 : Hid (Below w.heap.size w w3) := HB2.out.trans (hb3.mono HB2.out.size)
  have HT3 : Hid (TabsRd w3 ao ts) := HT2.out.below hb3
  have HV3 : Hid (TabsRd w3 bo vs) := hvb.reads
  have HVU : Hid (tbs vs = us) := hvs
  clear hb3 hvs hvb s2 HK2 HB2 HT2 HR
  go_wp2_with fail
  obtain ⟨w4, hw4⟩ : ∃ w4, w4 = w3.alloc (.cells #[.slice bo vs.length cap2] 52) := ⟨_, rfl⟩
  have hb4 : Below w3.heap.size w3 w4 := by rw [hw4]; exact (Below.refl _ _).alloc (Nat.le_refl _) _
  have n4 : w4.cell? ⟨w3.heap.size, 0, none⟩ = some (.slice bo vs.length cap2) := by rw [hw4, cell_blk (new_blk _ _)]; rfl
  rw [← hw4]
  clear hw4
  have s4 := cell_nxt s3 hb4
  have HK4 : Hid (KindsAt w4) := HK3.out.nxt hb4
  have HB4 : Hid (Below w.heap.size w w4) := HB3.out.trans (hb4.mono HB3.out.size)
  have HT4 : Hid (TabsRd w4 ao ts) := HT3.out.below hb4
  have HV4 : Hid (TabsRd w4 bo vs) := HV3.out.below hb4
  obtain ⟨nb, hnb⟩ : ∃ nb, nb = w3.heap.size := ⟨_, rfl⟩
  rw [← hnb] at n4 ⊢
  clear hb4 HK3 HB3 HT3 HV3 hnb s3
  refine (HS.out _).mono ?_
  rintro e w5 ⟨rfl, hw⟩
  subst w5
  go_wp2_with fail
  refine (HS2.out _).mono ?_
  rintro e w5 ⟨rfl, hw⟩
  subst w5
  go_wp2_with fail
  refine (same_calls ao bo cap cap2 ts vs w4 HT4.out HV4.out (by rw [HU.out, HVU.out])).mono ?_
  rintro e w5 ⟨rfl, hb5⟩
  have s5 := cell_nxt s4 hb5
  have HB5 : Hid (Below w.heap.size w w5) := HB4.out.trans (hb5.mono HB4.out.size)
  have HK5 : Hid (KindsAt w5) := HK4.out.nxt hb5
  have HT5 : Hid (TabsRd w5 ao ts) := HT4.out.below hb5
  clear hb5 s4 n4 HB4 HK4 HT4 HV4
  go_wp2_with fail
  have HPr := print_calls ao cap ts w5 HT5.out HK5.out
  rw [HU.out, HPt.out] at HPr
  refine HPr.mono ?_
  clear HPr
  rintro e w6 ⟨rfl, hb6⟩
  have HB6 : Hid (Below w.heap.size w w6) := HB5.out.trans (hb6.mono HB5.out.size)
  clear hb6
  go_wp2_with fail
  refine (HS.out _).mono ?_
  rintro e w7 ⟨rfl, hw⟩
  subst w7
  go_wp2
  go_ret
  exact ⟨rfl, HB6.out⟩
end Go.Proofs.YtdomajhffmfbbaaDoor
