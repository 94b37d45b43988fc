import Derived.Test.YtbpmahchinblhaaDoorSPrint
import Derived.Test.YtbpmahchinblhaaDoorSCatch
/- Layer 6 (schema): the law's fixed text. -/
namespace Go.Proofs.YtbpmahchinblhaaDoor
open Go.RowKit
set_option linter.unusedVariables false

def fixedT : ByteArray := ⟨#[116, 97, 98, 108, 101, 32, 97, 10, 102, 105, 101, 108, 100, 32, 120, 32, 116, 101, 120, 116, 10, 105, 110, 100, 101, 120, 32, 105, 100, 32, 120, 32, 117, 110, 105, 113, 117, 101, 10]⟩
def fixedS : List Tb := [⟨⟨#[97]⟩, [⟨⟨#[120]⟩, 1⟩], [⟨idW, [0], true, false, false⟩]⟩]
set_option maxRecDepth 100000 in
theorem fixed_parse : parseP fixedT = .ok fixedS := by kernel_rfl
set_option maxRecDepth 100000 in
theorem fixed_print : (⟨(printL fixedS).toArray⟩ : ByteArray) = fixedT := by kernel_rfl
end Go.Proofs.YtbpmahchinblhaaDoor

/- Layer 6 (schema): schemaFixed, SchemaNames. -/
namespace Go.Proofs.YtbpmahchinblhaaDoor
open Go.RowKit
set_option linter.unusedVariables false

set_option maxRecDepth 100000 in
set_option maxHeartbeats 4000000 in
theorem schemaFixed_calls (w : World) (mx : Int) (hmx : w.cell? ⟨1, 0, none⟩ = some (.int .i64 mx)) (hk : KindsAt w) :
    Calls Tryd.prog 4 #[] w fun e w' => e = .returned (.bool true) ∧ Below w.heap.size w w' := by
  have HP := parse_calls fixedT w mx hmx hk
  rw [fixed_parse] at HP
  have HP' : Hid (Calls Tryd.prog 6 #[.string fixedT] w fun e w' => Parsed w (.ok fixedS) e w') := HP
  have HK : Hid (KindsAt w) := hk
  clear HP hmx hk
  go_enter Tryd.func4, Tryd.ntmps4
  go_wp2_with fail
  refine HP'.out.mono ?_
  rintro e w1 ⟨hb1, ao, cap, ts, rfl, hts, htb⟩
  have hl : ts.length = 1 := by have := congrArg List.length hts; simpa [tbs, fixedS] using this
  obtain ⟨t, rfl⟩ : ∃ t, ts = [t] := List.length_eq_one_iff.1 hl
  have htt : t.tb = ⟨⟨#[97]⟩, [⟨⟨#[120]⟩, 1⟩], [⟨idW, [0], true, false, false⟩]⟩ := by simpa [tbs, fixedS] using hts
  have hfl : t.fs.length = 1 := by have := congrArg (fun b => b.fs.length) htt; simpa [TV.tb] using this
  have hxl : t.xs.length = 1 := by have := congrArg (fun b => b.xs.length) htt; simpa [TV.tb] using this
  have hnm : t.n = ⟨#[97]⟩ := by have := congrArg (fun b => b.n) htt; simpa [TV.tb] using this
  obtain ⟨ab, off, rfl, c0, c1, c2⟩ := htb.reads.row.tab 0 (by simp)
  simp only [List.getElem_cons_zero, Nat.zero_mul, Nat.add_zero] at c0 c1 c2
  rw [hnm] at c0
  rw [hfl] at c1
  rw [hxl] at c2
  have HR : Hid (TabsRd w1 (some ⟨ab, off, none⟩) [t]) := htb.reads
  have HTT : Hid (tbs [t] = fixedS) := hts
  have HB1 : Hid (Below w.heap.size w w1) := hb1
  have d0 : ∀ o, (w1.alloc o).cell? ⟨ab, off, none⟩ = some (.string ⟨#[97]⟩) := fun o => by rw [((Below.refl _ w1).alloc (Nat.le_refl _) o).cell (by exact World.block_lt_of_cell? w1 _ c0)]; exact c0
  have d1 : ∀ o, (w1.alloc o).cell? ⟨ab, off + 1, none⟩ = some (.slice t.fa 1 t.fc) := fun o => by rw [((Below.refl _ w1).alloc (Nat.le_refl _) o).cell (by exact World.block_lt_of_cell? w1 _ c1)]; exact c1
  have d2 : ∀ o, (w1.alloc o).cell? ⟨ab, off + 2, none⟩ = some (.slice t.xa 1 t.xc) := fun o => by rw [((Below.refl _ w1).alloc (Nat.le_refl _) o).cell (by exact World.block_lt_of_cell? w1 _ c2)]; exact c2
  have q1 : ((⟨#[97]⟩ : ByteArray).toList == [97]) = true := by rw [beq_lit]; exact decide_eq_true rfl
  have q2 : (fixedT.toList == [116, 97, 98, 108, 101, 32, 97, 10, 102, 105, 101, 108, 100, 32, 120, 32, 116, 101, 120, 116, 10, 105, 110, 100, 101, 120, 32, 105, 100, 32, 120, 32, 117, 110, 105, 113, 117, 101, 10]) = true := by rw [beq_lit]; exact decide_eq_true rfl
  clear hts htb htt hfl hxl hnm hb1 hl c0 c1 c2
  go_wp2_with fail
  have HPr := print_calls (some ⟨ab, off, none⟩) cap [t] (w1.alloc (.cells #[.slice (some ⟨ab, off, none⟩) 1 cap] 25)) (HR.out.below ((Below.refl _ _).alloc (Nat.le_refl _) _)) ((HK.out.fr (Fr.ofBelow HB1.out (Nat.le_refl _)) (World.block_lt_of_cell? w _ HK.out.c0)).below ((Below.refl _ _).alloc (Nat.le_refl _) _))
  rw [HTT.out, fixed_print] at HPr
  refine HPr.mono ?_
  rintro e w2 ⟨rfl, hb2⟩
  have HB2 : Hid (Below w.heap.size w w2) := (HB1.out.alloc HB1.out.size _).trans (hb2.mono (by have := HB1.out.size; simp; omega))
  clear HPr hb2
  go_wp2
  go_ret
  exact ⟨rfl, HB2.out⟩

end Go.Proofs.YtbpmahchinblhaaDoor
