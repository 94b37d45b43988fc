import Derived.Test.YtmkohdepgfahnaaGreatDoorJEnc
import Derived.Lib.SlBytesConst
import Derived.Test.YtmkohdepgfahnaaGreatDoorRcOctet
import Derived.Lay
import Derived.Lib.LaidTab
import Derived.MakeChecks
/- Layer 13 (journal): the law's example. -/
namespace Go.Proofs.YtmkohdepgfahnaaGreatDoor
open Go.RowKit
set_option linter.unusedVariables false

def fixO : OV := ⟨⟨4, ⟨⟨#[97]⟩, ⟨#[]⟩, 0, 0⟩, svcZ, chkZ, false, 0⟩, none, 0⟩
def fixB : List UInt8 := [77, 0, 0, 0, 13, 0, 0, 0, 0, 0, 0, 0, 2, 1, 4, 0, 1, 97, 211, 16, 57, 225]
theorem fix_enc : encB 2 (ops [fixO]) = fixB := by kernel_rfl
theorem fix_err : encE (ops [fixO]) = 0 := by kernel_rfl
theorem fix_sum : sumB [49, 50, 51, 52, 53, 54, 55, 56, 57] = 3421780262 := by kernel_rfl
theorem fix_small : fixO.o.small := ⟨by decide, by decide, ⟨by decide, by decide, by decide, by decide, fun x hx => by cases hx⟩, ⟨by decide, by decide, by decide, by decide⟩⟩
theorem fix_ok : ∀ x ∈ [fixO], x.ok := fun x hx => by simp at hx; subst hx; exact ⟨fix_small, by decide⟩
theorem fix_rng : ∀ x ∈ [fixO], x.o.rng := fun x hx => by simp at hx; subst hx; exact ⟨by decide, by decide⟩
theorem fix_at (w : World) : OpsAt (w.alloc (.cells fixO.v 55)) (some ⟨w.heap.size, 0, none⟩) [fixO] := by
  constructor
  · intro _
    refine ⟨w.heap.size, 0, rfl, fun j u hj => ?_⟩
    rw [Nat.zero_add, World.cell?_alloc_mark]
    have e : ocs [fixO] = fixO.v.toList := by simp [ocs]
    rw [e] at hj
    simpa using hj
  · intro x hx
    simp at hx
    subst hx
    intro h
    exact absurd rfl h

set_option maxRecDepth 100000 in
set_option maxHeartbeats 2000000 in
theorem journalFixed_calls (w : World) (hv : Vs w) :
    Calls Tryz.prog 9 #[] w fun e w' => e = .returned (.bool true) ∧ Below w.heap.size w w' := by
  obtain ⟨wx, Hwx⟩ : ∃ x, Hid (x = w.alloc (.cells fixO.v 55)) := ⟨_, rfl⟩
  have HB : Hid (Below w.heap.size w wx) := by rw [Hwx.out]; exact below_new w _
  have HC : Hid (Calls Tryz.prog 15 #[.agg (entV 2 (some ⟨w.heap.size, 0, none⟩) 1 1)] wx fun e w' => ∃ v', e = .returned (.tuple #[v', .int .i64 0]) ∧ Own w' wx.heap.size v' fixB ∧ Below wx.heap.size wx w') := by
    have := jencode_calls 2 (some ⟨w.heap.size, 0, none⟩) 1 [fixO] wx (by decide) (by decide) (hv.stay HB.out) (by decide) fix_ok fix_rng (by rw [Hwx.out]; exact fix_at w)
    rw [fix_enc, fix_err] at this
    exact this
  go_enter Tryz.func9, Tryz.ntmps9
  go_wp2_with fail
  have HC' := HC.out
  rw [Hwx.out] at HC'
  refine HC'.mono ?_
  rw [← Hwx.out]
  rintro e w1 ⟨v1, rfl, ho, hb⟩
  have HB1 : Hid (Below w.heap.size w w1) := HB.out.trans (hb.mono HB.out.size)
  obtain ⟨ao, cap, rfl, hg⟩ := row_forms ho
  obtain ⟨g, rfl⟩ := hg (by decide)
  have HO : Hid (Own w1 wx.heap.size (.slice (some ⟨g, 0, none⟩) 22 cap) fixB) := ho
  clear ho hb hg HC HC' HB Hwx
  rw [show fixB.length = 22 from rfl]
  have c0 : w1.cell? ⟨g, 0, none⟩ = some (.int .u8 77) := (HO.out.at rfl 0 (by decide)).1
  have c4 : w1.cell? ⟨g, 4, none⟩ = some (.int .u8 13) := (HO.out.at rfl 4 (by decide)).1
  have c12 : w1.cell? ⟨g, 12, none⟩ = some (.int .u8 2) := (HO.out.at rfl 12 (by decide)).1
  have c13 : w1.cell? ⟨g, 13, none⟩ = some (.int .u8 1) := (HO.out.at rfl 13 (by decide)).1
  have c14 : w1.cell? ⟨g, 14, none⟩ = some (.int .u8 4) := (HO.out.at rfl 14 (by decide)).1
  have c17 : w1.cell? ⟨g, 17, none⟩ = some (.int .u8 97) := (HO.out.at rfl 17 (by decide)).1
  obtain ⟨w2, Hw2⟩ : ∃ x, Hid (x = w1.alloc (.cells #[.int .u8 49, .int .u8 50, .int .u8 51, .int .u8 52, .int .u8 53, .int .u8 54, .int .u8 55, .int .u8 56, .int .u8 57] 5 (9, 10))) := ⟨_, rfl⟩
  have hcv : (convert 23 23 (.slice (some ⟨w1.heap.size, 0, none⟩) 9 9)).run Tryz.prog (w1.alloc (.cells #[.int .u8 49, .int .u8 50, .int .u8 51, .int .u8 52, .int .u8 53, .int .u8 54, .int .u8 55, .int .u8 56, .int .u8 57] 5)) = .ok (.slice (some ⟨w1.heap.size, 0, none⟩) 9 9) w2 := by rw [Hw2.out]; exact Lib.run_convert_bytes_const (P := Tryz.prog) w1 23 5 _ 9 9 Tryz.underlying23 Tryz.underlying5
  have HB2 : Hid (Below w.heap.size w w2) := by rw [Hw2.out]; exact HB1.out.alloc HB1.out.size _
  have HSM : Hid (Calls Tryz.prog 10 #[.slice (some ⟨w1.heap.size, 0, none⟩) 9 9] w2 fun e w' => e = .returned (.int .u32 3421780262) ∧ w' = w2) := by
    have := sum_calls (some ⟨w1.heap.size, 0, none⟩) 9 [49, 50, 51, 52, 53, 54, 55, 56, 57] w2 (by decide) (by
      intro _
      refine ⟨w1.heap.size, 0, rfl, fun j u hj => ?_⟩
      rw [Hw2.out, Nat.zero_add, World.cell?_alloc_mark]
      simpa [bs] using hj)
    rw [fix_sum] at this
    exact this
  go_wp2_with fail
  refine HSM.out.mono ?_
  rintro e w3 ⟨rfl, rfl⟩
  clear hcv HSM Hw2
  go_wp2
  go_ret
  exact ⟨rfl, HB2.out⟩
end Go.Proofs.YtmkohdepgfahnaaGreatDoor

/- Layer 13 (journal): JournalNames, the walk. -/
namespace Go.Proofs.YtmkohdepgfahnaaGreatDoor
open Go.RowKit
set_option linter.unusedVariables false

set_option maxRecDepth 100000 in
set_option maxHeartbeats 1000000 in
theorem journalNames_calls (w : World) (hv : Vs w) :
    Calls Tryz.prog 3 #[] w fun e w' => e = .returned (.bool true) ∧ Below w.heap.size w w' := by
  go_enter Tryz.func3, Tryz.ntmps3
  go_wp2_with fail
  refine (journalFixed_calls w hv).mono ?_
  rintro e w1 ⟨rfl, hb1⟩
  have HB1 : Hid (Below w.heap.size w w1) := hb1
  clear hb1
  go_wp2
  go_ret
  exact ⟨rfl, HB1.out⟩
end Go.Proofs.YtmkohdepgfahnaaGreatDoor

/- What the listed variables read as, one by one. -/
namespace Go.Proofs.YtmkohdepgfahnaaGreatDoor
open Go.RowKit
set_option linter.unusedVariables false

theorem laid_entry {P : Program} {W : World} : ∀ {laid : List (String × DataW Unit)} {ps : List MemPlace}, DataW.LaidVars P W laid ps → ∀ {n : String} {d : DataW Unit}, (n, d) ∈ laid →
    ∃ g t cs fuel q, P.globalNamed n = some g ∧ (P.globals[g]?).map (·.type) = some t ∧ W.var? P n = some cs ∧ DataW.trod (fun _ => ()) P W 0 (fun _ => true) false fuel t cs.toList = some (d, q) := by
  intro laid
  induction laid with
  | nil => intro ps _ n d hm; simp at hm
  | cons x laid ih =>
    intro ps h n d hm
    obtain ⟨g, t, cs, fuel, p, q, hg, ht, hv, hd, hr, _⟩ := h
    rcases List.mem_cons.1 hm with rfl | hm
    · exact ⟨g, t, cs, fuel, p, hg, ht, hv, hd⟩
    · exact ih hr hm
set_option maxRecDepth 100000 in
theorem pow_of {W : World} {t : TypeId} {cs : Array Value} {fuel : Nat} {q : List MemPlace} (ht : t = 190) (hv : W.var? Tryz.prog "internal/strconv.uint64pow10" = some cs) (hd : DataW.trod (fun _ => ()) Tryz.prog W 0 (fun _ => true) false fuel t cs.toList = some (Lib.tabData .u64 Lib.pow10Tab, q)) : Lib.TabIs Tryz.prog W "internal/strconv.uint64pow10" .u64 Lib.pow10Tab := by
  subst ht
  unfold Lib.TabIs
  rw [hv, ← Lib.cells_of_tab Tryz.underlying190 Tryz.underlying28 (by kernel_rfl) (by kernel_rfl) hd]
set_option maxRecDepth 100000 in
theorem err_of {W : World} {n : String} {t : TypeId} {cs : Array Value} {fuel : Nat} {q : List MemPlace} {nm : String} {d : DataW Unit} (ht : t = 145) (hv : W.var? Tryz.prog n = some cs) (hd : DataW.trod (fun _ => ()) Tryz.prog W 0 (fun _ => true) false fuel t cs.toList = some (.iface nm d, q)) : ∃ t p, W.var? Tryz.prog n = some #[.iface t p] := by
  subst ht
  obtain ⟨_, u, v, hcs, _, _⟩ := iface_of_trod Tryz.underlying145 hd
  exact ⟨u, v, by rw [hv]; congr 1; exact Array.toList_inj.1 hcs⟩
set_option maxRecDepth 100000 in
theorem vs_of {W : World} {laid : List (String × DataW Unit)} (hp : (laid.all fun x => x.2.handleName?.isNone) = true) {nm1 nm2 : String} {d1 d2 : DataW Unit}
    (h1 : ("internal/strconv.uint64pow10", Lib.tabData .u64 Lib.pow10Tab) ∈ laid) (h2 : ("strconv.ErrSyntax", .iface nm1 d1) ∈ laid) (h3 : ("strconv.ErrRange", .iface nm2 d2) ∈ laid) (h : laidMetH Tryz.prog laid W) : Vs W := by
  rw [MakeChecks.laidMetH_plain _ _ _ hp] at h
  obtain ⟨ps, hl, _⟩ := h
  obtain ⟨g1, t1, c1, f1, q1, hg1, ht1, hv1, hd1⟩ := laid_entry hl h1
  obtain ⟨g2, t2, c2, f2, q2, hg2, ht2, hv2, hd2⟩ := laid_entry hl h2
  obtain ⟨g3, t3, c3, f3, q3, hg3, ht3, hv3, hd3⟩ := laid_entry hl h3
  have ty : ∀ {n : String} {g : Nat} {t t' : TypeId}, Tryz.prog.globalNamed n = some g → (Tryz.prog.globals[g]?).map (·.type) = some t → ((Tryz.prog.globalNamed n).bind fun g => (Tryz.prog.globals[g]?).map (·.type)) = some t' → t = t' := fun ha hb hc => by
    rw [ha, Option.bind_some, hb] at hc
    exact Option.some.inj hc
  exact ⟨pow_of (ty hg1 ht1 (by kernel_rfl)) hv1 hd1, err_of (ty hg2 ht2 (by kernel_rfl)) hv2 hd2, err_of (ty hg3 ht3 (by kernel_rfl)) hv3 hd3⟩
end Go.Proofs.YtmkohdepgfahnaaGreatDoor
