import Derived.Test.YtjgnmofgjnlncaaXHolds
import Derived.Test.YtjgnmofgjnlncaaXTrimD
import Derived.Test.YtjgnmofgjnlncaaXFreshS
import Derived.Test.YtjgnmofgjnlncaaRows
import Derived.Test.YtjgnmofgjnlncaaRNeed
import Derived.OpenShut
/- Layer 4 (walk): the walk of WalkTrims. -/
namespace Go.Proofs.Ytjgnmofgjnlncaa
open Go.RowKit
set_option linter.unusedVariables false

set_option maxRecDepth 100000 in
set_option maxHeartbeats 8000000 in
theorem walkTrims_walk (ao : Option Addr) (cap : Nat) (l : List En) (p : ByteArray) (w : World) (hl : EntsAt w ao l) (hn : l.length ≤ 5864062014634) (hp : p.size ≤ 140737488351296) :
    Calls Try.prog 4 #[.slice ao l.length cap, .string p] w fun e w' => e = .returned (.bool true) ∧ Below w.heap.size w w' := by
  have HL : Hid (EntsAt w ao l) := hl
  have hnot : ∀ (x : Bool) (w : World), (Op.unary .not (.bool x)).run Try.prog w = .ok (.bool (!x)) w := fun _ _ => rfl
  have hdl := docOf_len l
  clear hl
  go_enter Try.func4, Try.ntmps4
  go_wp2_with fail
  refine (walkAlive_calls w).mono ?_
  rintro e w1 ⟨rfl, hb1⟩
  have HB1 : Hid (Below w.heap.size w w1) := hb1
  have HBU := built4_calls ao cap l w1 (HL.out.below hb1) hn
  clear hb1
  go_wp2_with fail
  refine HBU.mono ?_
  clear HBU
  rintro e w2 ⟨tb, T, ne, d, ps, rfl, hH, hD⟩
  obtain ⟨es, hes⟩ : ∃ es, es = docOf l := ⟨_, rfl⟩
  rw [← hes] at hH hD hdl
  obtain ⟨w3, HW3⟩ : ∃ w3, Hid (w3 = w2.alloc (.cells (d.cells es.length ps.length) 28)) := ⟨_, rfl⟩
  have hb3 : Below w2.heap.size w2 w3 := by rw [HW3.out]; exact (Below.refl _ _).alloc (Nat.le_refl _) _
  have q3 : w3.heap[w2.heap.size]? = some (.cells (d.cells es.length ps.length) 28) := by rw [HW3.out]; exact heap_alloc_new _ _
  have HH3 : Hid (Held w1 w3 tb T ne l.length es) := hH.keep hb3
  have HD3 : Hid (DocAt w3 d es ps) := hD.keep hb3
  have HB3 : Hid (Below w.heap.size w w3 ∧ w3.heap[w2.heap.size]? = some (.cells (d.cells es.length ps.length) 28)) := ⟨(HB1.out.trans (hH.good.below.mono HB1.out.size)).trans (hb3.mono (Nat.le_trans HB1.out.size hH.good.below.size)), q3⟩
  have HTR := trim_calls tb T ne l.length es w1 w3 (hH.keep hb3) p hp (by omega) (by omega)
  rw [← hes]
  clear hH hD hb3 q3 HB1 hes
  obtain ⟨bm, hbm⟩ : ∃ b, b = w2.heap.size := ⟨_, rfl⟩
  unfold Dv.cells
  unfold Dv.cells at HW3
  go_wp2_with fail
  rw [← HW3.out]
  clear HW3
  rw [← hbm] at HB3 ⊢
  clear hbm
  refine HTR.mono ?_
  clear HTR
  rintro e w4 ⟨tb4, T4, ne4, rfl, hb4, hH4, hsame⟩
  have b4 := (hb4.block _ (lt_of_heap HB3.out.2)).trans HB3.out.2
  have m0 : w4.cell? ⟨bm, 0, none⟩ = some (.slice d.k.ao es.length d.k.cap) := by rw [cell_of_blk b4]; rfl
  have m1 : w4.cell? ⟨bm, 1, none⟩ = some (.slice d.v.ao es.length d.v.cap) := by rw [cell_of_blk b4]; rfl
  have m2 : w4.cell? ⟨bm, 2, none⟩ = some (.slice d.l.ao es.length d.l.cap) := by rw [cell_of_blk b4]; rfl
  have m3 : w4.cell? ⟨bm, 3, none⟩ = some (.slice d.p.ao ps.length d.p.cap) := by rw [cell_of_blk b4]; rfl
  have m4 : w4.cell? ⟨bm, 4, none⟩ = some (.slice d.m.ao ps.length d.m.cap) := by rw [cell_of_blk b4]; rfl
  have HRT := refTrim_calls d es ps p 0 w4 (HD3.out.keep hb4) hp (by omega)
  have HSAME : Hid (es.filter (beg p) = [] → tb4 = tb) := hsame
  have HH4 : Hid (Held w3 w4 tb4 T4 ne4 l.length (leftE p es) ∧ Held w1 w4 tb T ne l.length es ∧ DocAt w4 d es ps ∧ Below w.heap.size w w4 ∧ w4.heap[bm]? = some (.cells (d.cells es.length ps.length) 28)) := ⟨hH4, HH3.out.keep hb4, HD3.out.keep hb4, HB3.out.1.trans (hb4.mono HB3.out.1.size), b4⟩
  have hll : (leftE p es).length ≤ es.length := by unfold leftE; exact List.length_filter_le _ _
  obtain ⟨g, hg⟩ : ∃ g, g = (es.filter (beg p)).length := ⟨_, rfl⟩
  have HG : Hid (g = 0 → tb4 = tb) := fun h => hsame (List.length_eq_zero_iff.1 (by rw [← hg, h]))
  rw [← hg] at HRT ⊢
  clear hg hsame hb4 b4 hH4 HB3 HH3 HD3 HSAME
  unfold Dv.cells at HRT
  go_wp2_with fail
  refine HRT.mono ?_
  clear HRT
  rintro e w5 ⟨d5, ps5, z5, rfl, hD5, hb5⟩
  obtain ⟨es5, hes5⟩ : ∃ es5, es5 = leftE p es := ⟨_, rfl⟩
  rw [← hes5] at hD5 HH4 hll ⊢
  clear hes5
  obtain ⟨w6, HW6⟩ : ∃ w6, Hid (w6 = w5.alloc (.cells #[.slice d5.k.ao es5.length d5.k.cap, .slice d5.v.ao es5.length d5.v.cap, .slice d5.l.ao es5.length d5.l.cap, .slice d5.p.ao ps5.length d5.p.cap, .slice d5.m.ao ps5.length d5.m.cap] 28)) := ⟨_, rfl⟩
  have hb6 : Below w5.heap.size w5 w6 := by rw [HW6.out]; exact (Below.refl _ _).alloc (Nat.le_refl _) _
  have hb46 : Below w4.heap.size w4 w6 := hb5.trans (hb6.mono hb5.size)
  have q6 : w6.heap[w5.heap.size]? = some (.cells #[.slice d5.k.ao es5.length d5.k.cap, .slice d5.v.ao es5.length d5.v.cap, .slice d5.l.ao es5.length d5.l.cap, .slice d5.p.ao ps5.length d5.p.cap, .slice d5.m.ao ps5.length d5.m.cap] 28) := by rw [HW6.out]; exact heap_alloc_new _ _
  obtain ⟨bn, hbn⟩ : ∃ b, b = w5.heap.size := ⟨_, rfl⟩
  rw [← hbn] at q6
  have n0 : w6.cell? ⟨bn, 0, none⟩ = some (.slice d5.k.ao es5.length d5.k.cap) := by rw [cell_of_blk q6]; rfl
  have n1 : w6.cell? ⟨bn, 1, none⟩ = some (.slice d5.v.ao es5.length d5.v.cap) := by rw [cell_of_blk q6]; rfl
  have n2 : w6.cell? ⟨bn, 2, none⟩ = some (.slice d5.l.ao es5.length d5.l.cap) := by rw [cell_of_blk q6]; rfl
  have n3 : w6.cell? ⟨bn, 3, none⟩ = some (.slice d5.p.ao ps5.length d5.p.cap) := by rw [cell_of_blk q6]; rfl
  have n4 : w6.cell? ⟨bn, 4, none⟩ = some (.slice d5.m.ao ps5.length d5.m.cap) := by rw [cell_of_blk q6]; rfl
  have HO1 := holds_calls w3 tb4 T4 ne4 l.length es5 d5 ps5 w6 (HH4.out.1.keep hb46) (hD5.keep hb6) (by omega)
  have HH6 : Hid (Held w1 w6 tb T ne l.length es ∧ DocAt w6 d es ps ∧ Below w.heap.size w w6 ∧ w6.heap[bm]? = some (.cells (d.cells es.length ps.length) 28)) := ⟨HH4.out.2.1.keep hb46, HH4.out.2.2.1.keep hb46, HH4.out.2.2.2.1.trans (hb46.mono HH4.out.2.2.2.1.size), (hb46.block _ (lt_of_heap HH4.out.2.2.2.2)).trans HH4.out.2.2.2.2⟩
  have hgg : ((g : Int) != (g : Int)) = false := by simp
  unfold Dv.cells at HO1
  clear hb5 hb6 hb46 q6 hD5 HH4 m0 m1 m2 m3 m4
  go_upto_region 8 with fail
  rw [← HW6.out, ← hbn]
  clear HW6 hbn
  go_wp2_with fail
  refine HO1.mono ?_
  clear HO1
  rintro e w7 ⟨rfl, hb7⟩
  have HH7 : Hid (Held w1 w7 tb T ne l.length es ∧ Below w.heap.size w w7) := ⟨HH6.out.1.keep hb7, HH6.out.2.2.1.trans (hb7.mono HH6.out.2.2.1.size)⟩
  have b7 := (hb7.block _ (lt_of_heap HH6.out.2.2.2)).trans HH6.out.2.2.2
  have m0 : w7.cell? ⟨bm, 0, none⟩ = some (.slice d.k.ao es.length d.k.cap) := by rw [cell_of_blk b7]; rfl
  have m1 : w7.cell? ⟨bm, 1, none⟩ = some (.slice d.v.ao es.length d.v.cap) := by rw [cell_of_blk b7]; rfl
  have m2 : w7.cell? ⟨bm, 2, none⟩ = some (.slice d.l.ao es.length d.l.cap) := by rw [cell_of_blk b7]; rfl
  have m3 : w7.cell? ⟨bm, 3, none⟩ = some (.slice d.p.ao ps.length d.p.cap) := by rw [cell_of_blk b7]; rfl
  have m4 : w7.cell? ⟨bm, 4, none⟩ = some (.slice d.m.ao ps.length d.m.cap) := by rw [cell_of_blk b7]; rfl
  have HO2 := holds_calls w1 tb T ne l.length es d ps w7 HH7.out.1 (HH6.out.2.1.keep hb7) (by omega)
  unfold Dv.cells at HO2
  clear hb7 b7 HH6 n0 n1 n2 n3 n4
  go_wp2_with fail
  refine HO2.mono ?_
  clear HO2
  rintro e w8 ⟨rfl, hb8⟩
  have HH8 : Hid (Held w1 w8 tb T ne l.length es ∧ Below w.heap.size w w8) := ⟨HH7.out.1.keep hb8, HH7.out.2.trans (hb8.mono HH7.out.2.size)⟩
  clear hb8 HH7 m0 m1 m2 m3 m4
  by_cases h0 : g = 0
  · have htb := HG.out h0
    subst htb
    subst h0
    have HFR := freshT_self tb4 T ne w8 HH8.out.1.good.tree HH8.out.1.good.wf (by rw [HH8.out.1.good.root]; decide)
    go_wp2_with fail
    refine HFR.mono ?_
    clear HFR
    rintro e w9 ⟨rfl, hb9⟩
    have HB9 : Hid (Below w.heap.size w w9) := HH8.out.2.trans (hb9.mono HH8.out.2.size)
    clear hb9
    go_wp2
    go_ret
    exact ⟨rfl, HB9.out⟩
  · have hgt : decide ((g : Int) > 0) = true := decide_eq_true (by omega)
    have hgp : (0 : Int) < (g : Int) := by omega
    go_wp2
    go_ret
    exact ⟨rfl, HH8.out.2⟩
end Go.Proofs.Ytjgnmofgjnlncaa

/- WalkTrims answers true and leaves its arguments as they were, for every list of entries and every text. No condition. -/
namespace Go.Proofs.Ytjgnmofgjnlncaa
open Go.ChangeShapes Go.WideShapes Go.ChangeAt Go.RowKit
open Go.ChangeMaps (open_string shut_string)
set_option linter.unusedVariables false

namespace PXTrims
theorem own : ownKnob Try.prog.godebug = none := by kernel_rfl
theorem laidOut : laidOutB Try.prog = true := by kernel_rfl

set_option maxRecDepth 100000 in
theorem lifted (os : Os) (started : os.Started) (H : Type) (enc : TypeId × Value → H) :
    ReturnsInHanded {} Try.checked os 4 .any (Rows.walkTrimsSpec.pre6 enc Try.prog Try.f4 Rows.walkTrimsRow.domain false) (Rows.walkTrimsSpec.post enc Try.prog Try.f4 false true false false) := by
  refine returnsInHanded_of_change_sized (C := Try.checked) own started (by kernel_rfl) Try.func4
    (ChangeSpec.witness6 (enc := enc) (C := Try.checked) false ⟨#[], #[.slice none 0 0, .string ⟨#[]⟩], []⟩ 8 (by kernel_rfl) (by kernel_rfl) (by kernel_rfl) (by kernel_rfl)) ?_
  intro W base args ds gs before hval0 hW _ hsz0 _
  have hsz : (DataW.weightsEach Try.prog (Try.f4.params.toList ++ Rows.walkTrimsSpec.plain.varTypes Try.prog) (ds ++ gs)).all (· ≤ reachBytes) = true := hsz0
  have hval : ∀ (j : Nat) t v, Try.f4.params[j]? = some t → args[j]? = some v → Value.okWide Try.prog W .any base t v := hval0
  have hW' := hW
  obtain ⟨p, q, hA0, hV, rfl, hfz, hnd⟩ := hW
  have hA : DataW.TrodAll enc Try.prog W 0 (fun _ => true) true Try.f4.params.toList args.toList ds p := hA0
  rw [Try.params4] at hA hval hsz
  obtain ⟨v0, v1, d0, d1, p0, p1, rfl, rfl, rfl, h0, h1⟩ := trodAll_two hA
  obtain ⟨rfl, rfl⟩ := trodVars_none hV
  obtain ⟨ao, len, cap, rfl⟩ := okWide_slice Try.underlying22 (hval 0 22 v0 rfl rfl)
  obtain ⟨key, rfl, rfl, rfl, hks⟩ := open_string Try.underlying9 (hval 1 9 v1 rfl rfl) h1
  have h0k := h0
  obtain ⟨fuel, hf⟩ := h0
  clear hA0 hval hval0 hsz0
  simp only [List.append_nil] at hW'
  have hlt : ∀ x ∈ p0, x.block < W.heap.size := fun x hx => by simpa using hW'.lt x (by simp [hx])
  obtain ⟨ps, spare, rfl, hd, hpa⟩ := open_ents (by simpa [Value.cells] using hf)
  simp only at hd
  obtain ⟨hr1, hr2⟩ := ents_reach hd fun n hn => of_decide_eq_true (List.all_eq_true.1 hsz _ (DataW.weights_mem_each (j := 0) rfl rfl n hn))
  have hkl : key.size ≤ 140737488351232 := by
    have := sized_string hsz (j := 1) (t := 9) rfl rfl
    simpa [reachBytes] using this
  refine (walkTrims_walk ao cap ps key W (hpa (fun e he => Nat.le_trans (hr2 e he) (by decide))) (by omega) (Nat.le_trans hkl (by decide))).mono fun e W' ⟨he, hg⟩ => ?_
  subst he
  exact ⟨_, rfl, _, _, _, [], _, [], hW', trodAll_mk1 (shut_bool Try.underlying4 _), trodAll_mk2 (Below.trod laidOut (by kernel_rfl) (of_decide_eq_true (by kernel_rfl)) h0k hg hlt) (shut_string Try.underlying9 hks), rfl, hg.frame _, fun h => by cases h⟩
end PXTrims

theorem walkTrims_holds : Rows.WalkTrimsSaid :=
  OpenClaim.holds_of_wide 4 Try.f4 rfl rfl rfl rfl rfl rfl rfl ⟨rfl, rfl, rfl, rfl, rfl⟩ rfl rfl rfl rfl rfl (by kernel_rfl) Try.func4 (by kernel_rfl)
    (of_decide_eq_true (by kernel_rfl)) (by unfold Func.isWrapper; first | (rw [if_pos (by decide +kernel)]; kernel_rfl) | (rw [if_neg (by decide +kernel)]; exact ⟨rfl, rfl⟩))
    (fun os started H enc _ => PXTrims.lifted os started H enc)

#print axioms walkTrims_holds
end Go.Proofs.Ytjgnmofgjnlncaa
