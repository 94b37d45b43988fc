/- Layer 3 (radix): trees whose values are of type muster/musterlaw03.Pair: the contracts, over again. -/
import Derived.Test.YtedgaiblcpekaabRVPa
namespace Go.Proofs.Ytedgaiblcpekaab.P
open Go.RowKit Go.Shelf
set_option linter.unusedVariables false
variable {R : Nat → Prop}
attribute [local go_sem] Oper.semAt_some

set_option maxRecDepth 100000 in
set_option maxHeartbeats 4000000 in
theorem insert_calls (tb : Nat) (t : Tr) (ne : Int) (k na nz : ByteArray) (w : World) (init : List Tr) (c : Tr) (hT : TreeAt w tb t ne) (hw : WF t) (hp : t.path <+: k.data.toList) (hks : k.size ≤ 140737488351232) (hA : Along k.data.toList t (init ++ [c])) (hd : init.length + 1 ≤ 17592186044416)
    (hne0 : 0 ≤ ne) (hne1 : ne ≤ 4611686018427387904) :
    Calls Try.prog 16 #[.pointer (some ⟨tb, 0, none⟩), .string k, .agg #[.string na, .string nz]] w fun e w' => ∃ tb' T' va vg x y, e = .returned (.tuple #[.pointer (some ⟨tb', 0, none⟩), x, y]) ∧ Below w.heap.size w w' ∧
      TreeAt w' tb' T' (ne + plusNew (valAt c k)) ∧ InsR w.heap.size k ⟨va, .agg #[.string na, .string nz], vg⟩ t T' ∧ w.heap.size ≤ va ∧ w.heap.size ≤ vg ∧ w.heap.size ≤ tb' := by
  have hmf : ∀ (fn : Fn) (first cap : Array Value) (w : World), (Instr.makeFunc fn first cap).run Try.prog w = .ok (.func fn first cap) w := fun _ _ _ _ => rfl
  have hnot : ∀ (x : Bool) (w : World), (Op.unary .not (.bool x)).run Try.prog w = .ok (.bool (!x)) w := fun _ _ => rfl
  have hb0 := lt_of_heap hT.blk
  obtain ⟨w1, HW1⟩ : ∃ w1, Hid (w1 = ((w.alloc (.cells #[.string k] 9)).alloc (.cells #[.string na, .string nz] 41)).alloc (.cells #[.string ⟨#[]⟩, .string ⟨#[]⟩] 41)) := ⟨_, rfl⟩
  have hb1 : Below w.heap.size w w1 := by rw [HW1.out]; exact (((Below.refl _ _).alloc (Nat.le_refl _) _).alloc (by simp [World.size_alloc]) _).alloc (by simp [World.size_alloc]; omega) _
  have hs1 : w1.heap.size = w.heap.size + 3 := by rw [HW1.out]; simp [World.size_alloc]
  have hkb : w1.heap[w.heap.size]? = some (.cells #[.string k] 9) := by rw [HW1.out, Below.heap_alloc _ _ _ (by simp [World.size_alloc]; omega), Below.heap_alloc _ _ _ (by simp [World.size_alloc])]; exact heap_alloc_new w _
  have hvb : w1.heap[w.heap.size + 1]? = some (.cells #[.string na, .string nz] 41) := by rw [HW1.out, Below.heap_alloc _ _ _ (by simp [World.size_alloc])]; have := heap_alloc_new (w.alloc (.cells #[.string k] 9)) (.cells #[.string na, .string nz] 41); simpa only [World.size_alloc] using this
  have hrb : w1.heap[w.heap.size + 2]? = some (.cells #[.string ⟨#[]⟩, .string ⟨#[]⟩] 41) := by rw [HW1.out]; have := heap_alloc_new ((w.alloc (.cells #[.string k] 9)).alloc (.cells #[.string na, .string nz] 41)) (.cells #[.string ⟨#[]⟩, .string ⟨#[]⟩] 41); simpa only [World.size_alloc] using this
  have t0 : w1.cell? ⟨tb, 0, none⟩ = some (.pointer (some ⟨t.a, 0, none⟩)) := by rw [hb1.cell (by exact hb0), cell_of_blk hT.blk]; rfl
  have k0 : w1.cell? ⟨w.heap.size, 0, none⟩ = some (.string k) := by rw [cell_of_blk hkb]; rfl
  have HWY := way_calls t k w1.drew init c hA (hT.tat.keep ⟨hb1.os, hb1.tape, hb1.output, hb1.size, hb1.block⟩) hw hp hks hd (fun b hb => hb.elim)
  have HT : Hid (TreeAt w tb t ne) := hT
  have HWF : Hid (WF t) := hw
  have HA : Hid (Along k.data.toList t (init ++ [c])) := hA
  have HP : Hid (t.path <+: k.data.toList) := hp
  have HVB : Hid (w1.heap[w.heap.size + 1]? = some (.cells #[.string na, .string nz] 41) ∧ w1.heap[w.heap.size + 2]? = some (.cells #[.string ⟨#[]⟩, .string ⟨#[]⟩] 41)) := ⟨hvb, hrb⟩
  have HB1 : Hid (Below w.heap.size w w1 ∧ w1.heap[w.heap.size]? = some (.cells #[.string k] 9)) := ⟨hb1, hkb⟩
  clear hT hw hA hp hb1 hkb hvb hrb
  refine (callsIn_wide (n := 8)).1 ?_
  refine callsIn_of_wp_marks Try.func16 rfl trivial ?_ rfl
  refine wpIn_wide.2 ?_
  simp only [Try.ntmps16, List.size_toArray, List.length_cons, List.length_nil, Nat.reduceAdd, Nat.reduceSub, Array.replicate_succ, Array.replicate_zero, List.push_toArray, List.append_toArray, List.nil_append, List.cons_append]
  go_wp2_with fail
  rw [← HW1.out]
  clear HW1
  go_region_held3 (fun W => W.cell? ⟨tb, 0, none⟩ = some (.pointer (some ⟨t.a, 0, none⟩)) ∧ W.cell? ⟨w.heap.size, 0, none⟩ = some (.string k)) (first | (exact q3) | go_keep)
    (first
      | (go_at_call 47
         refine HWY.mono ?_
         rintro e w2 ⟨g, cap, rfl, hb2, hk2, hgl2⟩
         have q3 : w2.cell? ⟨tb, 0, none⟩ = some (.pointer (some ⟨t.a, 0, none⟩)) ∧ w2.cell? ⟨w.heap.size, 0, none⟩ = some (.string k) := ⟨by rw [hb2.cell (by show tb < w1.heap.size; omega)]; exact t0, by rw [hb2.cell (by show w.heap.size < w1.heap.size; omega)]; exact k0⟩
         have HW2 : Hid (Below w1.heap.size w1 w2 ∧ KidsAt nR w2 (some ⟨g, 0, none⟩) init ∧ g < w2.heap.size) := ⟨⟨hb2.os, hb2.tape, hb2.output, hb2.size, hb2.block⟩, hk2, hgl2⟩
         clear hb2 hk2 hgl2 HWY))
  go_wp2_with fail
  have hz2 : w.heap.size + 1 ≤ w2.heap.size := by have := HW2.out.1.size; omega
  have h02 : Below w.heap.size w w2 := HB1.out.1.trans (HW2.out.1.mono HB1.out.1.size)
  have HC2 : Hid (TAt nR w2 c) := along_tat HA.out (HT.out.tat.keep h02) c (by simp)
  have HWC : Hid (WF c ∧ c.path <+: k.data.toList ∧ nx c k.data.toList = none) := ⟨HA.out.wf HWF.out c (by simp), HA.out.pre HP.out c (by simp), by
    have := HA.out.step init.length (by simp)
    simpa using this⟩
  have H02 : Hid (Below w.heap.size w w2) := h02
  have k2 := q3.2
  have hvb2 : w2.heap[w.heap.size + 1]? = some (.cells #[.string na, .string nz] 41) := (HW2.out.1.block _ (lt_of_heap HVB.out.1)).trans HVB.out.1
  have hr2 : w2.heap[w.heap.size + 2]? = some (.cells #[.string ⟨#[]⟩, .string ⟨#[]⟩] 41) := (HW2.out.1.block _ (lt_of_heap HVB.out.2)).trans HVB.out.2
  have HR2 : Hid (w2.heap[w.heap.size + 2]? = some (.cells #[.string ⟨#[]⟩, .string ⟨#[]⟩] 41)) := hr2
  have va2 : w2.cell? ⟨w.heap.size + 1, 0, none⟩ = some (.string na) := by rw [cell_of_blk hvb2]; rfl
  have vz2 : w2.cell? ⟨w.heap.size + 1, 1, none⟩ = some (.string nz) := by rw [cell_of_blk hvb2]; rfl
  have hz2' : w.heap.size + 3 ≤ w2.heap.size := by have := HW2.out.1.size; omega
  clear hvb2 hr2
  clear h02 q3
  go_cut [11] from 26 to 30 (fun s11 wx => ∃ (nb : Nat) (T : Tr) (va vg : Nat), s11 = .pointer (some ⟨nb, 0, none⟩) ∧ Hid (InsMid w k ⟨va, .agg #[.string na, .string nz], vg⟩ c init w.heap.size g nb (w.heap.size + 2) T wx))
  case first =>
    go_region_held3 (fun W => W.cell? ⟨w.heap.size, 0, none⟩ = some (.string k) ∧ W.cell? ⟨w.heap.size + 1, 0, none⟩ = some (.string na) ∧ W.cell? ⟨w.heap.size + 1, 1, none⟩ = some (.string nz)) (first | (exact q5) | (exact q4) | (refine ⟨?_, ?_, ?_⟩ <;> (rw [World.cell?_setCell_other _ _ _ _ (by intro e; have := congrArg Addr.block e; simp at this; omega)]; first | exact q5.1 | exact q5.2.1 | exact q5.2.2)) | go_keep)
      (first
        | (go_at_call 49
           refine (newValue_some na nz _).mono ?_
           rintro e w3 ⟨va, vg, rfl, hb3, hv3, hva, hvg⟩
           have q4 : w3.cell? ⟨w.heap.size, 0, none⟩ = some (.string k) ∧ w3.cell? ⟨w.heap.size + 1, 0, none⟩ = some (.string na) ∧ w3.cell? ⟨w.heap.size + 1, 1, none⟩ = some (.string nz) := by
             refine ⟨?_, ?_, ?_⟩ <;> (rw [hb3.cell (by simp; omega)]; first | assumption | (simp [*]; done) | go_keep)
           have hc3 : TAt nR w3 c := HC2.out.keep (by first | exact below_drew hb3 | exact below_drew (below_alloc hb3).1 | exact (below_alloc (below_drew hb3)).1)
           have HC3 : Hid (TAt nR w3 c) := hc3
           have HVA : Hid (VAt w3 ⟨va, .agg #[.string na, .string nz], vg⟩ ∧ w2.heap.size ≤ va ∧ w2.heap.size ≤ vg) := ⟨hv3, by simp at hva; omega, by simp at hvg; omega⟩
           have HB3 : Hid (Below w2.heap.size w2 w3) := (by first | exact below_drew hb3 | exact below_drew (below_alloc hb3).1 | exact (below_alloc (below_drew hb3)).1)
           try (have N3 : Hid (w3.heap[w2.heap.size]? = some (.cells #[.pointer none] 100)) := (by first | exact (below_alloc hb3).2 | exact (below_alloc (below_drew hb3)).2))
           have hz3 : w2.heap.size ≤ w3.heap.size := by have := hb3.size; simp at this; omega
           clear hb3 hv3 hc3 hva hvg)
        | (go_at_call 48
           refine (entry_boxes c k ⟨va, .agg #[.string na, .string nz], vg⟩ _ (by first | exact HC3.out | exact HC3.out.keep ((Below.refl _ _).alloc (Nat.le_refl _) _)) HWC.out.1 (by first | exact HVA.out.1 | exact HVA.out.1.below ((Below.refl _ _).alloc (Nat.le_refl _) _)) HWC.out.2.1 hks HWC.out.2.2).mono ?_
           rintro e w4 ⟨T, rfl, hb4, hT4, hE4⟩
           have q5 : w4.cell? ⟨w.heap.size, 0, none⟩ = some (.string k) ∧ w4.cell? ⟨w.heap.size + 1, 0, none⟩ = some (.string na) ∧ w4.cell? ⟨w.heap.size + 1, 1, none⟩ = some (.string nz) := by
             refine ⟨?_, ?_, ?_⟩ <;> (rw [hb4.cell (by simp; omega)]; first | assumption | (simp [*]; done) | go_keep)
           have H4 : Hid _ := And.intro hb4 (And.intro hT4 hE4)
           try (have N4 : Hid (w4.heap[w2.heap.size]? = some (.cells #[.pointer none] 100)) := (hb4.block _ (lt_of_heap N3.out)).trans N3.out; have nc4 : w4.cell? ⟨w2.heap.size, 0, none⟩ = some (.pointer none) := (by rw [cell_of_blk N4.out]; rfl); have nz4 : w4.frozen? ⟨w2.heap.size, 0, none⟩ = false := frozen_of_blk N4.out)
           try (have N4 : Hid (w4.heap[w3.heap.size]? = some (.cells #[.pointer none] 100)) := (below_alloc hb4).2; have nc4 : w4.cell? ⟨w3.heap.size, 0, none⟩ = some (.pointer none) := (by rw [cell_of_blk N4.out]; rfl); have nz4 : w4.frozen? ⟨w3.heap.size, 0, none⟩ = false := frozen_of_blk N4.out)
           clear hb4 hT4 hE4))
    · go_wp2
      go_meet
      have h4 := H4.out
      exact ⟨_, T, va, vg, rfl, mid_alloc HB1.out HW2.out (by omega) HR2.out (HB3.out.trans (h4.1.mono hz3)) h4.2.1 h4.2.2 (by omega) (HVA.out.1.below h4.1) HVA.out.2⟩
    · go_wp2
      go_meet
      have h4 := H4.out
      have hb := below_alloc h4.1
      have hz : (w3.alloc (.cells #[.pointer none] 100)).heap.size = w3.heap.size + 1 := by simp [World.size_alloc]
      exact ⟨_, T, va, vg, rfl, mid_store HB1.out HW2.out (by omega) HR2.out (HB3.out.trans (hb.1.mono hz3)) N4.out hz3 h4.2.1 (by exact heap_alloc_new _ _) h4.2.2 (by omega) (HVA.out.1.below hb.1) HVA.out.2⟩
    · go_wp2
      go_meet
      have h4 := H4.out
      exact ⟨_, T, va, vg, rfl, mid_store HB1.out HW2.out (by omega) HR2.out (HB3.out.trans (h4.1.mono hz3)) N4.out (Nat.le_refl _) h4.2.1 N3.out h4.2.2 (by omega) (HVA.out.1.below h4.1) HVA.out.2⟩
  case rest =>
    obtain ⟨nb, T, va, vg, rfl, HM⟩ := hcut
    clear HB1 HW2 HC2 HWC H02 k2 t0 k0 hs1 hz2 hz2' HVB HR2 va2 vz2
    go_wp2_with fail
    refine (backward_calls _ _ _ wc).mono ?_
    rintro e w6 ⟨rfl, hw6⟩
    have HW6 : Hid (w6 = wc.alloc (.cells #[.slice (some ⟨g, 0, none⟩) init.length cap] 116)) := hw6
    clear hw6
    go_wp2_with fail
    have hm := HM.out
    have h06 : Below w.heap.size w w6 := by rw [HW6.out]; exact hm.below.alloc hm.below.size _
    have h66 : Below wc.heap.size wc w6 := by rw [HW6.out]; exact (Below.refl _ _).alloc (Nat.le_refl _) _
    have hbox6 : w6.heap[wc.heap.size]? = some (.cells #[.slice (some ⟨g, 0, none⟩) init.length cap] 116) := by rw [HW6.out]; exact heap_alloc_new _ _
    have hs6 : w6.heap.size = wc.heap.size + 1 := by rw [HW6.out]; simp [World.size_alloc]
    have hnl := lt_of_heap hm.nbox
    have hkl := lt_of_heap hm.kbox
    have hnbl := hm.nbl
    refine (wpIn_wide (n := 8)).1 ?_
    refine wpIn_rangeFunc_ownG (F := Fence.wide) rfl (by omega) (gf := 84) (lb := #[.pointer (some ⟨wc.heap.size, 0, none⟩)]) rfl trivial (enters_of Try.func84 (by kernel_rfl) rfl)
      (back_stops Fence.wide 7 trivial rfl (by omega) wc.heap.size g cap init (by omega) w6 (by rw [cell_of_blk hbox6]; rfl) (hm.way.below h66)) (fun h1 h2 => h1.trans h2) ?hKb (Below.refl _ _) (fun _ => rfl)
      (fun pre W => ∃ T, InsI w k ⟨va, .agg #[.string na, .string nz], vg⟩ (init ++ [c]) init.length w.heap.size nb (w.heap.size + 2) w6.heap.size (pre.map (·.val)) W T)
      (fun _ _ _ => False) ?hI (fun _ _ _ _ _ h _ _ => h) ?h0 ?a1 ?assign ?body ?done ?stop
    case assign =>
      intro l x W K hK
      dsimp only [encN]
      gi_wp2
      exact hK
    case hKb =>
      intro W l o o' hl h1 h2 h3
      have hg1 := hm.gne.2
      exact ⟨World.putObj_heap_other (by omega), World.putObj_heap_other (by omega)⟩
    case hI =>
      intro pre A B row hs hg hr
      obtain ⟨T1, hI1⟩ := hs
      exact ⟨T1, Nat.le_trans hI1.size hg.size, hI1.below.grown hg hI1.below.size (fun r e => by have := (hr r e).1; have := h06.size; omega), heap_kept hI1.kbox hg (fun r e => (hr r e).2), heap_kept hI1.rbox hg (fun r e => (hr r e).2), heap_kept hI1.nbox hg (fun r e => (hr r e).2), hI1.tat.grown hg (fun r e => (hr r e).2), hI1.rel⟩
    case h0 =>
      refine ⟨T, Nat.le_refl _, h06, (h66.block _ hkl).trans hm.kbox, (h66.block _ (lt_of_heap hm.rbox)).trans hm.rbox, (h66.block _ hnl).trans hm.nbox, hm.tat.keep h66, ?_⟩
      intro m hml hmx u hu
      have hm0 : m = 0 := by have := congrArg List.length hmx; simpa [downTo_length] using this.symm
      subst hm0
      have hnx : nx c k.data.toList = none := by have := HA.out.step init.length (by simp); simpa using this
      simp at hu
      subst hu
      exact .entry hnx hm.ent
    case stop =>
      intro D c' pre W _ _ h _
      exact h.elim
    case body =>
      rintro l pre x W ⟨T1, hI1⟩ hlen
      have hux : init[x.val] ∈ init ++ [c] := List.mem_append_left _ (List.getElem_mem x.isLt)
      have hwu := HA.out.wf HWF.out _ hux
      have hps : init[x.val].p.size < k.size := by
        have h1 := List.pairwise_iff_getElem.1 (HA.out.inc HWF.out).1 x.val init.length (by simp; omega) (by simp) x.isLt
        simp only [List.getElem_map, List.getElem_append_left x.isLt, List.getElem_append_right (Nat.le_refl _), Nat.sub_self, List.getElem_cons_zero] at h1
        have h2 := (HA.out.pre HP.out c (by simp)).length_le
        rw [path_length] at h2
        simp at h2
        omega
      have hTu : TAt (· = nb) W init[x.val] := ((along_tat HA.out HT.out.tat _ hux).avoid (fun b hb => by have hb' : b = nb := hb; omega)).keep hI1.below
      have hnbW := lt_of_heap hI1.nbox
      have hkbW := lt_of_heap hI1.kbox
      obtain ⟨w7, HW7⟩ : ∃ w7, Hid (w7 = W.alloc (.cells #[.pointer (some ⟨T1.a, 0, none⟩)] 100)) := ⟨_, rfl⟩
      have hb7 : Below W.heap.size W w7 := by rw [HW7.out]; exact (Below.refl _ _).alloc (Nat.le_refl _) _
      have hblk7 : w7.heap[W.heap.size]? = some (.cells #[.pointer (some ⟨T1.a, 0, none⟩)] 100) := by rw [HW7.out]; exact heap_alloc_new _ _
      have HK := withKids_calls (R := (· = nb)) init[x.val] k ⟨some ⟨W.heap.size, 0, none⟩, 1, [T1]⟩ w7 (hTu.keep hb7) hwu hps hks (one_kid (by show ¬ W.heap.size = nb; omega) hblk7) (by simp) (fun t ht => by simp at ht; subst ht; exact hI1.tat.keep hb7) (fun b hb => by have hb' : b = nb := hb; have := hb7.size; omega)
      have kc : W.cell? ⟨w.heap.size, 0, none⟩ = some (.string k) := by rw [cell_of_blk hI1.kbox]; rfl
      have ncell : W.cell? ⟨nb, 0, none⟩ = some (.pointer (some ⟨T1.a, 0, none⟩)) := by rw [cell_of_blk hI1.nbox]; rfl
      have HI1 : Hid (InsI w k ⟨va, .agg #[.string na, .string nz], vg⟩ (init ++ [c]) init.length w.heap.size nb (w.heap.size + 2) w6.heap.size (pre.map (·.val)) W T1) := hI1
      have HB7 : Hid (Below W.heap.size W w7) := hb7
      have HWU : Hid (WF init[x.val]) := hwu
      have HM1 : Hid (InsMid w k ⟨va, .agg #[.string na, .string nz], vg⟩ c init w.heap.size g nb (w.heap.size + 2) T wc) := hm
      clear hI1 hb7 hblk7 hwu hTu hm hux
      gi_wp2_with fail
      refine ⟨trivial, ?_⟩
      rw [← HW7.out]
      refine (CallsIn.inRound l (callsIn_wide.2 HK)).mono ?_
      clear HK
      rintro e w8 ⟨a', g', rfl, hb8, ha8, hg8, hT8⟩
      have h78 : Below W.heap.size W w8 := HB7.out.trans (hb8.mono HB7.out.size)
      have nblk8 : w8.heap[nb]? = some (.cells #[.pointer (some ⟨T1.a, 0, none⟩)] 100) := (h78.block _ hnbW).trans HI1.out.nbox
      have ncell8 : w8.cell? ⟨nb, 0, none⟩ = some (.pointer (some ⟨T1.a, 0, none⟩)) := by rw [cell_of_blk nblk8]; rfl
      have nfz8 : w8.frozen? ⟨nb, 0, none⟩ = false := frozen_of_blk nblk8
      have H8 : Hid (Below W.heap.size W w8 ∧ w7.heap.size ≤ a' ∧ w7.heap.size ≤ g' ∧ w8.heap[nb]? = some (.cells #[.pointer (some ⟨T1.a, 0, none⟩)] 100)) := ⟨h78, ha8, hg8, nblk8⟩
      have HT8 : Hid (TAt (· = nb) w8 (.nd a' init[x.val].p init[x.val].v (init[x.val].ks.take (posn init[x.val].ks init[x.val].p.size k[init[x.val].p.size]) ++ [T1] ++ init[x.val].ks.drop (behindOf init[x.val] k hps)) g')) := hT8
      clear hb8 ha8 hg8 hT8 h78 nblk8
      gi_wp2_with fail
      obtain ⟨h78, ha8, hg8, nblk8⟩ := H8.out
      have hI1 := HI1.out
      have hz7 := HB7.out.size
      have hz0 := hI1.below.size
      have hgw := HM1.out.gne
      refine ⟨(keepsFrom_below h78).trans ((KeepsOthers.setCell _ _ _).from _), ⟨?_, ?_⟩, .nd a' init[x.val].p init[x.val].v (init[x.val].ks.take (posn init[x.val].ks init[x.val].p.size k[init[x.val].p.size]) ++ [T1] ++ init[x.val].ks.drop (behindOf init[x.val] k hps)) g', ?_, ?_, ?_, ?_, ?_, ?_, ?_⟩
      · rw [heap_setCell_other _ _ _ _ (by show g ≠ nb; exact hgw.1)]
        exact h78.block _ (by have := hI1.size; omega)
      · rw [heap_setCell_other _ _ _ _ (by show wc.heap.size ≠ nb; omega)]
        exact h78.block _ (by have := hI1.size; omega)
      · have h1 := hI1.size
        have h2 := h78.size
        simp
        omega
      · exact (hI1.below.trans (h78.mono hz0)).setCell (by show w.heap.size ≤ nb; omega) _
      · rw [heap_setCell_other _ _ _ _ (by show w.heap.size ≠ nb; intro e; have h1 := hI1.kbox; rw [e, hI1.nbox] at h1; simp at h1)]
        exact (h78.block _ hkbW).trans hI1.kbox
      · rw [heap_setCell_other _ _ _ _ (by show w.heap.size + 2 ≠ nb; intro e; have h1 := hI1.rbox; rw [e, hI1.nbox] at h1; simp at h1)]
        exact (h78.block _ (lt_of_heap hI1.rbox)).trans hI1.rbox
      · rw [setCell_blk nblk8]; rfl
      · exact HT8.out.poke (i := 0) rfl nblk8 (by decide) (by decide) (by decide) _
      · intro m hml hmx u hu
        rw [List.map_append] at hmx
        cases m with
        | zero => simp [downTo] at hmx
        | succ m =>
          rw [downTo_succ] at hmx
          obtain ⟨h1, h2⟩ := List.append_inj' hmx rfl
          have hxv : x.val = init.length - 1 - m := by simpa using h2
          have hu' : u = init[x.val] := by
            rw [show init.length - (m + 1) = x.val by omega, List.getElem?_append_left x.isLt, List.getElem?_eq_getElem x.isLt] at hu
            exact (Option.some.inj hu).symm
          subst hu'
          have hst := HA.out.step x.val (by simp; omega)
          rw [List.getElem_append_left x.isLt] at hst
          have hlt : init.length - m < (init ++ [c]).length := by simp; omega
          rw [show x.val + 1 = init.length - m by omega, List.getElem?_eq_getElem hlt] at hst
          exact ins_down HWU.out hps hst (hI1.rel m (by omega) h1 _ (List.getElem?_eq_getElem hlt)) (by omega) (by omega)
    case done =>
      rintro D ys W hD hys ⟨T1, hI1⟩ hK
      have hnx : nx c k.data.toList = none := by have := HA.out.step init.length (by simp); simpa using this
      have hcm : c ∈ init ++ [c] := by simp
      have hcW : TAt nR W c := (along_tat HA.out HT.out.tat c hcm).keep hI1.below
      have HVO := valueOf_calls c k W [] c (.stop hnx) hcW (HA.out.wf HWF.out c hcm) (HA.out.pre HP.out c hcm) hks
      have HR : Hid (InsR w.heap.size k ⟨va, .agg #[.string na, .string nz], vg⟩ t T1) := by
        refine hI1.rel init.length (Nat.le_refl _) hys t ?_
        obtain ⟨r, hr⟩ := HA.out.head
        rw [hr]; simp
      have ncell : W.cell? ⟨nb, 0, none⟩ = some (.pointer (some ⟨T1.a, 0, none⟩)) := by rw [cell_of_blk hI1.nbox]; rfl
      have kcell : W.cell? ⟨w.heap.size, 0, none⟩ = some (.string k) := by rw [cell_of_blk hI1.kbox]; rfl
      have HI1 : Hid (Below w.heap.size w W ∧ TAt (· = nb) W T1) := ⟨hI1.below, hI1.tat⟩
      have HRB : Hid (W.heap[w.heap.size + 2]? = some (.cells #[.string ⟨#[]⟩, .string ⟨#[]⟩] 41)) := hI1.rbox
      have hnW := lt_of_heap hI1.nbox
      have HK : Hid (W.heap[D]? = some (.deferred (some []))) := hK
      have hDW := lt_of_heap hK
      have HHV : Hid (∀ x, valAt c k = some x → VAt W x) := fun x hx => by
        unfold valAt at hx
        split at hx
        · cases hx
        · exact hcW.val' x hx
      have hDw : w.heap.size ≤ D := Nat.le_trans h06.size hD
      clear hI1 hK hcW hnx hcm hm h06 h66 hbox6 hs6
      go_wp2_with fail
      refine HVO.mono ?_
      clear HVO
      rintro e w9 ⟨rfl, hb9⟩
      have HG := get_calls (valAt c k) w9 (fun x hx => (HHV.out x hx).below hb9)
      have t1 : w9.cell? ⟨tb, 1, none⟩ = some (.int .i64 ne) := by
        have h0W := HI1.out.1
        rw [hb9.cell (by show tb < W.heap.size; have := h0W.size; omega), h0W.cell (by exact hb0), cell_of_blk HT.out.blk]; rfl
      have ncell9 : w9.cell? ⟨nb, 0, none⟩ = some (.pointer (some ⟨T1.a, 0, none⟩)) := by rw [hb9.cell (by exact hnW)]; exact ncell
      have HB9 : Hid (Below W.heap.size W w9) := hb9
      clear hb9 ncell kcell
      have HRB9 : Hid (w9.heap[w.heap.size + 2]? = some (.cells #[.string ⟨#[]⟩, .string ⟨#[]⟩] 41)) := (HB9.out.block _ (lt_of_heap HRB.out)).trans HRB.out
      have htb9 : tb < w9.heap.size := World.block_lt_of_cell? w9 _ t1
      have hnb9 : nb < w9.heap.size := World.block_lt_of_cell? w9 _ ncell9
      go_wp2_with fail
      refine HG.mono ?_
      clear HG
      rintro e w10 ⟨rfl, hb10⟩
      have t10 : w10.cell? ⟨tb, 1, none⟩ = some (.int .i64 ne) := by rw [hb10.cell (by exact htb9)]; exact t1
      have n10 : w10.cell? ⟨nb, 0, none⟩ = some (.pointer (some ⟨T1.a, 0, none⟩)) := by rw [hb10.cell (by exact hnb9)]; exact ncell9
      have rblk : w10.heap[w.heap.size + 2]? = some (.cells #[.string ⟨#[]⟩, .string ⟨#[]⟩] 41) := (hb10.block _ (lt_of_heap HRB9.out)).trans HRB9.out
      have r0 : w10.cell? ⟨w.heap.size + 2, 0, none⟩ = some (.string ⟨#[]⟩) := by rw [cell_of_blk rblk]; rfl
      have r1 : w10.cell? ⟨w.heap.size + 2, 1, none⟩ = some (.string ⟨#[]⟩) := by rw [cell_of_blk rblk]; rfl
      have rz0 : w10.frozen? ⟨w.heap.size + 2, 0, none⟩ = false := frozen_of_blk rblk
      have rz1 : w10.frozen? ⟨w.heap.size + 2, 1, none⟩ = false := frozen_of_blk rblk
      obtain ⟨xa, xz, hxx⟩ : ∃ xa xz : ByteArray, held (valAt c k) = .agg #[.string xa, .string xz] := by
        cases hv0 : valAt c k with
        | none => exact ⟨_, _, rfl⟩
        | some x0 => obtain ⟨p, q, h⟩ := (HHV.out x0 hv0).num; exact ⟨p, q, h⟩
      rw [hxx]
      have HB10 : Hid (Below W.heap.size W w10) := HB9.out.trans (hb10.mono HB9.out.size)
      have HRBK : Hid (w10.heap[w.heap.size + 2]? = some (.cells #[.string ⟨#[]⟩, .string ⟨#[]⟩] 41)) := rblk
      have htb10 : tb < w10.heap.size := World.block_lt_of_cell? w10 _ t10
      have hnb10 : nb < w10.heap.size := World.block_lt_of_cell? w10 _ n10
      have hrb10 : w.heap.size + 1 + 1 < w10.heap.size := lt_of_heap rblk
      have r0' : w10.cell? ⟨w.heap.size + 1 + 1, 0, none⟩ = some (.string ⟨#[]⟩) := r0
      have r1' : w10.cell? ⟨w.heap.size + 1 + 1, 1, none⟩ = some (.string ⟨#[]⟩) := r1
      have rz0' : w10.frozen? ⟨w.heap.size + 1 + 1, 0, none⟩ = false := rz0
      have rz1' : w10.frozen? ⟨w.heap.size + 1 + 1, 1, none⟩ = false := rz1
      clear hb10 t1 ncell9 hxx rblk r0 r1 rz0 rz1
      obtain ⟨rb, HRBE⟩ : ∃ rb, Hid (rb = w.heap.size + 1 + 1) := ⟨_, rfl⟩
      rw [← HRBE.out] at r0' r1' rz0' rz1' hrb10 ⊢
      obtain ⟨had, HS⟩ : ∃ had, Hid (had = (valAt c k).isSome) := ⟨_, rfl⟩
      rw [← HS.out]
      cases had
      · have HPN : Hid (plusNew (valAt c k) = 1) := by show _ = _; unfold plusNew; rw [← HS.out]; rfl
        go_wp2_with fail
        go_region
        obtain ⟨X, HX⟩ : ∃ X, Hid (X = ((((w10.setCell ⟨rb, 0, none⟩ (.string xa)).setCell ⟨rb, 1, none⟩ (.string xz)).alloc (.cells #[.string xa, .string xz] 41)).alloc (.cells #[.pointer (some ⟨T1.a, 0, none⟩), .int .i64 (ne + 1)] 103)).drew) := ⟨_, rfl⟩
        obtain ⟨e1, e2, e3, e4, e5, e6⟩ := ins_end (m := ne + 1) (rb := rb) HI1.out.1 HB10.out HI1.out.2 HK.out hDw (by rw [HRBE.out]; exact HRBK.out) (by rw [HRBE.out]; omega) HX.out
        rw [← HX.out]
        go_wp2_with fail
        refine ⟨by simp, .inl ⟨_, _, rfl, run_takeDeferred e1, ?_⟩⟩
        exact ⟨.tuple #[.pointer (some ⟨w10.heap.size + 1, 0, none⟩), .agg #[.string xa, .string xz], .bool false], by simp [results, Try.f16, go_sem, e5, e6], w10.heap.size + 1, T1, va, vg, _, _, rfl, e2, by rw [HPN.out]; exact e3, HR.out, HM.out.va.1, HM.out.va.2, e4⟩
      · have HPN : Hid (plusNew (valAt c k) = 0) := by show _ = _; unfold plusNew; rw [← HS.out]; rfl
        go_wp2_with fail
        go_region
        obtain ⟨X, HX⟩ : ∃ X, Hid (X = ((((w10.setCell ⟨rb, 0, none⟩ (.string xa)).setCell ⟨rb, 1, none⟩ (.string xz)).alloc (.cells #[.string xa, .string xz] 41)).alloc (.cells #[.pointer (some ⟨T1.a, 0, none⟩), .int .i64 ne] 103)).drew) := ⟨_, rfl⟩
        obtain ⟨e1, e2, e3, e4, e5, e6⟩ := ins_end (m := ne) (rb := rb) HI1.out.1 HB10.out HI1.out.2 HK.out hDw (by rw [HRBE.out]; exact HRBK.out) (by rw [HRBE.out]; omega) HX.out
        rw [← HX.out]
        go_wp2_with fail
        refine ⟨by simp, .inl ⟨_, _, rfl, run_takeDeferred e1, ?_⟩⟩
        exact ⟨.tuple #[.pointer (some ⟨w10.heap.size + 1, 0, none⟩), .agg #[.string xa, .string xz], .bool true], by simp [results, Try.f16, go_sem, e5, e6], w10.heap.size + 1, T1, va, vg, _, _, rfl, e2, by rw [HPN.out, Int.add_zero]; exact e3, HR.out, HM.out.va.1, HM.out.va.2, e4⟩

/-- New: a tree of one node. -/
theorem newTree_calls (w : World) : Calls Try.prog 14 #[] w fun e w' => ∃ tb a g, e = .returned (.pointer (some ⟨tb, 0, none⟩)) ∧ Below w.heap.size w w' ∧ TreeAt w' tb (.nd a ⟨#[]⟩ none [] g) 0 ∧ w.heap.size ≤ tb ∧ w.heap.size ≤ a ∧ w.heap.size ≤ g := by
  go_enter Try.func14, Try.ntmps14
  go_wp2_with fail
  refine (newNode_calls _ _ _ _ _ w).mono ?_
  rintro e w1 ⟨rfl, hb1, hs1, hn1, hw1⟩
  have H1 : Hid (Below w.heap.size w w1 ∧ w1.heap.size = w.heap.size + 3 ∧ TAt nR w1 (.nd (w.heap.size + 2) ⟨#[]⟩ none [] (w.heap.size + 1))) :=
    ⟨hb1, hs1, TAt.laid (x := ⟨none, 0, []⟩) hn1 ⟨fun i hi => by simp at hi, Nat.le_refl _, fun _ => rfl⟩ (fun y hy => by cases hy) hw1 (fun t ht => by simp at ht) (by decide)⟩
  clear hb1 hs1 hn1 hw1
  go_wp2
  go_ret
  obtain ⟨hb1, hs1, hT⟩ := H1.out
  have h2 : Below w1.heap.size w1 (w1.alloc (.cells #[.pointer (some ⟨w.heap.size + 2, 0, none⟩), .int .i64 0] 103)) := (Below.refl _ _).alloc (Nat.le_refl _) _
  exact ⟨w1.heap.size, w.heap.size + 2, w.heap.size + 1, rfl, hb1.trans (h2.mono hb1.size), ⟨heap_alloc_new _ _, hT.keep h2⟩, hb1.size, by omega, by omega⟩

theorem reach_tree (tb : Nat) (t : Tr) (n : Int) (k : ByteArray) (w : World) (init : List Tr) (c : Tr) (h : TreeAt w tb t n) (hw : WF t) (hp : t.path <+: k.data.toList) (hks : k.size ≤ 140737488351232) (hA : Along k.data.toList t (init ++ [c])) :
    Calls Try.prog 22 #[.pointer (some ⟨tb, 0, none⟩), .string k] w fun e w' => e = .returned (.string c.p) ∧ Below w.heap.size w w' := by
  have c0 : w.cell? ⟨tb, 0, none⟩ = some (.pointer (some ⟨t.a, 0, none⟩)) := by rw [cell_of_blk h.blk]; rfl
  have HV := reach_calls t k w init c hA h.tat hw hp hks
  have hT := along_tat hA h.tat c (by simp)
  obtain ⟨-, -, d0, -, -, -, -, -, -⟩ := hT.cells
  have ha := hT.lt
  clear h hw hp hA hT
  go_enter Try.func22, Try.ntmps22
  go_wp2_with fail
  refine HV.mono ?_
  clear HV
  rintro e w1 ⟨rfl, hb1⟩
  have d0' : w1.cell? ⟨c.a, 0, none⟩ = some (.string c.p) := by rw [hb1.cell (by exact ha)]; exact d0
  have HB : Hid (Below w.heap.size w w1) := hb1
  clear hb1 c0 d0
  go_wp2
  go_ret
  exact ⟨rfl, HB.out⟩

theorem enters_longest (args : Array Value) (W : World) : (callFunc 60 args).run Try.prog W = .ok (.enter 60 args) W := by
  have := Try.func60
  go_simp

theorem longestK_calls (u : Tr) (b : Nat) (x : Option Addr) (w : World) (hu : TAt nR w u) (hb : w.heap[b]? = some (.cells #[.pointer x] 100)) :
    Calls Try.prog 60 #[.pointer (some ⟨u.a, 0, none⟩), .pointer (some ⟨b, 0, none⟩)] w fun e w' => e = .returned (.tuple #[]) ∧ w' = if u.v.isSome then w.setCell ⟨b, 0, none⟩ (.pointer (some ⟨u.a, 0, none⟩)) else w := by
  obtain ⟨-, -, -, c1, -, -, -, -, -⟩ := hu.cells
  have c0 : w.cell? ⟨b, 0, none⟩ = some (.pointer x) := by rw [cell_of_blk hb]; rfl
  have z0 : w.frozen? ⟨b, 0, none⟩ = false := frozen_of_blk hb
  clear hb hu
  cases hv : u.v with
  | none =>
    rw [hv] at c1
    simp only [vptr] at c1
    simp only [Option.isSome_none, Bool.false_eq_true, if_false]
    clear hv
    go_enter Try.func60, Try.ntmps60
    go_wp2
    go_end0
    exact ⟨rfl, rfl⟩
  | some y =>
    rw [hv] at c1
    simp only [vptr] at c1
    simp only [Option.isSome_some, if_true]
    clear hv
    go_enter Try.func60, Try.ntmps60
    go_wp2
    go_end0
    exact ⟨rfl, rfl⟩

structure LI (w : World) (t : Tr) (l : List Tr) (i : Nat) (W : World) : Prop where
  below : Below w.heap.size w W
  box : W.heap[w.heap.size]? = some (.cells #[.pointer (some ⟨(best t (l.take i)).a, 0, none⟩)] 100)

theorem entry_tree (c : Tr) (w : World) (h : TAt nR w c) : Calls Try.prog 61 #[.pointer (some ⟨c.a, 0, none⟩)] w fun e w' => e = .returned (.tuple #[.string c.p, held c.v, .bool c.v.isSome]) ∧ Below w.heap.size w w' := by
  obtain ⟨-, -, c0, c1, -, -, -, -, -⟩ := h.cells
  have ha := h.lt
  obtain ⟨w1, HW1⟩ : ∃ w1, Hid (w1 = w.alloc (.cells #[.string ⟨#[]⟩, .string ⟨#[]⟩] 41)) := ⟨_, rfl⟩
  have hb1 : Below w.heap.size w w1 := by rw [HW1.out]; exact (Below.refl _ _).alloc (Nat.le_refl _) _
  have hblk : w1.heap[w.heap.size]? = some (.cells #[.string ⟨#[]⟩, .string ⟨#[]⟩] 41) := by rw [HW1.out]; exact heap_alloc_new _ _
  have HG := get_calls c.v w1 (fun x hx => (h.val' x hx).below hb1)
  obtain ⟨xa, xz, hxx⟩ : ∃ xa xz : ByteArray, held c.v = .agg #[.string xa, .string xz] := by
    cases hv0 : c.v with
    | none => exact ⟨_, _, rfl⟩
    | some x0 => obtain ⟨p, q, h⟩ := (h.val' x0 hv0).num; exact ⟨p, q, h⟩
  rw [hxx] at HG ⊢
  have HB1 : Hid (Below w.heap.size w w1) := hb1
  have HBK : Hid (w1.heap[w.heap.size]? = some (.cells #[.string ⟨#[]⟩, .string ⟨#[]⟩] 41)) := hblk
  clear h hb1 hblk hxx
  go_enter Try.func61, Try.ntmps61
  go_wp2_with fail
  rw [← HW1.out]
  refine HG.mono ?_
  clear HG HW1
  rintro e w2 ⟨rfl, hb2⟩
  have h02 : Below w.heap.size w w2 := HB1.out.trans (hb2.mono HB1.out.size)
  have d0 : w2.cell? ⟨c.a, 0, none⟩ = some (.string c.p) := by rw [h02.cell (by exact ha)]; exact c0
  have hblk2 : w2.heap[w.heap.size]? = some (.cells #[.string ⟨#[]⟩, .string ⟨#[]⟩] 41) := (hb2.block _ (lt_of_heap HBK.out)).trans HBK.out
  have r0 : w2.cell? ⟨w.heap.size, 0, none⟩ = some (.string ⟨#[]⟩) := by rw [cell_of_blk hblk2]; rfl
  have r1 : w2.cell? ⟨w.heap.size, 1, none⟩ = some (.string ⟨#[]⟩) := by rw [cell_of_blk hblk2]; rfl
  have z0 : w2.frozen? ⟨w.heap.size, 0, none⟩ = false := frozen_of_blk hblk2
  have z1 : w2.frozen? ⟨w.heap.size, 1, none⟩ = false := frozen_of_blk hblk2
  have hl2 : w.heap.size < w2.heap.size := lt_of_heap hblk2
  have ha2 : c.a < w2.heap.size := World.block_lt_of_cell? w2 _ d0
  have HB2 : Hid (Below w.heap.size w w2) := h02
  have HBK2 : Hid (w2.heap[w.heap.size]? = some (.cells #[.string ⟨#[]⟩, .string ⟨#[]⟩] 41)) := hblk2
  clear hb2 h02 c0 c1 hblk2
  go_wp2_with fail
  go_region
  obtain ⟨W, HW⟩ : ∃ W, Hid (W = (((w2.setCell ⟨w.heap.size, 0, none⟩ (.string xa)).setCell ⟨w.heap.size, 1, none⟩ (.string xz)).alloc (.cells #[.string xa, .string xz] 41)).drew) := ⟨_, rfl⟩
  rw [← HW.out]
  have hbW : W.heap[w.heap.size]? = some (.cells #[.string xa, .string xz] 41) := by
    rw [HW.out]
    show (((w2.setCell ⟨w.heap.size, 0, none⟩ (.string xa)).setCell ⟨w.heap.size, 1, none⟩ (.string xz)).alloc _).heap[w.heap.size]? = _
    rw [Below.heap_alloc _ _ _ (by simp; omega), setCell_blk (setCell_blk HBK2.out _)]
    simp
  have f0 : W.cell? ⟨w.heap.size, 0, none⟩ = some (.string xa) := by rw [cell_of_blk hbW]; rfl
  have f1 : W.cell? ⟨w.heap.size, 1, none⟩ = some (.string xz) := by rw [cell_of_blk hbW]; rfl
  have HBW : Hid (Below w.heap.size w W) := by
    show Below _ _ _
    rw [HW.out]
    exact (((HB2.out.setCell (p := ⟨w.heap.size, 0, none⟩) (Nat.le_refl _) _).setCell (p := ⟨w.heap.size, 1, none⟩) (Nat.le_refl _) _).alloc (by simp; omega) _).drew
  clear hbW HW r0 r1 z0 z1 d0
  go_wp2_with fail
  exact bodyPost_ret (v := .tuple #[.string c.p, .agg #[.string xa, .string xz], .bool c.v.isSome]) (by simp [results, Try.results61, go_sem, f0, f1]) rfl ⟨rfl, HBW.out⟩

set_option maxRecDepth 100000 in
theorem longest_tree (tb : Nat) (t : Tr) (n : Int) (k : ByteArray) (w : World) (l : List Tr) (h : TreeAt w tb t n) (hw : WF t) (hp : t.path <+: k.data.toList) (hks : k.size ≤ 140737488351232) (hA : Along k.data.toList t l) (hb : TAt nR w (best t l)) :
    Calls Try.prog 19 #[.pointer (some ⟨tb, 0, none⟩), .string k] w fun e w' => e = .returned (.tuple #[.string (best t l).p, held (best t l).v, .bool (best t l).v.isSome]) ∧ Below w.heap.size w w' := by
  have hmf : ∀ (fn : Fn) (first cap : Array Value) (w : World), (Instr.makeFunc fn first cap).run Try.prog w = .ok (.func fn first cap) w := fun _ _ _ _ => rfl
  obtain ⟨w0, HW0⟩ : ∃ w0, Hid (w0 = w.alloc (.cells #[.string ⟨#[]⟩, .string ⟨#[]⟩] 41)) := ⟨_, rfl⟩
  have h00 : Below w.heap.size w w0 := by rw [HW0.out]; exact (Below.refl _ _).alloc (Nat.le_refl _) _
  have hs0 : w0.heap.size = w.heap.size + 1 := by rw [HW0.out]; simp [World.size_alloc]
  have hrb : w0.heap[w.heap.size]? = some (.cells #[.string ⟨#[]⟩, .string ⟨#[]⟩] 41) := by rw [HW0.out]; exact heap_alloc_new _ _
  have h' := h.keep h00
  have htb := lt_of_heap h.blk
  have c0 : w.cell? ⟨tb, 0, none⟩ = some (.pointer (some ⟨t.a, 0, none⟩)) := by rw [cell_of_blk h.blk]; rfl
  obtain ⟨w1, HW1⟩ : ∃ w1, Hid (w1 = w0.alloc (.cells #[.pointer (some ⟨t.a, 0, none⟩)] 100)) := ⟨_, rfl⟩
  have hb1 : Below w0.heap.size w0 w1 := by rw [HW1.out]; exact (Below.refl _ _).alloc (Nat.le_refl _) _
  have hbox : w1.heap[w0.heap.size]? = some (.cells #[.pointer (some ⟨t.a, 0, none⟩)] 100) := by rw [HW1.out]; exact heap_alloc_new _ _
  have HA := along_calls 60 enters_longest (.pointer (some ⟨w0.heap.size, 0, none⟩)) t k l (LI w0 t l) w1 hA hw hp hks
    ⟨hb1, by rw [hbox]; simp [best]⟩
    (fun i W W' hi hb => ⟨hi.below.trans (hb.mono hi.below.size), by rw [hb.block _ (lt_of_heap hi.box)]; exact hi.box⟩)
    (fun i W hi => h'.tat.keep hi.below)
    (fun i hi W hI hT => (longestK_calls l[i] _ _ W hT hI.box).mono (by
      rintro e W' ⟨rfl, rfl⟩
      refine ⟨rfl, ?_, ?_⟩
      · split
        · exact hI.below.setCell (Nat.le_refl _) _
        · exact hI.below
      · rw [List.take_succ_eq_append_getElem hi, best_snoc]
        split
        · rw [setCell_blk hI.box]; simp
        · exact hI.box))
  rw [hs0] at HA
  have HB0 : Hid (TAt nR w0 (best t l)) := hb.keep h00
  obtain ⟨b, HBE⟩ : ∃ b, Hid (b = best t l) := ⟨_, rfl⟩
  rw [← HBE.out]
  rw [← HBE.out] at HB0
  obtain ⟨xa, xz, hxx⟩ : ∃ xa xz : ByteArray, held b.v = .agg #[.string xa, .string xz] := by
    cases hv0 : b.v with
    | none => exact ⟨_, _, rfl⟩
    | some x0 => obtain ⟨p, q, h⟩ := (HB0.out.val' x0 hv0).num; exact ⟨p, q, h⟩
  rw [hxx]
  have HX : Hid (held b.v = .agg #[.string xa, .string xz]) := hxx
  have H00 : Hid (Below w.heap.size w w0 ∧ w0.heap[w.heap.size]? = some (.cells #[.string ⟨#[]⟩, .string ⟨#[]⟩] 41) ∧ w0.heap.size = w.heap.size + 1) := ⟨h00, hrb, hs0⟩
  clear h hw hp hA hbox hb hb1 h' h00 hrb hxx hs0
  go_enter Try.func19, Try.ntmps19
  go_wp2_with fail
  rw [← HW0.out, ← HW1.out]
  refine HA.mono ?_
  clear HA HW0 HW1
  rintro e w2 ⟨rfl, hI⟩
  have hbx := hI.box
  rw [List.take_length, ← HBE.out, H00.out.2.2] at hbx
  have c2 : w2.cell? ⟨w.heap.size + 1, 0, none⟩ = some (.pointer (some ⟨b.a, 0, none⟩)) := by rw [cell_of_blk hbx]; rfl
  have HE := entry_tree b w2 (HB0.out.keep hI.below)
  rw [HX.out] at HE
  have HB2 : Hid (Below w0.heap.size w0 w2) := hI.below
  clear hI hbx c0
  go_wp2_with fail
  refine HE.mono ?_
  clear HE
  rintro e w3 ⟨rfl, hb3⟩
  have hr2 : w2.heap[w.heap.size]? = some (.cells #[.string ⟨#[]⟩, .string ⟨#[]⟩] 41) := (HB2.out.block _ (lt_of_heap H00.out.2.1)).trans H00.out.2.1
  have hr3 : w3.heap[w.heap.size]? = some (.cells #[.string ⟨#[]⟩, .string ⟨#[]⟩] 41) := (hb3.block _ (lt_of_heap hr2)).trans hr2
  have r0 : w3.cell? ⟨w.heap.size, 0, none⟩ = some (.string ⟨#[]⟩) := by rw [cell_of_blk hr3]; rfl
  have r1 : w3.cell? ⟨w.heap.size, 1, none⟩ = some (.string ⟨#[]⟩) := by rw [cell_of_blk hr3]; rfl
  have z0 : w3.frozen? ⟨w.heap.size, 0, none⟩ = false := frozen_of_blk hr3
  have z1 : w3.frozen? ⟨w.heap.size, 1, none⟩ = false := frozen_of_blk hr3
  have HR3 : Hid (w3.heap[w.heap.size]? = some (.cells #[.string ⟨#[]⟩, .string ⟨#[]⟩] 41)) := hr3
  have HB3 : Hid (Below w.heap.size w w3) := by
    have e1 := H00.out.1
    have e2 := HB2.out
    have e3 := e1.trans (e2.mono e1.size)
    exact e3.trans (hb3.mono e3.size)
  clear hb3 hr2 hr3 c2
  go_wp2_with fail
  obtain ⟨W, HW⟩ : ∃ W, Hid (W = (w3.setCell ⟨w.heap.size, 0, none⟩ (.string xa)).setCell ⟨w.heap.size, 1, none⟩ (.string xz)) := ⟨_, rfl⟩
  have hbW : W.heap[w.heap.size]? = some (.cells #[.string xa, .string xz] 41) := by
    rw [HW.out, setCell_blk (setCell_blk HR3.out _)]; simp
  have f0 : W.cell? ⟨w.heap.size, 0, none⟩ = some (.string xa) := by rw [cell_of_blk hbW]; rfl
  have f1 : W.cell? ⟨w.heap.size, 1, none⟩ = some (.string xz) := by rw [cell_of_blk hbW]; rfl
  have HBW : Hid (Below w.heap.size w W) := by
    show Below _ _ _
    rw [HW.out]
    exact (HB3.out.setCell (p := ⟨w.heap.size, 0, none⟩) (Nat.le_refl _) _).setCell (p := ⟨w.heap.size, 1, none⟩) (Nat.le_refl _) _
  rw [← HW.out]
  exact bodyPost_ret (v := .tuple #[.string b.p, .agg #[.string xa, .string xz], .bool b.v.isSome]) (by simp [results, Try.results19, go_sem, f0, f1]) rfl ⟨rfl, HBW.out⟩

-- MADE by mkP.py out of RIns

end Go.Proofs.Ytedgaiblcpekaab.P
