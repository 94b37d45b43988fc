/- Layer 3 (radix): the walk of Delete. -/
import Derived.Test.YtcdfbbjakkmmoaaXHeldM
namespace Go.Proofs.Ytcdfbbjakkmmoaa
open Go.RowKit Go.Shelf
set_option linter.unusedVariables false
variable {R : Rg} {O : Nat → Prop}
attribute [local go_sem] Oper.semAt_some

theorem needed_tat {w : World} {t : Tr} (h : TAt R w t) : ∀ c ∈ neededOf t, TAt R w c := by
  intro c hc
  unfold neededOf at hc
  split at hc
  · simp at hc; subst hc; exact h
  · exact h.sub' c hc
theorem behind_ge (t : Tr) (k : ByteArray) (hp : t.p.size < k.size) : posn t.ks t.p.size k[t.p.size] ≤ behindOf t k hp := by
  unfold behindOf
  omega

set_option maxRecDepth 100000 in
set_option maxHeartbeats 4000000 in
theorem deleteO_calls (tb : Nat) (t : Tr) (ne : Int) (k : ByteArray) (w : World) (init : List Tr) (c : Tr) (hT : TreeAtO O w tb t ne) (hw : WF t) (hp : t.path <+: k.data.toList) (hks : k.size ≤ 140737488351296) (hA : Along k.data.toList t (init ++ [c])) (hd : init.length + 1 ≤ 17592186044416)
    (hne0 : -4611686018427387904 ≤ ne) (hne1 : ne ≤ 4611686018427387904) :
    Calls Try.prog 9 #[.pointer (some ⟨tb, 0, none⟩), .string k] w fun e w' => Below w.heap.size w w' ∧ ((valAt c k = none ∧ e = .returned (.tuple #[.pointer (some ⟨tb, 0, none⟩), .int .i64 0, .bool false])) ∨
      ∃ x tb' T', valAt c k = some x ∧ e = .returned (.tuple #[.pointer (some ⟨tb', 0, none⟩), x.x, .bool true]) ∧ TreeAtO O w' tb' T' (ne - 1) ∧ DelR w.heap.size k t T' ∧ w.heap.size ≤ tb') := by
  have hmf : ∀ (fn : Fn) (first cap : Array Value) (w : World), (Instr.makeFunc fn first cap).run Try.prog w = .ok (.func fn first cap) w := fun _ _ _ _ => rfl
  have hnot : ∀ (x : Bool) (w : World), (Op.unary .not (.bool x)).run Try.prog w = .ok (.bool (!x)) w := fun _ _ => rfl
  have hb0 := lt_of_heap hT.blk
  obtain ⟨w1, HW1⟩ : ∃ w1, Hid (w1 = w.alloc (.cells #[.string k] 9)) := ⟨_, rfl⟩
  have hb1 : Below w.heap.size w w1 := by rw [HW1.out]; exact (Below.refl _ _).alloc (Nat.le_refl _) _
  have hs1 : w1.heap.size = w.heap.size + 1 := by rw [HW1.out]; simp [World.size_alloc]
  have hkb : w1.heap[w.heap.size]? = some (.cells #[.string k] 9) := by rw [HW1.out]; exact heap_alloc_new w _
  have t0 : w1.cell? ⟨tb, 0, none⟩ = some (.pointer (some ⟨t.a, 0, none⟩)) := by rw [hb1.cell (by exact hb0), cell_of_blk hT.blk]; rfl
  have k0 : w1.cell? ⟨w.heap.size, 0, none⟩ = some (.string k) := by rw [cell_of_blk hkb]; rfl
  have HWY := way_calls t k w1.drew init c hA (hT.tat.keep ⟨hb1.os, hb1.tape, hb1.output, hb1.size, hb1.block⟩) hw hp hks hd (fun b hb => hb.elim)
  have HT : Hid (TreeAtO O w tb t ne) := hT
  have HWF : Hid (WF t) := hw
  have HA : Hid (Along k.data.toList t (init ++ [c])) := hA
  have HP : Hid (t.path <+: k.data.toList) := hp
  have HB1 : Hid (Below w.heap.size w w1 ∧ w1.heap[w.heap.size]? = some (.cells #[.string k] 9)) := ⟨hb1, hkb⟩
  clear hT hw hA hp hb1 hkb
  refine (callsIn_wide (n := 8)).1 ?_
  refine callsIn_of_wp_marks Try.func9 rfl trivial ?_ rfl
  refine wpIn_wide.2 ?_
  simp only [Try.ntmps9, List.size_toArray, List.length_cons, List.length_nil, Nat.reduceAdd, Nat.reduceSub, Array.replicate_succ, Array.replicate_zero, List.push_toArray, List.append_toArray, List.nil_append, List.cons_append]
  go_wp2_with fail
  rw [← HW1.out]
  clear HW1
  go_region_held3 (fun W => W.cell? ⟨tb, 0, none⟩ = some (.pointer (some ⟨t.a, 0, none⟩)) ∧ W.cell? ⟨w.heap.size, 0, none⟩ = some (.string k)) (first | (exact q3) | go_keep)
    (first
      | (go_at_call 27
         refine HWY.mono ?_
         rintro e w2 ⟨g, cap, rfl, hb2, hk2, hgl2⟩
         have q3 : w2.cell? ⟨tb, 0, none⟩ = some (.pointer (some ⟨t.a, 0, none⟩)) ∧ w2.cell? ⟨w.heap.size, 0, none⟩ = some (.string k) := ⟨by rw [hb2.cell (by show tb < w1.heap.size; omega)]; exact t0, by rw [hb2.cell (by show w.heap.size < w1.heap.size; omega)]; exact k0⟩
         have HW2 : Hid (Below w1.heap.size w1 w2 ∧ KidsAt (nRo O) w2 (some ⟨g, 0, none⟩) init ∧ g < w2.heap.size) := ⟨⟨hb2.os, hb2.tape, hb2.output, hb2.size, hb2.block⟩, hk2, hgl2⟩
         clear hb2 hk2 hgl2 HWY))
  have hz2 : w.heap.size + 1 ≤ w2.heap.size := by have := HW2.out.1.size; omega
  have h02 : Below w.heap.size w w2 := HB1.out.1.trans (HW2.out.1.mono HB1.out.1.size)
  have hcm : c ∈ init ++ [c] := by simp
  have hC2 : TAt (nRo O) w2 c := along_tat HA.out (HT.out.tat.keep h02) c hcm
  have hnx : nx c k.data.toList = none := by
    have := HA.out.step init.length (by simp)
    simpa using this
  have HVO := valueOf_calls c k w2 [] c (.stop hnx) hC2 (HA.out.wf HWF.out c hcm) (HA.out.pre HP.out c hcm) hks
  have HHV : Hid (∀ x, valAt c k = some x → VAt O w2 x) := fun x hx => by
    unfold valAt at hx
    split at hx
    · cases hx
    · exact hC2.val' x hx
  have H02 : Hid (Below w.heap.size w w2 ∧ w2.heap[w.heap.size]? = some (.cells #[.string k] 9) ∧ KidsAt (nRo O) w2 (some ⟨g, 0, none⟩) init ∧ g < w2.heap.size) := ⟨h02, (HW2.out.1.block _ (lt_of_heap HB1.out.2)).trans HB1.out.2, HW2.out.2.1, HW2.out.2.2⟩
  have HC2 : Hid (TAt (nRo O) w2 c) := hC2
  have k2 := q3.2
  clear h02 q3 hC2 hnx HW2 HB1 t0 k0 hs1
  go_wp2_with fail
  refine HVO.mono ?_
  clear HVO
  rintro e w3 ⟨rfl, hb3⟩
  have HG := get_calls (valAt c k) w3 (fun x hx => (HHV.out x hx).below hb3)
  have H03 : Hid (Below w.heap.size w w3 ∧ w3.heap[w.heap.size]? = some (.cells #[.string k] 9) ∧ KidsAt (nRo O) w3 (some ⟨g, 0, none⟩) init ∧ g < w3.heap.size) := by
    obtain ⟨g1, g2, g3, g4⟩ := H02.out
    exact ⟨g1.trans (hb3.mono g1.size), (hb3.block _ (lt_of_heap g2)).trans g2, g3.below hb3, Nat.lt_of_lt_of_le g4 hb3.size⟩
  have HC3 : Hid (TAt (nRo O) w3 c) := HC2.out.keep hb3
  have hz3 : w.heap.size + 1 ≤ w3.heap.size := by have := hb3.size; omega
  clear hb3 HC2 H02 HHV k2 hz2
  go_wp2_with fail
  refine HG.mono ?_
  clear HG
  rintro e w4 ⟨rfl, rfl⟩
  cases hva : valAt c k with
  | none =>
    simp only [held, Option.isSome_none]
    go_wp2_with fail
    exact ⟨.tuple #[.pointer (some ⟨tb, 0, none⟩), .int .i64 0, .bool false], by simp [results, Try.f9, go_sem], H03.out.1, .inl ⟨hva, rfl⟩⟩
  | some x =>
    simp only [held, Option.isSome_some]
    have hcp : c.p.size = k.size := by
      have h2 := (HA.out.pre HP.out c hcm).length_le
      rw [path_length] at h2
      have h3 : k.data.toList.length = k.size := by simp
      unfold valAt at hva
      split at hva
      · cases hva
      · omega
    have hC : TAt ⟨(· = w4.heap.size), O⟩ w4 c := HC3.out.avoid (fun b hb => by have hb' : b = w4.heap.size := hb; omega)
    obtain ⟨y, hy, hyA, c2⟩ := hC.slv
    obtain ⟨ao0, cap0, c0, -, -, -, -, -, -⟩ := hC.cells
    have hca := hC.lt
    have HY : Hid (y.ks = c.ks ∧ y.At ⟨(· = w4.heap.size), O⟩ w4) := ⟨hy, hyA⟩
    have HC4 : Hid (TAt ⟨(· = w4.heap.size), O⟩ w4 c) := hC
    clear hy hyA hC HC3 hcm
    go_wp2_with fail
    go_cut [11] from 34 to 42 (fun s11 wx => ∃ (nb a ga : Nat), s11 = .pointer (some ⟨nb, 0, none⟩) ∧ Hid (DelMid O w k c init w.heap.size g nb a ga wx))
    case first =>
      go_region_held3 (fun W => W.cell? ⟨c.a, 0, none⟩ = some (.string c.p) ∧ W.cell? ⟨c.a, 2, none⟩ = some (.slice y.ao y.ks.length y.cap)) (first | (exact q5) | (exact ⟨by rw [World.cell?_setCell_other _ _ _ _ (by intro e; have := congrArg Addr.block e; simp at this; omega)]; exact q5.1, by rw [World.cell?_setCell_other _ _ _ _ (by intro e; have := congrArg Addr.block e; simp at this; omega)]; exact q5.2⟩) | go_keep)
        (first
          | (go_at_call 30
             refine (newNode_some c.p none y.ao y.ks.length y.cap _).mono ?_
             rintro e w5 ⟨a, ga, cc, rfl, hb5, hn5, hw5, ha5, hg5⟩
             have HB5 : Hid (Below w4.heap.size w4 w5) := (by first | exact below_drew hb5 | exact below_drew (below_alloc hb5).1 | exact (below_alloc (below_drew hb5)).1)
             try (have N5 : Hid (w5.heap[w4.heap.size]? = some (.cells #[.pointer none] 35)) := (by first | exact (below_alloc hb5).2 | exact (below_alloc (below_drew hb5)).2); have nc5 : w5.cell? ⟨w4.heap.size, 0, none⟩ = some (.pointer none) := (by rw [cell_of_blk N5.out]; rfl); have nz5 : w5.frozen? ⟨w4.heap.size, 0, none⟩ = false := frozen_of_blk N5.out)
             have q5 : w5.cell? ⟨c.a, 0, none⟩ = some (.string c.p) ∧ w5.cell? ⟨c.a, 2, none⟩ = some (.slice y.ao y.ks.length y.cap) := ⟨by rw [HB5.out.cell (by exact hca)]; exact c0, by rw [HB5.out.cell (by exact hca)]; exact c2⟩
             have H5 : Hid (TAt ⟨(· = w4.heap.size), O⟩ w5 (.nd a c.p none c.ks ga) ∧ w4.heap.size ≤ a ∧ w4.heap.size ≤ ga) := ⟨renew HC4.out HB5.out HY.out.1 HY.out.2 hn5 hw5, by simp at ha5; omega, by simp at hg5; omega⟩
             have hz5 : w4.heap.size ≤ w5.heap.size := HB5.out.size
             clear hb5 hn5 hw5 ha5 hg5))
      all_goals go_wp2
      all_goals go_meet
      all_goals (first
        | exact ⟨_, a, ga, rfl, delmid_store H03.out.1 H03.out.2.1 H03.out.2.2.1 H03.out.2.2.2 HB5.out N5.out (Nat.le_refl _) H5.out.1 rfl H5.out.2⟩
        | exact ⟨_, a, ga, rfl, delmid_alloc H03.out.1 H03.out.2.1 H03.out.2.2.1 H03.out.2.2.2 HB5.out H5.out.1 H5.out.2⟩)
    case rest =>
      obtain ⟨nb, a, ga, rfl, HM⟩ := hcut
      clear HY HC4 c0 c2 hca H03
      go_wp2_with fail
      refine (backward_calls _ _ _ wc).mono ?_
      rintro e w6 ⟨rfl, hw6⟩
      have HW6 : Hid (w6 = wc.alloc (.cells #[.slice (some ⟨g, 0, none⟩) init.length cap] 65)) := hw6
      clear hw6
      go_wp2_with fail
      have hm := HM.out
      have h06 : Below w.heap.size w w6 := by rw [HW6.out]; exact hm.below.alloc hm.below.size _
      have h66 : Below wc.heap.size wc w6 := by rw [HW6.out]; exact (Below.refl _ _).alloc (Nat.le_refl _) _
      have hbox6 : w6.heap[wc.heap.size]? = some (.cells #[.slice (some ⟨g, 0, none⟩) init.length cap] 65) := by rw [HW6.out]; exact heap_alloc_new _ _
      have hs6 : w6.heap.size = wc.heap.size + 1 := by rw [HW6.out]; simp [World.size_alloc]
      have hnl := lt_of_heap hm.nbox
      have hkl := lt_of_heap hm.kbox
      have hnbl := hm.nbl
      refine (wpIn_wide (n := 8)).1 ?_
      refine range_law (n := 8) (by omega) (gf := 53) (lb := #[.pointer (some ⟨wc.heap.size, 0, none⟩)]) rfl (enters_of Try.func53 (by kernel_rfl) rfl)
        (back_seq wc.heap.size g cap init (by omega) w6 (by rw [cell_of_blk hbox6]; rfl) (hm.way.below h66)) (fun h1 h2 => h1.trans h2) ?hKb (Below.refl _ _) (fun _ => rfl)
        (fun pre W => ∃ T, DelI O w k (init ++ [c]) init.length w.heap.size nb w6.heap.size (pre.map (·.val)) W T)
        (fun _ _ _ => False) ?hI (fun _ _ _ _ _ h _ _ => h) ?h0 ?a1 ?assign ?body ?done ?stop
      case assign =>
        intro l m x W K hK
        dsimp only [encN]
        gi_wp2
        exact hK
      case hKb =>
        intro W l o o' hl h1 h2
        have hg1 := hm.gne.2
        exact ⟨World.putObj_heap_other (by omega), World.putObj_heap_other (by omega)⟩
      case hI =>
        intro pre A B row hs hg hr
        obtain ⟨T1, hI1⟩ := hs
        exact ⟨T1, Nat.le_trans hI1.size hg.size, hI1.below.grown hg hI1.below.size (fun r e => by have := (hr r e).1; have := h06.size; omega), heap_kept hI1.kbox hg (fun r e => (hr r e).2), heap_kept hI1.nbox hg (fun r e => (hr r e).2), hI1.tat.grown hg (fun r e => (hr r e).2), hI1.few, hI1.rel⟩
      case h0 =>
        refine ⟨.nd a c.p none c.ks ga, Nat.le_refl _, h06, (h66.block _ hkl).trans hm.kbox, (h66.block _ hnl).trans hm.nbox, hm.tat.keep h66, ?_, ?_⟩
        · have := (HA.out.wf HWF.out c (by simp)).few
          show c.ks.length ≤ 260
          omega
        · intro m hml hmx u hu
          have hm0 : m = 0 := by have := congrArg List.length hmx; simpa [downTo_length] using this.symm
          subst hm0
          simp at hu
          subst hu
          exact .here hcp hm.new.1 hm.new.2
      case stop =>
        intro D c' pre W _ _ h _
        exact h.elim
      case body =>
        rintro l m pre x1 W _ ⟨T1, hI1⟩ hlen
        have hmx : Try.prog.follows .mixedOrders = true := by kernel_rfl
        have hux : init[x1.val] ∈ init ++ [c] := List.mem_append_left _ (List.getElem_mem x1.isLt)
        have hwu := HA.out.wf HWF.out _ hux
        have hps : init[x1.val].p.size < k.size := by
          have h1 := List.pairwise_iff_getElem.1 (HA.out.inc HWF.out).1 x1.val init.length (by simp; omega) (by simp) x1.isLt
          simp only [List.getElem_map, List.getElem_append_left x1.isLt, List.getElem_append_right (Nat.le_refl _), Nat.sub_self, List.getElem_cons_zero] at h1
          omega
        have hTu : TAt ⟨(· = nb), O⟩ W init[x1.val] := ((along_tat HA.out HT.out.tat _ hux).avoid (fun b hb => by have hb' : b = nb := hb; omega)).keep hI1.below
        have hnbW := lt_of_heap hI1.nbox
        have hkbW := lt_of_heap hI1.kbox
        have hfw := hwu.few
        have HN := needed_calls (R := ⟨(· = nb), O⟩) T1 W.drew (hI1.tat.keep ⟨rfl, rfl, rfl, Nat.le_refl _, fun _ _ => rfl⟩) (by have := hI1.few; omega) (fun b hb => by have hb' : b = nb := hb; show b < W.heap.size; omega)
        have kc : W.cell? ⟨w.heap.size, 0, none⟩ = some (.string k) := by rw [cell_of_blk hI1.kbox]; rfl
        have ncell : W.cell? ⟨nb, 0, none⟩ = some (.pointer (some ⟨T1.a, 0, none⟩)) := by rw [cell_of_blk hI1.nbox]; rfl
        have HI1 : Hid (DelI O w k (init ++ [c]) init.length w.heap.size nb w6.heap.size (pre.map (·.val)) W T1) := hI1
        have HWU : Hid (WF init[x1.val] ∧ TAt ⟨(· = nb), O⟩ W init[x1.val]) := ⟨hwu, hTu⟩
        have HM1 : Hid (DelMid O w k c init w.heap.size g nb a ga wc) := hm
        clear hI1 hwu hTu hm hux
        gi_wp2_with fail
        gi_region_with_o (first
          | (refine ⟨trivial, (fun h => by cases h), ?_⟩
             refine (CallsIn.inRound l (callsIn_wide.2 HN)).mono ?_
             rintro e w7 ⟨xs, rfl, hxk, hxA, hb7⟩
             have HB7 : Hid (Below W.heap.size W w7) := below_drew hb7
             have HXS : Hid (xs.ks = neededOf T1 ∧ xs.At ⟨(· = nb), O⟩ w7) := ⟨hxk, hxA⟩
             have kc7 : w7.cell? ⟨w.heap.size, 0, none⟩ = some (.string k) := by rw [HB7.out.cell (by exact hkbW)]; exact kc
             clear hb7 hxk hxA HN)
          | (refine ⟨trivial, (fun h => by cases h), ?_⟩
             refine (CallsIn.inRound l (callsIn_wide.2 (withKids_calls (R := ⟨(· = nb), O⟩) init[x1.val] k xs w7 (HWU.out.2.keep HB7.out) HWU.out.1 hps hks HXS.out.2 (by rw [HXS.out.1]; have := neededOf_few T1; omega) (fun t ht => by rw [HXS.out.1] at ht; exact (needed_tat HI1.out.tat t ht).keep HB7.out) (fun b hb => by have hb' : b = nb := hb; have := HB7.out.size; omega)))).mono ?_
             rintro e w8 ⟨a', g', rfl, hb8, ha8, hg8, hT8⟩
             have h78 : Below W.heap.size W w8 := HB7.out.trans (hb8.mono HB7.out.size)
             have nblk8 : w8.heap[nb]? = some (.cells #[.pointer (some ⟨T1.a, 0, none⟩)] 35) := (h78.block _ hnbW).trans HI1.out.nbox
             have ncell8 : w8.cell? ⟨nb, 0, none⟩ = some (.pointer (some ⟨T1.a, 0, none⟩)) := by rw [cell_of_blk nblk8]; rfl
             have nfz8 : w8.frozen? ⟨nb, 0, none⟩ = false := frozen_of_blk nblk8
             rw [HXS.out.1] at hT8
             have H8 : Hid (Below W.heap.size W w8 ∧ w7.heap.size ≤ a' ∧ w7.heap.size ≤ g' ∧ w8.heap[nb]? = some (.cells #[.pointer (some ⟨T1.a, 0, none⟩)] 35)) := ⟨h78, ha8, hg8, nblk8⟩
             have HT8 : Hid (TAt ⟨(· = nb), O⟩ w8 (.nd a' init[x1.val].p init[x1.val].v (init[x1.val].ks.take (posn init[x1.val].ks init[x1.val].p.size k[init[x1.val].p.size]) ++ neededOf T1 ++ init[x1.val].ks.drop (behindOf init[x1.val] k hps)) g')) := hT8
             clear hb8 ha8 hg8 hT8 h78 nblk8))
        all_goals gi_wp2_with fail
        all_goals (
          obtain ⟨h78, ha8, hg8, nblk8⟩ := H8.out
          have hI1 := HI1.out
          have hz7 := HB7.out.size
          have hz0 := hI1.below.size
          have hgw := HM1.out.gne
          refine ⟨(keepsFrom_below h78).trans ((KeepsOthers.setCell _ _ _).from _), ⟨?_, ?_⟩, .nd a' init[x1.val].p init[x1.val].v (init[x1.val].ks.take (posn init[x1.val].ks init[x1.val].p.size k[init[x1.val].p.size]) ++ neededOf T1 ++ init[x1.val].ks.drop (behindOf init[x1.val] k hps)) g', ?_, ?_, ?_, ?_, ?_, ?_, ?_⟩
          · rw [heap_setCell_other _ _ _ _ (by show g ≠ nb; exact hgw.1)]
            exact h78.block _ (by have := hI1.size; omega)
          · rw [heap_setCell_other _ _ _ _ (by show wc.heap.size ≠ nb; omega)]
            exact h78.block _ (by have := hI1.size; omega)
          · have h1 := hI1.size
            have h2 := h78.size
            simp
            omega
          · exact (hI1.below.trans (h78.mono hz0)).setCell (by show w.heap.size ≤ nb; omega) _
          · rw [heap_setCell_other _ _ _ _ (by show w.heap.size ≠ nb; intro e; have h1 := hI1.kbox; rw [e, hI1.nbox] at h1; simp at h1)]
            exact (h78.block _ hkbW).trans hI1.kbox
          · rw [setCell_blk nblk8]; rfl
          · exact HT8.out.poke (i := 0) rfl nblk8 (by decide) (by decide) (by decide) _
          · have := neededOf_few T1
            have := posn_le init[x1.val].ks init[x1.val].p.size k[init[x1.val].p.size]
            show (init[x1.val].ks.take (posn init[x1.val].ks init[x1.val].p.size k[init[x1.val].p.size]) ++ neededOf T1 ++ init[x1.val].ks.drop (behindOf init[x1.val] k hps)).length ≤ 260
            have hbe := behind_ge init[x1.val] k hps
            simp only [List.length_append, List.length_take, List.length_drop]
            omega
          · intro m hml hmx u hu
            rw [List.map_append] at hmx
            cases m with
            | zero => simp [downTo] at hmx
            | succ m =>
              rw [downTo_succ] at hmx
              obtain ⟨h1, h2⟩ := List.append_inj' hmx rfl
              have hxv : x1.val = init.length - 1 - m := by simpa using h2
              have hu' : u = init[x1.val] := by
                rw [show init.length - (m + 1) = x1.val by omega, List.getElem?_append_left x1.isLt, List.getElem?_eq_getElem x1.isLt] at hu
                exact (Option.some.inj hu).symm
              subst hu'
              have hst := HA.out.step x1.val (by simp; omega)
              rw [List.getElem_append_left x1.isLt] at hst
              have hlt : init.length - m < (init ++ [c]).length := by simp; omega
              rw [show x1.val + 1 = init.length - m by omega, List.getElem?_eq_getElem hlt] at hst
              exact del_down HWU.out.1 hps hst (hI1.rel m (by omega) h1 _ (List.getElem?_eq_getElem hlt)) (by omega) (by omega))
      case done =>
        rintro D ys W hD hys ⟨T1, hI1⟩ hK
        have HR : Hid (DelR w.heap.size k t T1) := by
          refine hI1.rel init.length (Nat.le_refl _) hys t ?_
          obtain ⟨r, hr⟩ := HA.out.head
          rw [hr]; simp
        have ncell : W.cell? ⟨nb, 0, none⟩ = some (.pointer (some ⟨T1.a, 0, none⟩)) := by rw [cell_of_blk hI1.nbox]; rfl
        have t1 : W.cell? ⟨tb, 1, none⟩ = some (.int .i64 ne) := by
          rw [hI1.below.cell (by exact hb0), cell_of_blk HT.out.blk]; rfl
        have HI1 : Hid (Below w.heap.size w W ∧ TAt ⟨(· = nb), O⟩ W T1) := ⟨hI1.below, hI1.tat⟩
        have HK : Hid (W.heap[D]? = some (.deferred (some []))) := hK
        have hDw : w.heap.size ≤ D := Nat.le_trans h06.size hD
        clear hI1 hK hm h06 h66 hbox6 hs6
        go_wp2_with fail
        go_region
        all_goals go_wp2_with fail
        all_goals (
          obtain ⟨e1, e2, e3, e4⟩ := ins_end (m := ne - 1) (nb := nb) (w9 := W.drew) HI1.out.1 ⟨rfl, rfl, rfl, Nat.le_refl _, fun _ _ => rfl⟩ HI1.out.2 HK.out hDw
          refine ⟨by simp, .inl ⟨_, _, rfl, run_takeDeferred e1, ?_⟩⟩
          exact ⟨.tuple #[.pointer (some ⟨W.heap.size, 0, none⟩), x.x, .bool true], by simp [results, Try.f9, go_sem], e2, .inr ⟨x, W.heap.size, T1, hva, rfl, e3, HR.out, e4⟩⟩)
theorem delete_calls (tb : Nat) (t : Tr) (ne : Int) (k : ByteArray) (w : World) (init : List Tr) (c : Tr) (hT : TreeAt w tb t ne) (hw : WF t) (hp : t.path <+: k.data.toList) (hks : k.size ≤ 140737488351296) (hA : Along k.data.toList t (init ++ [c])) (hd : init.length + 1 ≤ 17592186044416)
    (hne0 : -4611686018427387904 ≤ ne) (hne1 : ne ≤ 4611686018427387904) :
    Calls Try.prog 9 #[.pointer (some ⟨tb, 0, none⟩), .string k] w fun e w' => Below w.heap.size w w' ∧ ((valAt c k = none ∧ e = .returned (.tuple #[.pointer (some ⟨tb, 0, none⟩), .int .i64 0, .bool false])) ∨
      ∃ x tb' T', valAt c k = some x ∧ e = .returned (.tuple #[.pointer (some ⟨tb', 0, none⟩), x.x, .bool true]) ∧ TreeAt w' tb' T' (ne - 1) ∧ DelR w.heap.size k t T' ∧ w.heap.size ≤ tb') :=
  deleteO_calls tb t ne k w init c hT hw hp hks hA hd hne0 hne1
end Go.Proofs.Ytcdfbbjakkmmoaa
