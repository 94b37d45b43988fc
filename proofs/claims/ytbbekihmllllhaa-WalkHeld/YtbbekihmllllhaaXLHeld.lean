/- Layer 4 (walk): the walk of WalkHeld. -/
import Derived.Test.YtbbekihmllllhaaXHeldI
import Derived.Test.YtbbekihmllllhaaRDelete
import Derived.Deep.RegionHeld3
namespace Go.Proofs.Ytbbekihmllllhaa
open Go.RowKit Go.Shelf
set_option linter.unusedVariables false
attribute [local go_sem] Oper.semAt_some

theorem filAll {w W : World} {tb : Nat} {T : Tr} {ne : Int} {d : Nat} {es : List En} (h : Held w W tb T ne d es) : fil (d + 1) T ⟨#[]⟩ = es := by
  rw [fil_root h.good.root, h.ents]
  refine filter_all fun e _ => ?_
  unfold notLt
  simp only [Bool.not_eq_true', decide_eq_false_iff_not]
  exact not_lt_nil _

set_option maxRecDepth 100000 in
set_option maxHeartbeats 8000000 in
theorem walkHeld_walk (ao : Option Addr) (cap : Nat) (l : List En) (w : World) (hl : EntsAt w ao l) (hn : l.length ≤ 5864062014634) (hkz : ∀ e ∈ l, e.1.size ≤ 140737488351232) :
    Calls Try.prog 7 #[.slice ao l.length cap] w fun e w' => e = .returned (.bool true) ∧ Below w.heap.size w w' := by
  have hnot : ∀ (x : Bool) (w : World), (Op.unary .not (.bool x)).run Try.prog w = .ok (.bool (!x)) w := fun _ _ => rfl
  have hdl := docOf_len l
  have HKZ : Hid (∀ e ∈ docOf l, e.1.size ≤ 140737488351232) := docOf_keys l hkz
  obtain ⟨wa, HWA⟩ : ∃ wa, Hid (wa = w.alloc (.cells #[.bool false] 4)) := ⟨_, rfl⟩
  have hba : Below w.heap.size w wa := by rw [HWA.out]; exact (Below.refl _ _).alloc (Nat.le_refl _) _
  have r0 : wa.heap[w.heap.size]? = some (.cells #[.bool false] 4) := by rw [HWA.out]; exact heap_alloc_new _ _
  have HL : Hid (EntsAt wa ao l) := hl.below hba
  have HBA : Hid (Below w.heap.size w wa ∧ wa.heap[w.heap.size]? = some (.cells #[.bool false] 4)) := ⟨hba, r0⟩
  clear hl hba r0 hkz
  refine (callsIn_wide (n := 8)).1 ?_
  refine callsIn_of_wp_marks Try.func7 rfl trivial ?_ rfl
  refine wpIn_wide.2 ?_
  simp only [Try.ntmps7, List.size_toArray, List.length_cons, List.length_nil, Nat.reduceAdd, Nat.reduceSub, Array.replicate_succ, Array.replicate_zero, List.push_toArray, List.append_toArray, List.nil_append, List.cons_append]
  go_wp2_with fail
  rw [← HWA.out]
  clear HWA
  refine (walkAlive_calls wa).mono ?_
  rintro e w1 ⟨rfl, hb1⟩
  have HB1 : Hid (Below w.heap.size w w1 ∧ w1.heap[w.heap.size]? = some (.cells #[.bool false] 4)) := ⟨HBA.out.1.trans (hb1.mono HBA.out.1.size), (hb1.block _ (lt_of_heap HBA.out.2)).trans HBA.out.2⟩
  have HBU := built4_calls ao cap l w1 (HL.out.below hb1) hn
  clear hb1
  go_wp2_with fail
  refine HBU.mono ?_
  clear HBU
  rintro e w2 ⟨tb, T, ne, d, ps, rfl, hH, hD⟩
  have hbw2 : Below w1.heap.size w1 w2 := hH.good.below
  have HB2 : Hid (Below w.heap.size w w2 ∧ w2.heap[w.heap.size]? = some (.cells #[.bool false] 4)) := ⟨HB1.out.1.trans (hbw2.mono HB1.out.1.size), (hbw2.block _ (lt_of_heap HB1.out.2)).trans HB1.out.2⟩
  have HH2 : Hid (Held w1 w2 tb T ne l.length (docOf l)) := hH
  have HD2 : Hid (DocAt w2 d (docOf l) ps) := hD
  clear hH hD HB1 hbw2 HBA HL
  obtain ⟨es, hes⟩ : ∃ es, es = docOf l := ⟨_, rfl⟩
  rw [← hes] at HH2 HD2 HKZ hdl ⊢
  clear hes
  obtain ⟨w5, HW5⟩ : ∃ w5, Hid (w5 = ((w2.alloc (.cells (d.cells es.length ps.length) 28)).alloc (.cells #[.pointer (some ⟨tb, 0, none⟩)] 24)).alloc (.cells #[.slice none 0 0] 22)) := ⟨_, rfl⟩
  have s3 : (w2.alloc (.cells (d.cells es.length ps.length) 28)).heap.size = w2.heap.size + 1 := by simp [World.size_alloc]
  have s4 : ((w2.alloc (.cells (d.cells es.length ps.length) 28)).alloc (.cells #[.pointer (some ⟨tb, 0, none⟩)] 24)).heap.size = w2.heap.size + 2 := by simp [World.size_alloc]
  have hb5 : Below w2.heap.size w2 w5 := by rw [HW5.out]; exact (((Below.refl _ _).alloc (Nat.le_refl _) _).alloc (by omega) _).alloc (by omega) _
  have hs5 : w5.heap.size = w2.heap.size + 3 := by rw [HW5.out]; simp [World.size_alloc]
  have q0 : w5.heap[w2.heap.size]? = some (.cells (d.cells es.length ps.length) 28) := by rw [HW5.out, Below.heap_alloc _ _ _ (by omega), Below.heap_alloc _ _ _ (by omega)]; exact heap_alloc_new _ _
  have q1 : w5.heap[w2.heap.size + 1]? = some (.cells #[.pointer (some ⟨tb, 0, none⟩)] 24) := by rw [HW5.out, Below.heap_alloc _ _ _ (by omega)]; exact new_at s3 _
  have q2 : w5.heap[w2.heap.size + 2]? = some (.cells #[.slice none 0 0] 22) := by rw [HW5.out]; exact new_at s4 _
  have HI5 : Hid (HeI w2 (d.cells es.length ps.length) [] l.length w5) := ⟨hb5, q0, ⟨none, 0, 0, q2, World.ownsRow_nil _ _ _ _, fun g cur hg => by cases hg⟩, tb, T, ne, q1, HH2.out.good.tree.keep hb5, HH2.out.good.wf, HH2.out.good.root, HH2.out.good.dep, by have := HH2.out.good.lo; omega, HH2.out.good.hi⟩
  have HF := all_calls (some ⟨tb, 0, none⟩) w5
  clear hb5 q0 q1 q2
  unfold Dv.cells
  unfold Dv.cells at HW5
  go_wp2_with fail
  rw [← HW5.out]
  clear HW5 s3 s4
  refine HF.mono ?_
  clear HF
  rintro e w6 ⟨rfl, hw6⟩
  obtain ⟨hb6, hs6, d1, d2⟩ := from_boxes hw6
  have hI6 := HI5.out.keep hb6
  have hb26 := hI6.below
  rw [hs5] at d1 d2 hs6 ⊢
  have hTin := HH2.out.tin
  have hfil := filAll HH2.out
  have hef := eql_seq
  obtain ⟨i0, hi00, hz0, hz1, hz2⟩ := infoOf infoE
  clear hw6 hb6 HI5
  go_wp2_with fail
  refine (wpIn_wide (n := 8)).1 ?_
  refine range_law (n := 8) (by omega) (gf := 34) (lb := #[.pointer (some ⟨w2.heap.size + 3, 0, none⟩), .pointer (some ⟨w2.heap.size + 3 + 1, 0, none⟩)]) rfl (enters_of Try.func34 (by kernel_rfl) rfl)
    (from_seq w2 tb T ne l.length hTin ⟨#[]⟩ (by decide) (fun b => b = w2.heap.size + 1) (w2.heap.size + 3) (w2.heap.size + 3 + 1) w6 hb26 (fun b h => by omega) d1 d2) (fun h1 h2 => h1.trans h2) (kp_put hb26.size) (Below.refl _ _) (fun _ => rfl)
    (fun pre W => HeI w2 (d.cells es.length ps.length) (pre.map (·.1)) (l.length + pre.length + pre.length) W)
    (fun _ _ _ => False) ?hI (fun _ _ _ _ _ h _ _ => h) ?h0 ?a1 ?assign ?body ?done ?stop
  case assign =>
    intro l' m x W' K hK
    dsimp only [encE]
    gi_wp2
    exact hK
  case hI => exact HeI.ownFrom (q := fun pre => l.length + pre.length + pre.length) (by omega)
  case h0 => exact hI6
  case body =>
    rintro l' m pre x W' hsz' hI' hlen
    have hll := congrArg List.length hfil
    have hxk : x.1.1.size ≤ 140737488351232 := HKZ.out x.1 (Eq.subst (motive := fun L => x.1 ∈ L) hfil x.2)
    obtain ⟨gao, gn, gcap, hbox, hown, hnp⟩ := hI'.got
    have cc : W'.cell? ⟨w2.heap.size + 2, 0, none⟩ = some (.slice gao gn gcap) := by rw [cell_of_blk hbox]; rfl
    have hbs := hI'.below.size
    have HG : Hid (HeI w2 (d.cells es.length ps.length) (pre.map (·.1)) (l.length + pre.length + pre.length) W' ∧ W'.heap[w2.heap.size + 2]? = some (.cells #[.slice gao gn gcap] 22) ∧ OwnE W' w2.heap.size (.slice gao gn gcap) (pre.map (·.1)) ∧ OwnNP W' (.slice gao gn gcap)) := ⟨hI', hbox, hown, hnp⟩
    have hpl : (pre.map (·.1)).length = pre.length := by simp
    have hnpa : ∀ o : Obj, OwnNP (W'.alloc o) (.slice gao gn gcap) := fun o => hnp.same fun g hg => by
      obtain ⟨cur, hc⟩ := own_typed hown hg
      exact Below.heap_alloc _ _ _ (lt_of_heap hc)
    have HNP : Hid (∀ o : Obj, OwnNP (W'.alloc o) (.slice gao gn gcap)) := hnpa
    clear hI' hbox hown hnp hnpa
    gi_wp2_with (gi_at_builtin; refine wpListIn_append_np _ rfl (.tmp 27) (.tmp 31) rfl w2.heap.size i0 hi00 hz0 hz1 hz2 (.slice gao gn gcap) (List.map (fun y : El (fil (l.length + 1) T ⟨#[]⟩) => y.val) pre) rfl (World.ownsRow.alloc HG.out.2.2.1 _) (HNP.out _) ⟨W'.heap.size, 0, none⟩ 1 x.1.1 x.1.2 rfl (entry_new _ _ _) (by rw [hpl]; omega) (by simp; omega) ?_)
    intro v8 w8 ho8 hg8 hn8
    obtain ⟨ag, cg, hv8, -, -⟩ := World.ownsRow.form ho8 (by omega)
    subst hv8
    obtain ⟨b8, ko8, kp8, hi8⟩ := HeI.app (X := fun b => b = w2.heap.size + 1) (m := pre.length + 1) (by rw [hpl]) HG.out.1 HG.out.2.1 HG.out.2.2.1 HG.out.2.2.2 (by simpa using ho8) hg8 hn8
    have c8 : w8.cell? ⟨w2.heap.size + 2, 0, none⟩ = some (.slice gao gn gcap) := by rw [cell_of_blk b8]; rfl
    have z8 : w8.frozen? ⟨w2.heap.size + 2, 0, none⟩ = false := frozen_of_blk b8
    obtain ⟨tu, Tu, nu, u1, u2⟩ := hi8.u
    have cu : (w8.setCell ⟨w2.heap.size + 2, 0, none⟩ (.slice (some ⟨ag, 0, none⟩) (pre.length + 1) cg)).cell? ⟨w2.heap.size + 1, 0, none⟩ = some (.pointer (some ⟨tu, 0, none⟩)) := by rw [cell_of_blk u1]; rfl
    have cu8 : w8.cell? ⟨w2.heap.size + 1, 0, none⟩ = some (.pointer (some ⟨tu, 0, none⟩)) := by
      rw [← cu, World.cell?_setCell_other _ _ _ _ (by intro e; have := congrArg Addr.block e; simp at this)]
    obtain ⟨k2, hk2⟩ : ∃ k2 : ByteArray, k2 = x.1.1 ++ ⟨#[0]⟩ := ⟨_, rfl⟩
    have hk2s : k2.size ≤ 140737488351296 := by have h1 : (⟨#[0]⟩ : ByteArray).size = 1 := rfl; rw [hk2, ByteArray.size_append]; omega
    have hcat : ¬ (9223372036854775807 : Int) < (x.1.1.size : Int) + 1 := by omega
    obtain ⟨init, c, hA⟩ := along_split (k := k2.data.toList) u2.wf
    have hlen2 := hA.len u2.dep
    have hulo := u2.lo
    have huhi := u2.hi
    have HC := insert_calls tu Tu nu k2 (-1) _ init c u2.tree u2.wf (root_pre u2.root _) hk2s hA (by simp at hlen2; omega) (by omega) (by omega)
    obtain ⟨vo, hvo⟩ : ∃ vo, vo = valAt c k2 := ⟨_, rfl⟩
    rw [← hvo] at HC
    have HR : Hid (_ ∧ _ ∧ _) := ⟨ko8, kp8, hi8⟩
    have HU2 : Hid (Ut _ tu Tu nu (l.length + pre.length + pre.length)) := u2
    have HU1 : Hid (_ = some (Obj.cells #[.pointer (some ⟨tu, 0, none⟩)] 24)) := u1
    clear ho8 hg8 hn8 b8 ko8 kp8 hi8 cc u1 u2 hvo hA hlen2 hk2s
    gi_wp2_with fail
    rw [← hk2]
    clear hk2
    refine ⟨trivial, (fun h => by cases h), ?_⟩
    refine (CallsIn.inRound l' (callsIn_wide.2 HC)).mono ?_
    clear HC
    rintro e w9 ⟨t1, T1, va, vg, rfl, hb9, ht9, hi9, -, -, -⟩
    have hu9 := HU2.out.insert ht9 hi9
    have hh9 := HR.out.2.2.keep hb9
    have ub9 := (hb9.block _ (lt_of_heap HU1.out)).trans HU1.out
    have hp9 := hh9.put hu9
    obtain ⟨t1', T1', n1', v1, v2⟩ := hp9.u
    have ee : t1' = t1 := by
      rw [setCell_blk ub9] at v1
      simp at v1
      exact v1.symm
    subst ee
    have cu9 : w9.cell? ⟨w2.heap.size + 1, 0, none⟩ = some (.pointer (some ⟨tu, 0, none⟩)) := by rw [cell_of_blk ub9]; rfl
    have zu9 : w9.frozen? ⟨w2.heap.size + 1, 0, none⟩ = false := frozen_of_blk ub9
    obtain ⟨init2, c2, hA2⟩ := along_split (k := x.1.1.data.toList) v2.wf
    have hlen3 := hA2.len v2.dep
    have hvlo := v2.lo
    have hvhi := v2.hi
    have HD := delete_calls t1' T1' n1' x.1.1 _ init2 c2 v2.tree v2.wf (root_pre v2.root _) (Nat.le_trans hxk (by decide)) hA2 (by simp at hlen3; omega) (by omega) (by omega)
    have HV2 : Hid (Ut _ t1' T1' n1' (l.length + pre.length + pre.length + 1)) := v2
    have HV1 : Hid (_ = some (Obj.cells #[.pointer (some ⟨t1', 0, none⟩)] 24)) := v1
    have HP9 : Hid (_ ∧ _) := ⟨hp9, hb9⟩
    clear ht9 hi9 hu9 hh9 ub9 hp9 v1 v2 hA2 hlen3 hb9 HU1 HU2 cu cu8
    gi_wp2_with fail
    refine ⟨trivial, (fun h => by cases h), ?_⟩
    refine (CallsIn.inRound l' (callsIn_wide.2 HD)).mono ?_
    clear HD
    rintro e w10 ⟨hb10, hcase⟩
    obtain ⟨t2, T2, n2, r1, r2, rfl, hu10⟩ : ∃ (t2 : Nat) (T2 : Tr) (n2 : Int) (r1 : Value) (r2 : Bool), e = .returned (.tuple #[.pointer (some ⟨t2, 0, none⟩), r1, .bool r2]) ∧ Ut w10 t2 T2 n2 (l.length + pre.length + pre.length + 1 + 1) := by
      rcases hcase with ⟨-, rfl⟩ | ⟨y, t2, T2, -, rfl, ht, hd, -⟩
      · exact ⟨_, _, _, _, _, rfl, (HV2.out.keep hb10).more⟩
      · exact ⟨_, _, _, _, _, rfl, HV2.out.delete ht hd⟩
    clear hcase
    have ub10 := (hb10.block _ (lt_of_heap HV1.out)).trans HV1.out
    have hfin := (HP9.out.1.keep hb10).put hu10
    have cu10 : w10.cell? ⟨w2.heap.size + 1, 0, none⟩ = some (.pointer (some ⟨t1', 0, none⟩)) := by rw [cell_of_blk ub10]; rfl
    have zu10 : w10.frozen? ⟨w2.heap.size + 1, 0, none⟩ = false := frozen_of_blk ub10
    have e2 : l.length + pre.length + pre.length + 1 + 1 = l.length + (pre ++ [x]).length + (pre ++ [x]).length := by simp; omega
    rw [e2] at hfin
    have ofB : ∀ {A B : World} (q : Nat), Below A.heap.size A B → KeepsFrom q A B := fun q hb => ⟨hb.size, fun k o _ hk _ => (hb.block _ (lt_of_heap hk)).trans hk⟩
    have hz1' := HR.out.2.2.below.size
    have hz2' := HP9.out.1.below.size
    have HF : Hid (_ ∧ _ ∧ _) := ⟨(((HR.out.1.from w6.heap.size).trans (ofB _ HP9.out.2)).trans ((KeepsOthers.setCell _ ⟨w2.heap.size + 1, 0, none⟩ (.pointer (some ⟨t1', 0, none⟩))).from _)).trans ((ofB _ hb10).trans ((KeepsOthers.setCell _ ⟨w2.heap.size + 1, 0, none⟩ (.pointer (some ⟨t2, 0, none⟩))).from _)),
      ((HR.out.2.1.trans (Kp.ofBelow HP9.out.2 hz1')).trans (kp_box (n₀ := w2.heap.size) (X := fun b => b = w2.heap.size + 1) (b := w2.heap.size + 1) (Nat.le_succ _) rfl _)).trans ((Kp.ofBelow hb10 hz2').trans (kp_box (n₀ := w2.heap.size) (X := fun b => b = w2.heap.size + 1) (b := w2.heap.size + 1) (i := 0) (Nat.le_succ _) rfl (.pointer (some ⟨t2, 0, none⟩)))), hfin⟩
    clear hu10 hb10 ub10 hfin HV1 HV2 HP9 HR
    gi_wp2_with fail
    refine ⟨HF.out.1, HF.out.2.1, ?_⟩
    dsimp only
    rw [List.map_append]
    exact HF.out.2.2
  case done =>
    rintro D xs W' hD hS hI' hK
    have hS' : xs.map (·.1) = es := hS.trans hfil
    obtain ⟨gao, gn, gcap, hbox, hown, -⟩ := hI'.got
    rw [hS'] at hown
    have hsz : ∀ e ∈ es, e.1.size ≤ 140737488351296 := fun e he => Nat.le_trans (HKZ.out e he) (by decide)
    obtain ⟨gao', gcap', hge, hgE⟩ := hown.ents hsz
    simp only [Value.slice.injEq] at hge
    obtain ⟨rfl, rfl, rfl⟩ := hge
    have hm' := hI'.doc
    have hall : es.filter (notLt (kyb ⟨#[]⟩)) = es := filter_all fun e _ => by
      unfold notLt
      simp only [Bool.not_eq_true', decide_eq_false_iff_not]
      exact not_lt_nil _
    obtain ⟨is, his⟩ : ∃ is, is = idxTo (notLt (kyb ⟨#[]⟩)) es es.length := ⟨_, rfl⟩
    have hgot : es = is.map (fun i => es.getD i (⟨#[]⟩, 0)) := by
      rw [his, idxTo_map _ _ _ (Nat.le_refl _), List.take_length, hall]
    have hgl : es.length = is.length := by have := congrArg List.length hgot; simpa using this
    have hil : is.length ≤ es.length := by rw [his]; exact idxTo_len _ _ _
    have hDW : DocAt W' d es ps := HD2.out.keep hI'.below
    have HRF := refFrom_calls d es ps ⟨#[]⟩ W'.drew (hDW.keep ⟨rfl, rfl, rfl, Nat.le_refl _, fun _ _ => rfl⟩) (by decide) (by omega)
    rw [← his] at HRF
    have HTH := fun (W2 : World) (h2 : Below W'.heap.size W' W2) (x : Sv) (hx : x.At W2) (hv : x.vs = natV is) => these_calls gao gcap es d es ps x is W2 (hgE.below h2) (hDW.keep h2) hx hv hgl (by rw [his]; exact idxTo_lt _ _ _) hgot (by omega) (by omega)
    have g0 : W'.cell? ⟨w2.heap.size + 2, 0, none⟩ = some (.slice gao es.length gcap) := by rw [cell_of_blk hbox]; rfl
    have m0 : W'.cell? ⟨w2.heap.size, 0, none⟩ = some (.slice d.k.ao es.length d.k.cap) := by rw [cell_of_blk hm']; rfl
    have m1 : W'.cell? ⟨w2.heap.size, 1, none⟩ = some (.slice d.v.ao es.length d.v.cap) := by rw [cell_of_blk hm']; rfl
    have m2 : W'.cell? ⟨w2.heap.size, 2, none⟩ = some (.slice d.l.ao es.length d.l.cap) := by rw [cell_of_blk hm']; rfl
    have m3 : W'.cell? ⟨w2.heap.size, 3, none⟩ = some (.slice d.p.ao ps.length d.p.cap) := by rw [cell_of_blk hm']; rfl
    have m4 : W'.cell? ⟨w2.heap.size, 4, none⟩ = some (.slice d.m.ao ps.length d.m.cap) := by rw [cell_of_blk hm']; rfl
    have hrl := lt_of_heap HB2.out.2
    have rb : W'.heap[w.heap.size]? = some (.cells #[.bool false] 4) := (hI'.below.block _ hrl).trans HB2.out.2
    have m5 : W'.cell? ⟨w.heap.size, 0, none⟩ = some (.bool false) := by rw [cell_of_blk rb]; rfl
    have m6 : W'.frozen? ⟨w.heap.size, 0, none⟩ = false := frozen_of_blk rb
    have HK : Hid (W'.heap[D]? = some (.deferred (some [])) ∧ Below w2.heap.size w2 W' ∧ W'.heap[w.heap.size]? = some (.cells #[.bool false] 4)) := ⟨hK, hI'.below, rb⟩
    have hDW' := lt_of_heap hK
    have hlb := lt_of_heap hbox
    have hlm := lt_of_heap hm'
    have hlr := lt_of_heap rb
    unfold Dv.cells at HRF HTH
    rw [← hgl] at HTH HRF
    clear hK hI' hbox hown hgE hDW hm' hsz hgot his hS hS' rb hall hgl hil
    go_wp2_with fail
    go_region_held3 (fun W => W.cell? ⟨w2.heap.size + 2, 0, none⟩ = some (.slice gao es.length gcap) ∧ W.cell? ⟨w2.heap.size, 0, none⟩ = some (.slice d.k.ao es.length d.k.cap) ∧ W.cell? ⟨w2.heap.size, 1, none⟩ = some (.slice d.v.ao es.length d.v.cap) ∧ W.cell? ⟨w2.heap.size, 2, none⟩ = some (.slice d.l.ao es.length d.l.cap) ∧ W.cell? ⟨w2.heap.size, 3, none⟩ = some (.slice d.p.ao ps.length d.p.cap) ∧ W.cell? ⟨w2.heap.size, 4, none⟩ = some (.slice d.m.ao ps.length d.m.cap)) (first | (exact q10) | (exact q9) | (exact q8) | go_keep)
      (first
        | (go_at_call 13
           refine HRF.mono ?_
           rintro e w8 ⟨x, rfl, hxv, hxA, hb8⟩
           have hb8' : Below W'.heap.size W' w8 := ⟨hb8.os, hb8.tape, hb8.output, hb8.size, hb8.block⟩
           have q8 : w8.cell? ⟨w2.heap.size + 2, 0, none⟩ = some (.slice gao es.length gcap) ∧ w8.cell? ⟨w2.heap.size, 0, none⟩ = some (.slice d.k.ao es.length d.k.cap) ∧ w8.cell? ⟨w2.heap.size, 1, none⟩ = some (.slice d.v.ao es.length d.v.cap) ∧ w8.cell? ⟨w2.heap.size, 2, none⟩ = some (.slice d.l.ao es.length d.l.cap) ∧ w8.cell? ⟨w2.heap.size, 3, none⟩ = some (.slice d.p.ao ps.length d.p.cap) ∧ w8.cell? ⟨w2.heap.size, 4, none⟩ = some (.slice d.m.ao ps.length d.m.cap) :=
             ⟨(hb8'.cell hlb).trans g0, (hb8'.cell hlm).trans m0, (hb8'.cell hlm).trans m1, (hb8'.cell hlm).trans m2, (hb8'.cell hlm).trans m3, (hb8'.cell hlm).trans m4⟩
           have HB8 : Hid (Below W'.heap.size W' w8) := hb8'
           have HX8 : Hid (x.vs = natV is ∧ x.At w8) := ⟨hxv, hxA⟩
           clear hb8 hb8' hxv hxA HRF)
        | (go_at_call 12
           refine (HTH w8 HB8.out x HX8.out.2 HX8.out.1).mono ?_
           rintro e w9 ⟨rfl, hb9⟩
           have hs8 := HB8.out.size
           have q9 : w9.cell? ⟨w2.heap.size + 2, 0, none⟩ = some (.slice gao es.length gcap) ∧ w9.cell? ⟨w2.heap.size, 0, none⟩ = some (.slice d.k.ao es.length d.k.cap) ∧ w9.cell? ⟨w2.heap.size, 1, none⟩ = some (.slice d.v.ao es.length d.v.cap) ∧ w9.cell? ⟨w2.heap.size, 2, none⟩ = some (.slice d.l.ao es.length d.l.cap) ∧ w9.cell? ⟨w2.heap.size, 3, none⟩ = some (.slice d.p.ao ps.length d.p.cap) ∧ w9.cell? ⟨w2.heap.size, 4, none⟩ = some (.slice d.m.ao ps.length d.m.cap) :=
             ⟨(hb9.cell (Nat.lt_of_lt_of_le hlb hs8)).trans q8.1, (hb9.cell (Nat.lt_of_lt_of_le hlm hs8)).trans q8.2.1, (hb9.cell (Nat.lt_of_lt_of_le hlm hs8)).trans q8.2.2.1, (hb9.cell (Nat.lt_of_lt_of_le hlm hs8)).trans q8.2.2.2.1, (hb9.cell (Nat.lt_of_lt_of_le hlm hs8)).trans q8.2.2.2.2.1, (hb9.cell (Nat.lt_of_lt_of_le hlm hs8)).trans q8.2.2.2.2.2⟩
           have HB9 : Hid (Below W'.heap.size W' w9) := HB8.out.trans (hb9.mono hs8)
           have cr9 : w9.cell? ⟨w.heap.size, 0, none⟩ = some (.bool false) := (HB9.out.cell hlr).trans m5
           have zr9 : w9.frozen? ⟨w.heap.size, 0, none⟩ = false := (HB9.out.frozen hlr).trans m6
           have oth : ∀ (b j : Nat), w2.heap.size ≤ b → (w9.setCell ⟨w.heap.size, 0, none⟩ (.bool true)).cell? ⟨b, j, none⟩ = w9.cell? ⟨b, j, none⟩ := fun b j hb => World.cell?_setCell_other _ _ _ _ (by intro e; have := congrArg Addr.block e; simp at this; omega)
           have q10 : (w9.setCell ⟨w.heap.size, 0, none⟩ (.bool true)).cell? ⟨w2.heap.size + 2, 0, none⟩ = some (.slice gao es.length gcap) ∧ (w9.setCell ⟨w.heap.size, 0, none⟩ (.bool true)).cell? ⟨w2.heap.size, 0, none⟩ = some (.slice d.k.ao es.length d.k.cap) ∧ (w9.setCell ⟨w.heap.size, 0, none⟩ (.bool true)).cell? ⟨w2.heap.size, 1, none⟩ = some (.slice d.v.ao es.length d.v.cap) ∧ (w9.setCell ⟨w.heap.size, 0, none⟩ (.bool true)).cell? ⟨w2.heap.size, 2, none⟩ = some (.slice d.l.ao es.length d.l.cap) ∧ (w9.setCell ⟨w.heap.size, 0, none⟩ (.bool true)).cell? ⟨w2.heap.size, 3, none⟩ = some (.slice d.p.ao ps.length d.p.cap) ∧ (w9.setCell ⟨w.heap.size, 0, none⟩ (.bool true)).cell? ⟨w2.heap.size, 4, none⟩ = some (.slice d.m.ao ps.length d.m.cap) :=
             ⟨(oth _ _ (by omega)).trans q9.1, (oth _ _ (Nat.le_refl _)).trans q9.2.1, (oth _ _ (Nat.le_refl _)).trans q9.2.2.1, (oth _ _ (Nat.le_refl _)).trans q9.2.2.2.1, (oth _ _ (Nat.le_refl _)).trans q9.2.2.2.2.1, (oth _ _ (Nat.le_refl _)).trans q9.2.2.2.2.2⟩
           clear oth hb9 HTH hs8))
    all_goals go_wp2_with fail
    all_goals (
      have rb9 : w9.heap[w.heap.size]? = some (.cells #[.bool false] 4) := (HB9.out.block _ hlr).trans HK.out.2.2
      have hne : D ≠ w.heap.size := fun e => by have h1 := HK.out.1; rw [e, HK.out.2.2] at h1; cases h1
      have hK9 : (w9.setCell ⟨w.heap.size, 0, none⟩ (.bool true)).heap[D]? = some (.deferred (some [])) := (heap_setCell_other _ _ _ _ (fun e => hne e)).trans ((HB9.out.block _ hDW').trans HK.out.1)
      have rb10 : ((w9.setCell ⟨w.heap.size, 0, none⟩ (.bool true)).putObj D (.deferred none)).heap[w.heap.size]? = some (.cells #[.bool true] 4) := (World.putObj_heap_other (fun e => hne (by omega))).trans (by rw [setCell_blk rb9]; rfl)
      refine ⟨by simp, .inl ⟨_, _, rfl, run_takeDeferred hK9, ?_⟩⟩
      refine ⟨_, results_cell rfl rfl (load_truth rb10), rfl, ?_⟩
      have hbw : Below w.heap.size w W' := HB2.out.1.trans (HK.out.2.1.mono HB2.out.1.size)
      have hbz : Below w.heap.size w (w9.setCell ⟨w.heap.size, 0, none⟩ (.bool true)) := (hbw.trans (HB9.out.mono hbw.size)).setCell (p := ⟨w.heap.size, 0, none⟩) (Nat.le_refl _) _
      exact hbz.grown (grownBy_putObj' _ _ _) hbz.size (fun k e => by cases e; have h1 := HB2.out.1.size; omega))
  case stop =>
    rintro D c xs W' _ _ h _
    exact h.elim
end Go.Proofs.Ytbbekihmllllhaa
