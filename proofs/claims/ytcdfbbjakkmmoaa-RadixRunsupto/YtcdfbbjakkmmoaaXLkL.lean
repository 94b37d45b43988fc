/- Layer 3 (radix): the law's ends, same, looks. -/
import Derived.Test.YtcdfbbjakkmmoaaRAlike
import Derived.Test.YtcdfbbjakkmmoaaXEnds
import Derived.Test.YtcdfbbjakkmmoaaXGrown
import Derived.Test.YtcdfbbjakkmmoaaXGetD
import Derived.Lib.QuietBelow
import Derived.Deep.QuietTactic
namespace Go.Proofs.Ytcdfbbjakkmmoaa
open Go.RowKit Go.Shelf
open Go.Sort (grow)
set_option linter.unusedVariables false

theorem allInt_held {w₀ w : World} {tb : Nat} {T : Tr} {ne : Int} {d : Nat} {es : List En} (h : Held w₀ w tb T ne d es) : AllInt T := fun k x hx => by
  obtain ⟨e, -, -, h2⟩ := (h.has k x).1 hx
  exact ⟨_, h2⟩
theorem leastH_none {w₀ w : World} {tb : Nat} {T : Tr} {ne : Int} {d : Nat} (h : Held w₀ w tb T ne d []) (hC : Canon T) :
    Calls Try.prog 59 #[.pointer (some ⟨tb, 0, none⟩)] w fun e w' => e = .returned (.tuple #[.string ⟨#[]⟩, .int .i64 0, .bool false]) ∧ Below w.heap.size w w' := by
  have := least_tree tb T ne (d + 1) w h.good.tree h.good.wf h.good.dep
  obtain ⟨h1, h2⟩ := (lea_ents h.good.dep hC (allInt_held h)).1 h.ents
  rw [h1, h2, h.good.root] at this
  exact this
theorem leastH_some {w₀ w : World} {tb : Nat} {T : Tr} {ne : Int} {d : Nat} {es : List En} (h : Held w₀ w tb T ne d es) (hC : Canon T) (hn : 0 < es.length) :
    Calls Try.prog 59 #[.pointer (some ⟨tb, 0, none⟩)] w fun e w' => e = .returned (.tuple #[.string es[0].1, .int .i64 es[0].2, .bool true]) ∧ Below w.heap.size w w' := by
  have := least_tree tb T ne (d + 1) w h.good.tree h.good.wf h.good.dep
  have he : ents (d + 1) T = es[0] :: es.drop 1 := by
    have hg : ∀ (l : List En) (hn : 0 < l.length), l = l[0] :: l.drop 1 := fun l hn => by
      cases l with
      | nil => simp at hn
      | cons a l => rfl
    rw [h.ents]; exact hg es hn
  obtain ⟨h1, h2, h3⟩ := (lea_ents h.good.dep hC (allInt_held h)).2 _ _ he
  rw [h1, h2, h3] at this
  exact this
theorem greatestH_none {w₀ w : World} {tb : Nat} {T : Tr} {ne : Int} {d : Nat} (h : Held w₀ w tb T ne d []) (hC : Canon T) :
    Calls Try.prog 60 #[.pointer (some ⟨tb, 0, none⟩)] w fun e w' => e = .returned (.tuple #[.string ⟨#[]⟩, .int .i64 0, .bool false]) ∧ Below w.heap.size w w' := by
  have := greatest_tree tb T ne (d + 1) w h.good.tree h.good.wf h.good.dep
  obtain ⟨h1, h2⟩ := (gre_ents h.good.dep hC (allInt_held h)).1 h.ents
  rw [h1, h2, h.good.root] at this
  exact this
theorem greatestH_some {w₀ w : World} {tb : Nat} {T : Tr} {ne : Int} {d : Nat} {es : List En} (h : Held w₀ w tb T ne d es) (hC : Canon T) {m : Nat} (hn : es.length = m + 1) :
    Calls Try.prog 60 #[.pointer (some ⟨tb, 0, none⟩)] w fun e w' => e = .returned (.tuple #[.string (es[m]'(by omega)).1, .int .i64 (es[m]'(by omega)).2, .bool true]) ∧ Below w.heap.size w w' := by
  have := greatest_tree tb T ne (d + 1) w h.good.tree h.good.wf h.good.dep
  have he : (ents (d + 1) T).getLast? = some (es[m]'(by omega)) := by
    rw [h.ents, List.getLast?_eq_getElem?, show es.length - 1 = m by omega, List.getElem?_eq_getElem]
  obtain ⟨h1, h2, h3⟩ := (gre_ents h.good.dep hC (allInt_held h)).2 _ he
  rw [h1, h2, h3] at this
  exact this
theorem DocAt.keysC {w : World} {d : Dv} {es : List En} {ps : List ByteArray} (h : DocAt w d es ps) (hn : 0 < es.length) : ∃ kb ko vb vo, d.k.ao = some ⟨kb, ko, none⟩ ∧ d.v.ao = some ⟨vb, vo, none⟩ ∧ ∀ j (hj : j < es.length), w.cell? ⟨kb, ko + j, none⟩ = some (.string es[j].1) ∧ w.cell? ⟨vb, vo + j, none⟩ = some (.int .i64 es[j].2) := by
  have hkl := keysOf_len es
  have hvl : (valsOf es).length = es.length := by simp [valsOf]
  obtain ⟨kb, ko, hka, -⟩ := h.k.str h.kk 0 (by omega)
  obtain ⟨vb, vo, hva, -⟩ := h.v.int h.vv 0 (by omega)
  refine ⟨kb, ko, vb, vo, hka, hva, fun j hj => ⟨?_, ?_⟩⟩
  · obtain ⟨b, o, ha, hc⟩ := h.k.str h.kk j (by omega)
    rw [hka] at ha
    simp only [Option.some.injEq, Addr.mk.injEq] at ha
    obtain ⟨rfl, rfl, -⟩ := ha
    rw [hc]; simp [keysOf]
  · obtain ⟨b, o, ha, hc⟩ := h.v.int h.vv j (by omega)
    rw [hva] at ha
    simp only [Option.some.injEq, Addr.mk.injEq] at ha
    obtain ⟨rfl, rfl, -⟩ := ha
    rw [hc]; simp [valsOf]
theorem mbI_start (w : World) (d : Dv) (n q : Nat) : MbI w d n q (w.alloc (.cells (d.cells n q) 28)) := ⟨(Below.refl _ w).alloc (Nat.le_refl _) _, heap_alloc_new _ _⟩

set_option maxRecDepth 100000 in
set_option maxHeartbeats 1600000 in
theorem ends_calls (tb : Nat) (T : Tr) (ne : Int) (n : Nat) (es : List En) (d : Dv) (w₀ w : World) (h : GrP w₀ w tb T ne n es d) (hle : es.length ≤ 5864062014640) :
    Calls Try.prog 44 #[.pointer (some ⟨tb, 0, none⟩), .agg (d.cells es.length (pathsOf es).length)] w fun e w' => e = .returned (.bool true) ∧ Below w.heap.size w w' := by
  obtain ⟨w1, HW1⟩ : ∃ w1, Hid (w1 = w.alloc (.cells (d.cells es.length (pathsOf es).length) 28)) := ⟨_, rfl⟩
  obtain ⟨q, hq⟩ : ∃ q, q = (pathsOf es).length := ⟨_, rfl⟩
  have HI1 : Hid (MbI w d es.length q w1) := by rw [HW1.out, ← hq]; exact mbI_start w d es.length q
  have HP : Hid (∀ W, Below w.heap.size w W → GrP w₀ W tb T ne n es d) := fun W hW => h.keep hW
  rw [← hq] at HW1 ⊢
  have hnot : ∀ (x : Bool) (w : World), (Op.unary .not (.bool x)).run Try.prog w = .ok (.bool (!x)) w := fun _ _ => rfl
  have HD := h.doc
  clear h hq
  cases hes : es with
  | nil =>
    subst hes
    have HL := leastH_none (HP.out w1 HI1.out.below).held (HP.out w1 HI1.out.below).canon
    unfold Dv.cells
    unfold Dv.cells at HW1
    simp only [List.length_nil] at HW1
    clear HD
    go_enter Try.func44, Try.ntmps44
    go_wp2_with fail
    rw [← HW1.out]
    clear HW1
    refine HL.mono ?_
    clear HL
    rintro e w2 ⟨rfl, hb2⟩
    have HI2 : Hid (MbI w d ([] : List En).length q w2) := HI1.out.keep hb2
    have HG := greatestH_none (HP.out w2 HI2.out.below).held (HP.out w2 HI2.out.below).canon
    clear hb2 HI1
    go_wp2_with fail
    refine HG.mono ?_
    clear HG
    rintro e w3 ⟨rfl, hb3⟩
    have HI3 : Hid (MbI w d ([] : List En).length q w3) := HI2.out.keep hb3
    have k0 : w3.cell? ⟨w.heap.size, 0, none⟩ = some (.slice d.k.ao 0 d.k.cap) := by rw [cell_of_blk HI3.out.mb]; rfl
    clear hb3 HI2
    go_wp2_with fail
    go_ret
    exact ⟨rfl, HI3.out.below⟩
  | cons e l =>
    rw [← hes]
    obtain ⟨m, hm⟩ : ∃ m, es.length = m + 1 := ⟨l.length, by rw [hes]; rfl⟩
    clear hes
    have hn0 : 0 < es.length := by omega
    obtain ⟨kb, ko, vb, vo, hka, hva, hcs⟩ := HD.keysC hn0
    have hc0 := hcs 0 hn0
    have hcm := hcs m (by omega)
    rw [Nat.add_zero, Nat.add_zero] at hc0
    have HL := leastH_some (HP.out w1 HI1.out.below).held (HP.out w1 HI1.out.below).canon hn0
    have HG : Hid (∀ W, Below w.heap.size w W → _) := fun W hW => greatestH_some (HP.out W hW).held (HP.out W hW).canon hm
    obtain ⟨e0, he0⟩ : ∃ e, e = es[0] := ⟨_, rfl⟩
    obtain ⟨em, hem⟩ : ∃ e, e = es[m]'(by omega) := ⟨_, rfl⟩
    rw [← he0] at hc0 HL
    rw [← hem] at hcm HG
    obtain ⟨x0, y0⟩ := e0
    obtain ⟨xm, ym⟩ := em
    dsimp only at hc0 hcm HL HG
    have HC : Hid (∀ W, Below w.heap.size w W → (W.cell? ⟨kb, ko, none⟩ = some (.string x0) ∧ W.cell? ⟨vb, vo, none⟩ = some (.int .i64 y0)) ∧ (W.cell? ⟨kb, ko + m, none⟩ = some (.string xm) ∧ W.cell? ⟨vb, vo + m, none⟩ = some (.int .i64 ym))) := fun W hW =>
      ⟨⟨by rw [hW.cell (World.block_lt_of_cell? w _ hc0.1)]; exact hc0.1, by rw [hW.cell (World.block_lt_of_cell? w _ hc0.2)]; exact hc0.2⟩, ⟨by rw [hW.cell (World.block_lt_of_cell? w _ hcm.1)]; exact hcm.1, by rw [hW.cell (World.block_lt_of_cell? w _ hcm.2)]; exact hcm.2⟩⟩
    obtain ⟨L, hL⟩ : ∃ L, L = es.length := ⟨_, rfl⟩
    rw [← hL] at HI1 HW1 hm hn0 hle ⊢
    have i1 : ((L : Nat) : Int) - 1 = (m : Int) := by omega
    have i2 : (0 : Int) ≤ (m : Int) ∧ (m : Int) < (L : Int) := by omega
    have i3 : (0 : Int) < (L : Int) := by omega
    have d0 : ((L : Int) == 0) = false := by rw [beq_eq_false_iff_ne]; omega
    have i4 : IntKind.i64.wrap (m : Int) = (m : Int) := by rw [IntKind.wrap_i64]; omega
    obtain ⟨⟨dka, dkc, dkv⟩, ⟨dva, dvc, dvv⟩, dl, dp, dm⟩ := d
    dsimp only at hka hva
    subst hka hva
    unfold Dv.cells
    unfold Dv.cells at HW1
    clear HD hc0 hcm hcs he0 hem hL hm
    go_enter Try.func44, Try.ntmps44
    go_wp2_with fail
    rw [← HW1.out]
    clear HW1
    refine HL.mono ?_
    clear HL
    rintro e w2 ⟨rfl, hb2⟩
    have HI2 : Hid (MbI w ⟨⟨some ⟨kb, ko, none⟩, dkc, dkv⟩, ⟨some ⟨vb, vo, none⟩, dvc, dvv⟩, dl, dp, dm⟩ L q w2) := HI1.out.keep hb2
    have HG2 := HG.out w2 HI2.out.below
    clear hb2 HI1 HG
    go_wp2_with fail
    refine HG2.mono ?_
    clear HG2
    rintro e w3 ⟨rfl, hb3⟩
    have HI3 : Hid (MbI w ⟨⟨some ⟨kb, ko, none⟩, dkc, dkv⟩, ⟨some ⟨vb, vo, none⟩, dvc, dvv⟩, dl, dp, dm⟩ L q w3) := HI2.out.keep hb3
    have k0 : w3.cell? ⟨w.heap.size, 0, none⟩ = some (.slice (some ⟨kb, ko, none⟩) L dkc) := by rw [cell_of_blk HI3.out.mb]; rfl
    have k1 : w3.cell? ⟨w.heap.size, 1, none⟩ = some (.slice (some ⟨vb, vo, none⟩) L dvc) := by rw [cell_of_blk HI3.out.mb]; rfl
    obtain ⟨⟨c0, c1⟩, c2, c3⟩ := HC.out w3 HI3.out.below
    clear hb3 HI2 HC
    go_wp2_with fail
    go_ret
    exact ⟨rfl, HI3.out.below⟩

set_option maxRecDepth 100000 in
set_option maxHeartbeats 1600000 in
theorem same3_calls (tb : Nat) (T : Tr) (ne : Int) (n : Nat) (es : List En) (d : Dv) (w₀ w : World) (h : GrP w₀ w tb T ne n es d) (hle : es.length ≤ 5864062014640) :
    Calls Try.prog 21 #[.pointer (some ⟨tb, 0, none⟩), .agg (d.cells es.length (pathsOf es).length)] w fun e w' => e = .returned (.bool true) ∧ Below w.heap.size w w' := by
  obtain ⟨w1, HW1⟩ : ∃ w1, Hid (w1 = w.alloc (.cells (d.cells es.length (pathsOf es).length) 28)) := ⟨_, rfl⟩
  obtain ⟨q, hq⟩ : ∃ q, q = (pathsOf es).length := ⟨_, rfl⟩
  have HI1 : Hid (MbI w d es.length q w1) := by rw [HW1.out, ← hq]; exact mbI_start w d es.length q
  have HP : Hid (∀ W, Below w.heap.size w W → GrP w₀ W tb T ne n es d) := fun W hW => h.keep hW
  have HL := fun n => len_calls tb T ne (w1.drewN n) ((HP.out w1 HI1.out.below).held.good.tree.keep (drewN_below w1 n))
  have hcnt := h.held.cnt
  have HQ : Hid (q = (pathsOf es).length) := hq
  rw [← hq] at HW1 ⊢
  have hnot : ∀ (x : Bool) (w : World), (Op.unary .not (.bool x)).run Try.prog w = .ok (.bool (!x)) w := fun _ _ => rfl
  have HX : Hid (∀ (hn : 0 < es.length), ∃ kb ko vb vo, d.k.ao = some ⟨kb, ko, none⟩ ∧ d.v.ao = some ⟨vb, vo, none⟩ ∧ ∀ j (hj : j < es.length), w.cell? ⟨kb, ko + j, none⟩ = some (.string es[j].1) ∧ w.cell? ⟨vb, vo + j, none⟩ = some (.int .i64 es[j].2)) := fun hn => h.doc.keysC hn
  have HKS : Hid (∀ j (hj : j < es.length), es[j].1.size ≤ 140737488351296) := fun j hj => h.doc.ksz _ (List.mem_map_of_mem (List.getElem_mem hj))
  rw [hcnt] at HL
  clear h hq hcnt
  have k0 : w1.cell? ⟨w.heap.size, 0, none⟩ = some (.slice d.k.ao es.length d.k.cap) := by rw [cell_of_blk HI1.out.mb]; rfl
  have HD0 : Hid (∃ ka kc, ka = d.k.ao ∧ kc = d.k.cap) := ⟨_, _, rfl, rfl⟩
  unfold Dv.cells
  unfold Dv.cells at HW1
  go_enter Try.func21, Try.ntmps21
  go_wp2_with fail
  rw [← HW1.out]
  clear HW1
  go_wp2_with fail
  go_quiet ((go_at_call 22; exact Calls.quiet_of_same (HL _)))
  have HI2 : Hid (MbI w d es.length q (w1.drewN nq)) := HI1.out.keep (drewN_below w1 nq)
  obtain ⟨w2, hw2⟩ : ∃ w2, w2 = w1.drewN nq := ⟨_, rfl⟩
  rw [← hw2] at HI2 ⊢
  clear hw2 HL k0 HI1
  have k0 : w2.cell? ⟨w.heap.size, 0, none⟩ = some (.slice d.k.ao es.length d.k.cap) := by rw [cell_of_blk HI2.out.mb]; rfl
  go_wp2_with fail
  go_loopw [22] (fun i wr => ∃ j : Nat, j ≤ es.length ∧ i = .int .i64 j ∧ Hid (MbI w d es.length q wr)) (fun i _ => es.length - (intOf i).toNat)
  case atStart => exact ⟨0, Nat.zero_le _, rfl, HI2⟩
  case round =>
    obtain ⟨j, hj, rfl, HI⟩ := hrel
    clear k0 HI2
    by_cases hlt : j < es.length
    · obtain ⟨kb, ko, vb, vo, hka, hva, hcs⟩ := HX.out (by omega)
      obtain ⟨hc0, hc1⟩ := hcs j hlt
      have c0 : wr.cell? ⟨kb, ko + j, none⟩ = some (.string es[j].1) := by rw [HI.out.below.cell (World.block_lt_of_cell? w _ hc0)]; exact hc0
      have HC1 : Hid (∀ W, Below w.heap.size w W → W.cell? ⟨vb, vo + j, none⟩ = some (.int .i64 es[j].2)) := fun W hW => by rw [hW.cell (World.block_lt_of_cell? w _ hc1)]; exact hc1
      have HGE := getH_calls tb T ne n es w₀ wr (HP.out wr HI.out.below).held es[j].1 (HKS.out j hlt)
      rw [oldV_in (HP.out wr HI.out.below).held.sorted (List.getElem_mem hlt), decide_eq_true (show es[j].1 ∈ keysOf es from List.mem_map_of_mem (List.getElem_mem hlt))] at HGE
      obtain ⟨e, he⟩ : ∃ e, e = es[j] := ⟨_, rfl⟩
      rw [← he] at c0 HC1 HGE
      obtain ⟨x, y⟩ := e
      dsimp only at c0 HC1 HGE
      have i1 : (0 : Int) ≤ (j : Int) ∧ (j : Int) < (es.length : Int) := by omega
      have HVA : Hid (d.v.ao = some ⟨vb, vo, none⟩) := hva
      clear he hcs hc0 hc1 hva
      rw [hka]
      clear hka
      go_wp2_with fail
      refine HGE.mono ?_
      clear HGE
      rintro e w4 ⟨rfl, hb4⟩
      have HI4 : Hid (MbI w d es.length q w4) := HI.out.keep hb4
      have k1 : w4.cell? ⟨w.heap.size, 1, none⟩ = some (.slice (some ⟨vb, vo, none⟩) es.length d.v.cap) := by rw [cell_of_blk HI4.out.mb, ← HVA.out]; rfl
      have c1 := HC1.out w4 HI4.out.below
      clear hb4 HI c0
      go_wp2_with fail
      go_roundw
      case rel => exact ⟨j + 1, by omega, by go_num, HI4⟩
      case measure => simp [intOf]; omega
    · have hjl : j = es.length := by omega
      subst hjl
      have HE := ends_calls tb T ne n es d w₀ wr (HP.out wr HI.out.below) hle
      rw [← HQ.out] at HE
      unfold Dv.cells at HE
      have k0 : wr.cell? ⟨w.heap.size, 0, none⟩ = some (.slice d.k.ao es.length d.k.cap) := by rw [cell_of_blk HI.out.mb]; rfl
      have k1 : wr.cell? ⟨w.heap.size, 1, none⟩ = some (.slice d.v.ao es.length d.v.cap) := by rw [cell_of_blk HI.out.mb]; rfl
      have k2 : wr.cell? ⟨w.heap.size, 2, none⟩ = some (.slice d.l.ao es.length d.l.cap) := by rw [cell_of_blk HI.out.mb]; rfl
      have k3 : wr.cell? ⟨w.heap.size, 3, none⟩ = some (.slice d.p.ao q d.p.cap) := by rw [cell_of_blk HI.out.mb]; rfl
      have k4 : wr.cell? ⟨w.heap.size, 4, none⟩ = some (.slice d.m.ao q d.m.cap) := by rw [cell_of_blk HI.out.mb]; rfl
      go_wp2_with fail
      refine HE.mono ?_
      clear HE
      rintro e w4 ⟨rfl, hb4⟩
      have HB4 : Hid (Below w.heap.size w w4) := HI.out.below.trans (hb4.mono HI.out.below.size)
      clear hb4
      go_wp2_with fail
      go_ret
      exact ⟨rfl, HB4.out⟩
end Go.Proofs.Ytcdfbbjakkmmoaa
