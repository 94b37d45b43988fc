/- Layer 7 (rows): the document's KeysOf. -/
import Derived.Test.YtjbnbpclelbohaaRwRefL
import Derived.Test.YtjbnbpclelbohaaRwPutW
import Derived.Test.YtjbnbpclelbohaaKREncode
namespace Go.Proofs.Ytjbnbpclelbohaa
open Go.RowKit
set_option linter.unusedVariables false
attribute [local go_sem] Oper.semAt_some

/-- Texts that a machine can hold many times over. -/
def SmallC (cs : List CV) : Prop := ∀ c ∈ cs, c.t.size ≤ 1000000000000 ∧ ∀ s ∈ c.l, s.size ≤ 1000000000000
theorem SmallC.cell {cs : List CV} (h : SmallC cs) (i : Nat) : (cs.getD i noC).t.size ≤ 1000000000000 ∧ ∀ s ∈ (cs.getD i noC).l, s.size ≤ 1000000000000 := by
  rw [List.getD_eq_getElem?_getD]
  cases hc : cs[i]? with
  | none => exact ⟨by show (0 : Nat) ≤ _; omega, fun s hs => by simp [noC] at hs⟩
  | some c => exact h c (List.mem_of_getElem? hc)
theorem SmallC.elems {cs : List CV} (h : SmallC cs) (fs : List Fd) (ov : List Int) : ∀ e ∈ elemsOf fs ov cs, e.size ≤ 1000000000000 := by
  unfold elemsOf
  cases listP fs ov with
  | none => intro e he; simp only [List.mem_singleton] at he; subst he; show (0 : Nat) ≤ _; omega
  | some p => exact (h.cell _).2
theorem SmallC.own {cs : List CV} (h : SmallC cs) (fs : List Fd) (x : Ix) {e : ByteArray} (he : e.size ≤ 1000000000000) : ∀ q ∈ ownP fs x cs e, q.t.size ≤ 1000000000000 := by
  intro q hq
  rw [ownP_map] at hq
  obtain ⟨p, _, rfl⟩ := List.mem_map.1 hq
  have h1 : (cellP fs cs e p).t.size ≤ 1000000000000 := by
    unfold cellP
    dsimp only
    split
    · exact (h.cell _).1
    · split
      · exact he
      · show (0 : Nat) ≤ _; omega
  unfold lowIfP
  split
  · show (lowS _).size ≤ _
    rw [lowS_size]; exact h1
  · exact h1
theorem SmallC.lists {cs : List CV} (h : SmallC cs) (t : Tb) (x : Ix) : ∀ ps ∈ listsR t x cs, ∀ p ∈ ps, p.t.size ≤ 1000000000000 := by
  intro ps hps p hp
  unfold listsR at hps
  obtain ⟨e, he, h1⟩ := List.mem_filterMap.1 hps
  unfold oneR at h1
  split at h1
  · cases h1
  · obtain rfl := Option.some.inj h1
    rcases List.mem_append.1 hp with hp | hp
    · exact h.own _ _ (h.elems _ _ e he) p hp
    · unfold behindP at hp
      split at hp
      · simp at hp
      · exact h.own _ _ (by show (0 : Nat) ≤ _; omega) p hp
theorem enc_le (op : Bool) : ∀ ps : List Pt, (∀ p ∈ ps, p.t.size ≤ 1000000000000) → (enc op ps).length ≤ ps.length * 2000000000009
  | [], _ => by simp [enc]
  | p :: ps, h => by
    rw [enc_cons, List.length_append, List.length_cons]
    have h1 := piece_length p (op && ps.isEmpty)
    have h2 := enc_le op ps fun q hq => h q (List.mem_cons_of_mem _ hq)
    have h3 := h p (List.mem_cons_self ..)
    omega
theorem keyOf_le (ps : List Pt) : (keyOf ps).length ≤ 1024 := by
  unfold keyOf encAns
  split
  · split
    · assumption
    · simp
  · simp
theorem putR_lenT (k : Bs) : ∀ l : List Bs, (putR k true l).length ≤ l.length
  | [] => by simp [putR]
  | x :: l => by
    have h := putR_lenT k l
    rw [putR_cons]
    by_cases hx : x = k
    · simp [hx]; omega
    · simp [hx]; omega
theorem putR_len (k : Bs) : ∀ (l : List Bs), (putR k false l).length ≤ l.length + 1
  | [] => by simp [putR]
  | x :: l => by
    rw [putR_cons]
    by_cases h : x < k
    · have h1 := putR_len k l
      have hx : ¬ x = k := fun e => by subst e; exact List.lt_irrefl _ h
      simp only [h, hx, decide_true, Bool.not_true, Bool.and_false, Bool.or_false, if_false, List.nil_append, Bool.false_eq_true, List.length_append, List.length_cons, List.length_nil]
      omega
    · have h1 := putR_lenT k l
      rw [decide_eq_false h]
      show ([k] ++ ((if x = k then [] else [x]) ++ putR k true l)).length ≤ l.length + 1 + 1
      by_cases hx : x = k
      · rw [if_pos hx]; simp only [List.nil_append, List.length_append, List.length_cons, List.length_nil]; omega
      · rw [if_neg hx]; simp only [List.length_append, List.length_cons, List.length_nil]; omega

set_option maxRecDepth 100000 in
set_option maxHeartbeats 4000000 in
theorem refKeysOf_calls (t : TV) (x : XV) (ca : Option Addr) (cc : Nat) (cs : List CV) (w : World) (hk : KlOk w t x ca cs) (h1 : listsOf t.fs x.x.ov ≤ 1) (hf : ∀ y, t.xs[0]? = some y → listsOf t.fs y.x.ov = 0) (hkd : KindOk t.fs x.x.ov) (hsm : SmallC cs) :
    Calls Try.prog 25 #[.agg #[.string t.n, t.fv, t.xv], .agg #[.string x.x.n, .slice x.va x.x.ov.length x.vc, .bool x.x.u, .bool x.x.l, .bool x.x.s], .agg #[.slice ca cs.length cc]] w fun e w' => IxAns w t.tb x.x cs e w' := by
  have HIS := index_same (t := t.tb) (x := x.x) (cs := cs) h1 hkd
  have HIP : Hid (indexP t.tb x.x cs = if missR t.tb x.x cs = true ∧ x.x.s = false then ([], 73) else if (listsR t.tb x.x cs).any badB then ([], 74) else (putAll ((listsR t.tb x.x cs).map keyOf), 0)) := HIS.symm
  have HSL : Hid (∀ ps ∈ listsR t.tb x.x cs, ∀ p ∈ ps, p.t.size ≤ 1000000000000) := hsm.lists t.tb x.x
  have HLL : Hid ((listsR t.tb x.x cs).length ≤ 32) := Nat.le_trans (List.length_filterMap_le _ _) hk.few
  obtain ⟨w3, hw3⟩ : ∃ w3, w3 = ((w.alloc (.cells #[.string t.n, t.fv, t.xv] 29)).alloc (.cells #[.string x.x.n, .slice x.va x.x.ov.length x.vc, .bool x.x.u, .bool x.x.l, .bool x.x.s] 50)).alloc (.cells #[.slice ca cs.length cc] 24) := ⟨_, rfl⟩
  have hb3 : Below w.heap.size w w3 := by rw [hw3]; exact (((Below.refl _ _).alloc (Nat.le_refl _) _).alloc (by simp only [World.size_alloc]; omega) _).alloc (by simp only [World.size_alloc]; omega) _
  have HX3 : Hid (w3.heap[w.heap.size + 1]? = some (.cells #[.string x.x.n, .slice x.va x.x.ov.length x.vc, .bool x.x.u, .bool x.x.l, .bool x.x.s] 50)) := by
    rw [Hid, hw3]
    refine old_blk ?_ _
    have := new_blk (w.alloc (.cells #[.string t.n, t.fv, t.xv] 29)) (.cells #[.string x.x.n, .slice x.va x.x.ov.length x.vc, .bool x.x.u, .bool x.x.l, .bool x.x.s] 50)
    rw [World.size_alloc] at this
    exact this
  have HLC : Hid (Calls Try.prog 39 #[.agg #[.string t.n, t.fv, t.xv], .agg #[.string x.x.n, .slice x.va x.x.ov.length x.vc, .bool x.x.u, .bool x.x.l, .bool x.x.s], .agg #[.slice ca cs.length cc]] w3 fun e w' => (∃ a c ls, e = .returned (.tuple #[.slice a ls.length c, .bool (missR t.tb x.x cs)]) ∧ Lists w' w3.heap.size (.slice a ls.length c) ls ∧ ls.map LV.ps = listsR t.tb x.x cs) ∧ Below w3.heap.size w3 w') := refLists_calls t x ca cc cs w3 (hk.below hb3) h1 hf
  have HB3 : Hid (Below w.heap.size w w3) := hb3
  clear hk h1 hf hkd hsm HIS hb3
  obtain ⟨tn, fs, fa, fc, xs, xa, xc⟩ := t
  obtain ⟨⟨xn, ov, u, l, s⟩, va, vc⟩ := x
  dsimp only [TV.fv, TV.xv] at *
  generalize missR (TV.mk tn fs fa fc xs xa xc).tb ⟨xn, ov, u, l, s⟩ cs = mi at *
  go_enter Try.func25, Try.ntmps25
  go_wp2_with fail
  rw [← hw3]
  clear hw3
  refine HLC.out.mono ?_
  clear HLC
  rintro e w4 ⟨⟨a, c, ls, rfl, hls, hlp⟩, hb4⟩
  have HLS : Hid (Lists w4 w.heap.size (.slice a ls.length c) ls) := ⟨row_mono hls.row HB3.out.size, fun x hx => OwnP.mono (hls.each x hx) HB3.out.size, hls.wf⟩
  have HB4 : Hid (Below w.heap.size w w4) := HB3.out.trans (hb4.mono HB3.out.size)
  have x4 : w4.cell? ⟨w.heap.size + 1, 4, none⟩ = some (.bool s) := by rw [cell_blk ((hb4.block _ (lt_blk HX3.out)).trans HX3.out)]; rfl
  rw [← hlp] at HIP HSL HLL
  have hl32 : ls.length ≤ 32 := by have := HLL.out; rw [List.length_map] at this; exact this
  have HLW : Hid (Lists (w4.alloc (.cells #[] 9)) w.heap.size (.slice a ls.length c) ls) := HLS.out.below ((Below.refl _ _).alloc (Nat.le_refl _) _)
  have HBW : Hid (Below w.heap.size w (w4.alloc (.cells #[] 9))) := HB4.out.alloc HB4.out.size _
  have HKW : Hid (KeysAt (w4.alloc (.cells #[] 9)) w.heap.size (.slice (some ⟨w4.heap.size, 0, none⟩) 0 0) []) := World.ownsRow_lit (size := 1) w4 #[] 0 HB4.out.size (by unfold maxLen; omega) rfl
  clear hls hlp hb4 HX3 HB3 HLL
  by_cases hbad : mi = true ∧ s = false
  · obtain ⟨rfl, rfl⟩ := hbad
    rw [if_pos ⟨rfl, rfl⟩] at HIP
    go_wp2
    go_ret2
    refine ⟨.slice none 0 0, ?_, ?_, HB4.out⟩
    · rw [HIP.out]; rfl
    · rw [HIP.out]; exact World.ownsRow_nil _ _ _ _
  rw [if_neg hbad] at HIP
  have hor : mi = false ∨ (mi = true ∧ s = true) := by revert hbad; cases mi <;> cases s <;> simp
  clear hbad HLS HB4
  rcases hor with rfl | ⟨rfl, rfl⟩
  · go_wp2
    go_loopw [10, 12, 13, 14, 31] (fun v10 a12 a13 a14 i wr => ∃ (k : Nat) (a10 : Option Addr) (c10 : Nat) (out : List Bs), k ≤ ls.length ∧ i = .int .i64 k ∧ v10 = .slice a10 out.length c10 ∧ out.length ≤ k ∧ Hid (out = putAll (((ls.map LV.ps).take k).map keyOf)) ∧ Hid (noneTo badB (ls.map LV.ps) k) ∧ Hid (KeysAt wr w.heap.size (.slice a10 out.length c10) out) ∧ Hid (Lists wr w.heap.size (.slice a ls.length c) ls) ∧ Hid (Below w.heap.size w wr)) (fun _ _ _ _ i _ => ls.length - (intOf i).toNat)
    case atStart => exact ⟨0, _, _, [], Nat.zero_le _, rfl, rfl, Nat.le_refl _, rfl, noneTo.zero _ _, HKW, HLW, HBW⟩
    case round =>
      obtain ⟨k, a10, c10, out, hk, rfl, rfl, hol, HO, HN, HK, HL, HB⟩ := hrel
      clear HKW HLW HBW x4
      by_cases hlt : k < ls.length
      · have hmem := List.getElem_mem hlt
        obtain ⟨lb, lo, rfl, c0⟩ : ∃ b off, a = some ⟨b, off, none⟩ ∧ wr.cell? ⟨b, off + k, none⟩ = some (.slice ls[k].a ls[k].ps.length ls[k].c) := by
          obtain ⟨b, off, ha, hc⟩ := (row_cells HL.out.row) (by intro e; have := congrArg List.length e; rw [List.length_map, List.length_nil] at this; omega)
          exact ⟨b, off, ha, hc _ _ (by simp [hlt])⟩
        have hsz := HSL.out ls[k].ps (List.mem_map_of_mem hmem)
        have hp8 := (HL.out.wf _ hmem).2
        have HEC : Hid (Calls Try.prog 40 #[.slice ls[k].a ls[k].ps.length ls[k].c, .bool false] wr fun e w' => e = .returned (.tuple #[.string ⟨(encAns false ls[k].ps).1.toArray⟩, .int .i64 (encAns false ls[k].ps).2]) ∧ Below wr.heap.size wr w') := rencode_calls ls[k].a ls[k].c ls[k].ps false wr (by omega) ((HL.out.each _ hmem).parts (HL.out.wf _ hmem).1) (by have := enc_le false ls[k].ps hsz; omega) (fun p hp => by have := hsz p hp; omega)
        have HZ : Hid (∀ x ∈ out, x.length ≤ 140737488351232) := fun x hx => by
          rw [HO.out, putAll_mem] at hx
          obtain ⟨ps, _, rfl⟩ := List.mem_map.1 hx
          exact Nat.le_trans (keyOf_le ps) (by decide)
        have HKZ : Hid ((keyOf ls[k].ps).length ≤ 140737488351232) := Nat.le_trans (keyOf_le _) (by decide)
        have HKT : Hid (putAll (((ls.map LV.ps).take (k + 1)).map keyOf) = putR (keyOf ls[k].ps) false out) := by rw [Hid, HO.out, keys_take ls k hlt, putAll_snoc]
        have HBD : Hid (badB ls[k].ps = ((encAns false ls[k].ps).2 != 0)) := rfl
        have HKO : Hid (keyOf ls[k].ps = (encAns false ls[k].ps).1) := rfl
        have hps : (ls.map LV.ps)[k]'(by simpa using hlt) = ls[k].ps := by simp
        have HAN : Hid (badB ls[k].ps = true → (ls.map LV.ps).any badB = true) := fun h => List.any_eq_true.2 ⟨_, List.mem_map_of_mem hmem, h⟩
        have HSU : Hid (badB ls[k].ps = false → noneTo badB (ls.map LV.ps) (k + 1)) := fun h => HN.out.succ (by simpa using hlt) (by rw [hps]; exact h)
        rw [HKO.out] at HKZ HKT
        generalize encAns false ls[k].ps = E at *
        obtain ⟨E1, E2⟩ := E
        dsimp only at *
        clear hmem hps hsz hp8 HKO
        go_wp2_with fail
        refine HEC.out.mono ?_
        clear HEC
        rintro e w5 ⟨rfl, hb5⟩
        have HB5 : Hid (Below w.heap.size w w5) := HB.out.trans (hb5.mono HB.out.size)
        have HL5 : Hid (Lists w5 w.heap.size (.slice (some ⟨lb, lo, none⟩) ls.length c) ls) := HL.out.below hb5
        have HK5 : Hid (KeysAt w5 w.heap.size (.slice a10 out.length c10) out) := row_below HK.out hb5
        clear hb5 c0 HB HL HK
        by_cases hE : E2 = 0
        · subst hE
          have HN2 : Hid (noneTo badB (ls.map LV.ps) (k + 1)) := HSU.out (by rw [HBD.out]; rfl)
          have HPC : Hid (Calls Try.prog 41 #[.slice a10 out.length c10, .string ⟨E1.toArray⟩] w5 fun e w' => (∃ a c', e = .returned (.slice a (putR E1 false out).length c') ∧ KeysAt w' w5.heap.size (.slice a (putR E1 false out).length c') (putR E1 false out)) ∧ Below w5.heap.size w5 w') := put_calls a10 c10 out E1 w5 (by omega) HZ.out HKZ.out (row_cells HK5.out)
          have hpl := putR_len E1 out
          generalize putR E1 false out = out2 at *
          clear HAN HSU HBD
          go_wp2_with fail
          refine HPC.out.mono ?_
          clear HPC
          rintro e w6 ⟨⟨a6, c6, rfl, hk6⟩, hb6⟩
          have HB6 : Hid (Below w.heap.size w w6) := HB5.out.trans (hb6.mono HB5.out.size)
          have HL6 : Hid (Lists w6 w.heap.size (.slice (some ⟨lb, lo, none⟩) ls.length c) ls) := HL5.out.below hb6
          have HK6 : Hid (KeysAt w6 w.heap.size (.slice a6 out2.length c6) out2) := row_mono hk6 HB5.out.size
          have HO6 : Hid (out2 = putAll (((ls.map LV.ps).take (k + 1)).map keyOf)) := HKT.out.symm
          clear hk6 hb6 HB5 HL5 HK5
          go_wp2
          go_roundw
          case rel => exact ⟨k + 1, a6, c6, out2, by omega, by go_num, rfl, by omega, HO6, HN2, HK6, HL6, HB6⟩
          case measure => simp [intOf]; omega
        · have HOB : Hid (indexP (TV.mk tn fs fa fc xs xa xc).tb ⟨xn, ov, u, l, s⟩ cs = ([], 74)) := by rw [Hid, HIP.out, if_pos (HAN.out (by rw [HBD.out]; simpa using hE))]
          have q5 : (E2 == 0) = false := by simpa using hE
          clear HAN HSU HBD hE
          go_wp2
          go_ret2
          refine ⟨.slice none 0 0, ?_, ?_, HB5.out⟩
          · rw [HOB.out]; rfl
          · rw [HOB.out]; exact World.ownsRow_nil _ _ _ _
      · obtain rfl : k = ls.length := by omega
        have HNO : Hid ((ls.map LV.ps).any badB = false) := (HN.out.any (by simp)).symm
        have HOB : Hid (indexP (TV.mk tn fs fa fc xs xa xc).tb ⟨xn, ov, u, l, s⟩ cs = (out, 0)) := by rw [Hid, HIP.out, HNO.out, if_neg (by simp), HO.out, List.take_of_length_le (by simp)]
        go_wp2
        go_ret2
        refine ⟨.slice a10 out.length c10, ?_, ?_, HB.out⟩
        · rw [HOB.out]; rfl
        · rw [HOB.out]; exact HK.out
  · go_wp2
    go_loopw [10, 12, 13, 14, 31] (fun v10 a12 a13 a14 i wr => ∃ (k : Nat) (a10 : Option Addr) (c10 : Nat) (out : List Bs), k ≤ ls.length ∧ i = .int .i64 k ∧ v10 = .slice a10 out.length c10 ∧ out.length ≤ k ∧ Hid (out = putAll (((ls.map LV.ps).take k).map keyOf)) ∧ Hid (noneTo badB (ls.map LV.ps) k) ∧ Hid (KeysAt wr w.heap.size (.slice a10 out.length c10) out) ∧ Hid (Lists wr w.heap.size (.slice a ls.length c) ls) ∧ Hid (Below w.heap.size w wr)) (fun _ _ _ _ i _ => ls.length - (intOf i).toNat)
    case atStart => exact ⟨0, _, _, [], Nat.zero_le _, rfl, rfl, Nat.le_refl _, rfl, noneTo.zero _ _, HKW, HLW, HBW⟩
    case round =>
      obtain ⟨k, a10, c10, out, hk, rfl, rfl, hol, HO, HN, HK, HL, HB⟩ := hrel
      clear HKW HLW HBW x4
      by_cases hlt : k < ls.length
      · have hmem := List.getElem_mem hlt
        obtain ⟨lb, lo, rfl, c0⟩ : ∃ b off, a = some ⟨b, off, none⟩ ∧ wr.cell? ⟨b, off + k, none⟩ = some (.slice ls[k].a ls[k].ps.length ls[k].c) := by
          obtain ⟨b, off, ha, hc⟩ := (row_cells HL.out.row) (by intro e; have := congrArg List.length e; rw [List.length_map, List.length_nil] at this; omega)
          exact ⟨b, off, ha, hc _ _ (by simp [hlt])⟩
        have hsz := HSL.out ls[k].ps (List.mem_map_of_mem hmem)
        have hp8 := (HL.out.wf _ hmem).2
        have HEC : Hid (Calls Try.prog 40 #[.slice ls[k].a ls[k].ps.length ls[k].c, .bool false] wr fun e w' => e = .returned (.tuple #[.string ⟨(encAns false ls[k].ps).1.toArray⟩, .int .i64 (encAns false ls[k].ps).2]) ∧ Below wr.heap.size wr w') := rencode_calls ls[k].a ls[k].c ls[k].ps false wr (by omega) ((HL.out.each _ hmem).parts (HL.out.wf _ hmem).1) (by have := enc_le false ls[k].ps hsz; omega) (fun p hp => by have := hsz p hp; omega)
        have HZ : Hid (∀ x ∈ out, x.length ≤ 140737488351232) := fun x hx => by
          rw [HO.out, putAll_mem] at hx
          obtain ⟨ps, _, rfl⟩ := List.mem_map.1 hx
          exact Nat.le_trans (keyOf_le ps) (by decide)
        have HKZ : Hid ((keyOf ls[k].ps).length ≤ 140737488351232) := Nat.le_trans (keyOf_le _) (by decide)
        have HKT : Hid (putAll (((ls.map LV.ps).take (k + 1)).map keyOf) = putR (keyOf ls[k].ps) false out) := by rw [Hid, HO.out, keys_take ls k hlt, putAll_snoc]
        have HBD : Hid (badB ls[k].ps = ((encAns false ls[k].ps).2 != 0)) := rfl
        have HKO : Hid (keyOf ls[k].ps = (encAns false ls[k].ps).1) := rfl
        have hps : (ls.map LV.ps)[k]'(by simpa using hlt) = ls[k].ps := by simp
        have HAN : Hid (badB ls[k].ps = true → (ls.map LV.ps).any badB = true) := fun h => List.any_eq_true.2 ⟨_, List.mem_map_of_mem hmem, h⟩
        have HSU : Hid (badB ls[k].ps = false → noneTo badB (ls.map LV.ps) (k + 1)) := fun h => HN.out.succ (by simpa using hlt) (by rw [hps]; exact h)
        rw [HKO.out] at HKZ HKT
        generalize encAns false ls[k].ps = E at *
        obtain ⟨E1, E2⟩ := E
        dsimp only at *
        clear hmem hps hsz hp8 HKO
        go_wp2_with fail
        refine HEC.out.mono ?_
        clear HEC
        rintro e w5 ⟨rfl, hb5⟩
        have HB5 : Hid (Below w.heap.size w w5) := HB.out.trans (hb5.mono HB.out.size)
        have HL5 : Hid (Lists w5 w.heap.size (.slice (some ⟨lb, lo, none⟩) ls.length c) ls) := HL.out.below hb5
        have HK5 : Hid (KeysAt w5 w.heap.size (.slice a10 out.length c10) out) := row_below HK.out hb5
        clear hb5 c0 HB HL HK
        by_cases hE : E2 = 0
        · subst hE
          have HN2 : Hid (noneTo badB (ls.map LV.ps) (k + 1)) := HSU.out (by rw [HBD.out]; rfl)
          have HPC : Hid (Calls Try.prog 41 #[.slice a10 out.length c10, .string ⟨E1.toArray⟩] w5 fun e w' => (∃ a c', e = .returned (.slice a (putR E1 false out).length c') ∧ KeysAt w' w5.heap.size (.slice a (putR E1 false out).length c') (putR E1 false out)) ∧ Below w5.heap.size w5 w') := put_calls a10 c10 out E1 w5 (by omega) HZ.out HKZ.out (row_cells HK5.out)
          have hpl := putR_len E1 out
          generalize putR E1 false out = out2 at *
          clear HAN HSU HBD
          go_wp2_with fail
          refine HPC.out.mono ?_
          clear HPC
          rintro e w6 ⟨⟨a6, c6, rfl, hk6⟩, hb6⟩
          have HB6 : Hid (Below w.heap.size w w6) := HB5.out.trans (hb6.mono HB5.out.size)
          have HL6 : Hid (Lists w6 w.heap.size (.slice (some ⟨lb, lo, none⟩) ls.length c) ls) := HL5.out.below hb6
          have HK6 : Hid (KeysAt w6 w.heap.size (.slice a6 out2.length c6) out2) := row_mono hk6 HB5.out.size
          have HO6 : Hid (out2 = putAll (((ls.map LV.ps).take (k + 1)).map keyOf)) := HKT.out.symm
          clear hk6 hb6 HB5 HL5 HK5
          go_wp2
          go_roundw
          case rel => exact ⟨k + 1, a6, c6, out2, by omega, by go_num, rfl, by omega, HO6, HN2, HK6, HL6, HB6⟩
          case measure => simp [intOf]; omega
        · have HOB : Hid (indexP (TV.mk tn fs fa fc xs xa xc).tb ⟨xn, ov, u, l, true⟩ cs = ([], 74)) := by rw [Hid, HIP.out, if_pos (HAN.out (by rw [HBD.out]; simpa using hE))]
          have q5 : (E2 == 0) = false := by simpa using hE
          clear HAN HSU HBD hE
          go_wp2
          go_ret2
          refine ⟨.slice none 0 0, ?_, ?_, HB5.out⟩
          · rw [HOB.out]; rfl
          · rw [HOB.out]; exact World.ownsRow_nil _ _ _ _
      · obtain rfl : k = ls.length := by omega
        have HNO : Hid ((ls.map LV.ps).any badB = false) := (HN.out.any (by simp)).symm
        have HOB : Hid (indexP (TV.mk tn fs fa fc xs xa xc).tb ⟨xn, ov, u, l, true⟩ cs = (out, 0)) := by rw [Hid, HIP.out, HNO.out, if_neg (by simp), HO.out, List.take_of_length_le (by simp)]
        go_wp2
        go_ret2
        refine ⟨.slice a10 out.length c10, ?_, ?_, HB.out⟩
        · rw [HOB.out]; rfl
        · rw [HOB.out]; exact HK.out
end Go.Proofs.Ytjbnbpclelbohaa
