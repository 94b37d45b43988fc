/- Layer 5 (txn): done: changes (sets) as one transaction. -/
import Derived.Test.YtpnmkfbdfggnaaaGreatTAlive
import Derived.Test.YtpnmkfbdfggnaaaGreatTIdle
namespace Go.Proofs.YtpnmkfbdfggnaaaGreat
open Go.RowKit
open scoped Classical
set_option linter.unusedVariables false

/-- Changes that set lie one behind the other at the address. -/
def ChAt (w : World) (ao : Option Addr) (l : List En) : Prop :=
  ∀ i (h : i < l.length), ∃ b off cs, ao = some ⟨b, off, none⟩ ∧ w.heap[b]? = some (.cells cs 57) ∧ cs[off + i * 3]? = some (.bool false) ∧ cs[off + i * 3 + 1]? = some (.string l[i].1) ∧ cs[off + i * 3 + 2]? = some (.int .i64 l[i].2) ∧ l[i].1.size ≤ 140737488351296
theorem ChAt.kept {w W : World} {ao : Option Addr} {l : List En} (h : ChAt w ao l) (hk : ∀ (b : Nat) (cs : Array Value), w.heap[b]? = some (.cells cs 57) → W.heap[b]? = w.heap[b]?) : ChAt W ao l := fun i hi => by
  obtain ⟨b, off, cs, h0, h1, h2⟩ := h i hi
  exact ⟨b, off, cs, h0, (hk b cs h1).trans h1, h2⟩

/-- Within done. -/
structure DoI (w1 : World) (xb bb vb tb mb : Nat) (nm : Int) (T : Tr) (ne : Int) (d j tbx : Nat) (Tx : Tr) (nex : Int) (enx : List En) (ks : List ByteArray) (W : World) : Prop where
  txn : TxnAt W xb bb tbx mb
  base : BaseAt W bb vb tb nm true
  map : ∃ es cl, MapAt W mb es cl ks
  old : TreeAt W tb T ne
  own : Held W W tbx Tx nex (d + j) enx
  kin : ∀ k ∈ ks, k.size ≤ 140737488351296
  klen : ks.length ≤ j
  kpos : 0 < j → 0 < ks.length
  tch : Touched [xb, mb] w1 W
  abv : ∀ B, B < w1.heap.size → Above B T → Above B Tx
theorem DoI.below {w1 W W' : World} {xb bb vb tb mb : Nat} {nm : Int} {T : Tr} {ne : Int} {d j tbx : Nat} {Tx : Tr} {nex : Int} {enx : List En} {ks : List ByteArray} (h : DoI w1 xb bb vb tb mb nm T ne d j tbx Tx nex enx ks W) (hb : Below W.heap.size W W') : DoI w1 xb bb vb tb mb nm T ne d j tbx Tx nex enx ks W' := by
  obtain ⟨es, cl, hm⟩ := h.map
  exact ⟨h.txn.below hb, h.base.below hb, ⟨es, cl, hm.below hb⟩, h.old.keep hb, h.own.move (h.own.good.tree.keep hb), h.kin, h.klen, h.kpos, h.tch.trans (Touched.ofBelow hb _), h.abv⟩
theorem insK_len (ks : List ByteArray) (k : ByteArray) : (insK ks k).length ≤ ks.length + 1 ∧ 0 < (insK ks k).length ∧ ∀ x ∈ insK ks k, x ∈ ks ∨ x = k := by
  unfold insK
  split
  · rename_i h
    exact ⟨by omega, List.length_pos_of_mem h, fun x hx => .inl hx⟩
  · exact ⟨by simp, by simp, fun x hx => by simpa using hx⟩
/-- The ways of touched keys in a tree of that depth. -/
theorem ways_of {T : Tr} {d : Nat} {ks : List ByteArray} (hw : WF T) (hr : T.p = kE) (hd : Dep (d + 1) T) (hd' : d ≤ 17592186044416) (hk : ∀ k ∈ ks, k.size ≤ 140737488351296) (hl : ks.length ≤ 100000) : ∃ way, WaysOk T (sortK ks) way (d + 1) := by
  have hway : ∀ k : ByteArray, ∃ l, Along k.data.toList T l ∧ l.length ≤ d + 1 := fun k => by
    obtain ⟨init, c, hA⟩ := along_split (k := k.data.toList) hw
    exact ⟨_, hA, hA.len hd⟩
  refine ⟨fun k => Classical.choose (hway k), hw, hr, fun k _ => (Classical.choose_spec (hway k)).1, fun k _ => (Classical.choose_spec (hway k)).2, fun k h => hk k (mem_sortK h), by rw [sortK_length]; omega, waysOf (fun k => Classical.choose (hway k)) (sortK ks), ?_, fun x hx => hx⟩
  have h1 := waysOf_len (fun k => Classical.choose (hway k)) (d + 1) (sortK ks) (fun k _ => (Classical.choose_spec (hway k)).2)
  rw [sortK_length] at h1
  have : ks.length * ((d + 1) * 2) ≤ 100000 * 35184372088834 := Nat.mul_le_mul (by omega) (by omega)
  omega

theorem Held.deeper {w W : World} {tb : Nat} {T : Tr} {ne : Int} {d d' : Nat} {es : List En} (h : Held w W tb T ne d es) (hd : d ≤ d') : Held w W tb T ne d' es :=
  ⟨⟨h.good.below, h.good.tree, h.good.wf, h.good.root, h.good.dep.mono (by omega), h.good.lo, by have := h.good.hi; omega⟩, h.has, h.sorted, h.cnt⟩
theorem DoI.offs {w1 W : World} {xb bb vb tb mb : Nat} {nm : Int} {T : Tr} {ne : Int} {d j tbx : Nat} {Tx : Tr} {nex : Int} {enx : List En} {ks : List ByteArray} (h : DoI w1 xb bb vb tb mb nm T ne d j tbx Tx nex enx ks W) : Off W xb ∧ Off W mb ∧ Off W bb ∧ bb ≠ xb ∧ bb ≠ mb ∧ vb ≠ xb ∧ vb ≠ mb := by
  obtain ⟨es, cl, hm⟩ := h.map
  refine ⟨h.txn.off h.base.blk h.own.good.tree.blk, .inl ⟨_, _, hm.blk⟩, h.base.off, fun e => ?_, fun e => ?_, fun e => ?_, fun e => ?_⟩
  · have := h.base.blk; rw [e, h.txn.blk] at this; simp at this
  · have := h.base.blk; rw [e, hm.blk] at this; cases this
  · have := h.base.ver; rw [e, h.txn.blk] at this; simp at this
  · have := h.base.ver; rw [e, hm.blk] at this; cases this
theorem DoI.step {w1 W W' : World} {xb bb vb tb mb : Nat} {nm : Int} {T : Tr} {ne : Int} {d j tbx tbx' : Nat} {Tx Tx' : Tr} {nex nex' : Int} {enx enx' : List En} {ks : List ByteArray} {k : ByteArray} {es' : Array MapEntry} {cl' : Nat} (h : DoI w1 xb bb vb tb mb nm T ne d j tbx Tx nex enx ks W) (hk : k.size ≤ 140737488351296)
    (hx : TxnAt W' xb bb tbx' mb) (hm : MapAt W' mb es' cl' (insK ks k)) (hH : Held W' W' tbx' Tx' nex' (d + j + 1) enx') (ht : Touched [xb, mb] W W') (ha : ∀ B, B < W.heap.size → Above B Tx → Above B Tx') : DoI w1 xb bb vb tb mb nm T ne d (j + 1) tbx' Tx' nex' enx' (insK ks k) W' := by
  obtain ⟨o1, o2, o3, n1, n2, n3, n4⟩ := h.offs
  obtain ⟨i1, i2, i3⟩ := insK_len ks k
  have hkl := h.klen
  refine ⟨hx, ⟨(ht.block _ (lt_of_heap h.base.blk) (by simp [n1, n2])).trans h.base.blk, (ht.block _ (lt_of_heap h.base.ver) (by simp [n3, n4])).trans h.base.ver⟩, ⟨_, _, hm⟩, ?_, hH, fun x hx => ?_, by omega, fun _ => i2, h.tch.trans ht, fun B hB hA => ha B (Nat.lt_of_lt_of_le hB h.tch.size) (h.abv B hB hA)⟩
  · exact h.old.offs (· ∈ [xb, mb]) (fun b hb hn => ht.block b hb hn) (fun b hb => by simp at hb; rcases hb with rfl | rfl; exact o1; exact o2)
  · rcases i3 x hx with h1 | rfl
    · exact h.kin x h1
    · exact hk

/-- What done leaves: the base, its tree, all within what is its own. -/
def DoneP (bb : Nat) (cm : Bool) (n : Nat) (nm : Int) (d B : Nat) (w w' : World) : Prop :=
  ∃ vb' tb' T' ne' en', BaseAt w' bb vb' tb' (if cm && decide (0 < n) then nm + 1 else nm) false ∧ Held w' w' tb' T' ne' (d + n) en' ∧ Above B T' ∧ Below B w w'

set_option maxRecDepth 100000 in
set_option maxHeartbeats 8000000 in
theorem done_calls (bb vb tb : Nat) (nm : Int) (T : Tr) (ne : Int) (d : Nat) (en : List En) (ao : Option Addr) (cap : Nat) (l : List En) (cm : Bool) (B : Nat) (w : World) (h : BaseAt w bb vb tb nm false) (hH : Held w w tb T ne d en) (hA : Above B T) (hB : B ≤ bb) (hl : ChAt w ao l) (hn : l.length ≤ 100000) (hd : d + l.length ≤ 17592186044416) (hnm : 0 ≤ nm ∧ nm < 18446744073709551615) :
    Calls Tryz.prog 19 #[.pointer (some ⟨bb, 0, none⟩), .slice ao l.length cap, .bool cm] w fun e w' => e = .returned (.bool true) ∧ DoneP bb cm l.length nm d B w w' := by
  have HBE := begin_calls bb vb tb nm w h
  have HS : Hid (BaseAt w bb vb tb nm false ∧ Held w w tb T ne d en ∧ ChAt w ao l ∧ Above B T) := ⟨h, hH, hl, hA⟩
  clear h hH hl hA
  go_enter Tryz.func19, Tryz.ntmps19
  go_wp2_with fail
  refine HBE.mono ?_
  clear HBE
  rintro e w1 ⟨xb, mb, rfl, ht1, hB1, hx1, hm1, hxg, hmg⟩
  have HT1 : Hid (Touched [bb] w w1) := ht1
  have HI1 : Hid (DoI w1 xb bb vb tb mb nm T ne d 0 tb T ne en [] w1) := by
    have hT1 : TreeAt w1 tb T ne := HS.out.2.1.good.tree.offs (· ∈ [bb]) (fun b hb hn => ht1.block b hb hn) (fun k hk => by simp at hk; subst hk; exact HS.out.1.off)
    exact ⟨hx1, hB1, ⟨_, _, hm1, MapKept.stamped_empty 0, rfl, fun e he => by simp at he⟩, hT1, HS.out.2.1.move hT1, fun k hk => by simp at hk, Nat.le_refl _, fun h => by omega, Touched.refl _ _, fun B _ h => h⟩
  have HC1 : Hid (∀ W, Touched [xb, mb] w1 W → ChAt W ao l) := fun W hW => HS.out.2.2.1.kept fun b cs hb => by
    have hbl := lt_of_heap hb
    have hs1 := ht1.size
    have n1 : b ≠ bb := fun e => by rw [e, HS.out.1.blk] at hb; simp at hb
    exact (hW.block b (by omega) (by simp; omega)).trans (ht1.block b hbl (by simpa using n1))
  have HG : Hid (w.heap.size ≤ xb ∧ w.heap.size ≤ mb) := ⟨hxg, hmg⟩
  clear ht1 hB1 hx1 hm1 hxg hmg
  go_wp2_with fail
  go_loopw [8, 24] (fun e i wr => ∃ (j tbx : Nat) (Tx : Tr) (nex : Int) (enx : List En) (ks : List ByteArray), j ≤ l.length ∧ e = .int .i64 0 ∧ i = .int .i64 j ∧ Hid (DoI w1 xb bb vb tb mb nm T ne d j tbx Tx nex enx ks wr)) (fun _ i _ => l.length - (intOf i).toNat)
  case atStart => exact ⟨0, tb, _, _, _, _, Nat.zero_le _, rfl, rfl, HI1⟩
  case round =>
    obtain ⟨j, tbx, Tx, nex, enx, ks, hj, rfl, rfl, HI⟩ := hrel
    clear HI1
    by_cases hlt : j < l.length
    · obtain ⟨b, off, cs, rfl, hb0, c0', c1', c2', hsz⟩ := (HC1.out wr HI.out.tch) j hlt
      obtain ⟨k, hk⟩ : ∃ k, k = l[j].1 := ⟨_, rfl⟩
      obtain ⟨v, hv⟩ : ∃ v, v = l[j].2 := ⟨_, rfl⟩
      rw [← hk] at c1' hsz
      rw [← hv] at c2'
      clear hk hv
      have c0 : wr.cell? ⟨b, off + j * 3, none⟩ = some (.bool false) := by rw [cell_of_blk hb0]; exact c0'
      have c1 : wr.cell? ⟨b, off + j * 3 + 1, none⟩ = some (.string k) := by rw [cell_of_blk hb0]; exact c1'
      have c2 : wr.cell? ⟨b, off + j * 3 + 2, none⟩ = some (.int .i64 v) := by rw [cell_of_blk hb0]; exact c2'
      obtain ⟨w5, HW5⟩ : ∃ w5, Hid (w5 = wr.alloc (.cells #[.bool false, .string k, .int .i64 v] 57)) := ⟨_, rfl⟩
      have hb5 : Below wr.heap.size wr w5 := by rw [HW5.out]; exact (Below.refl _ _).alloc (Nat.le_refl _) _
      have q5 : w5.heap[wr.heap.size]? = some (.cells #[.bool false, .string k, .int .i64 v] 57) := by rw [HW5.out]; exact heap_alloc_new _ _
      have d0 : w5.cell? ⟨wr.heap.size, 0, none⟩ = some (.bool false) := by rw [cell_of_blk q5]; rfl
      have d1 : w5.cell? ⟨wr.heap.size, 1, none⟩ = some (.string k) := by rw [cell_of_blk q5]; rfl
      have d2 : w5.cell? ⟨wr.heap.size, 2, none⟩ = some (.int .i64 v) := by rw [cell_of_blk q5]; rfl
      have HI5 : Hid (DoI w1 xb bb vb tb mb nm T ne d j tbx Tx nex enx ks w5) := HI.out.below hb5
      obtain ⟨es, cl, hm5⟩ := HI5.out.map
      have HSE := set_calls xb bb tbx mb cl es Tx nex (d + j) enx ks k v _ w5 HI5.out.txn HI5.out.base.blk hm5 HI5.out.own hsz (by omega)
      have HM5 : Hid (MapAt w5 mb es cl ks ∧ k.size ≤ 140737488351296) := ⟨hm5, hsz⟩
      clear hb5 q5 hm5 hsz HI hb0 c0' c1' c2'
      go_wp2_with fail
      rw [← HW5.out]
      clear HW5 c0 c1 c2 d0 d1 d2
      refine HSE.mono ?_
      clear HSE
      rintro e w6 ⟨r1, r2, tb6, T6, ne6, es6, cl6, rfl, hx6, hm6, hH6, ht6, ha6⟩
      have HI6 : Hid (DoI w1 xb bb vb tb mb nm T ne d (j + 1) tb6 T6 ne6 (insE enx k v) (insK ks k) w6) := HI5.out.step HM5.out.2 hx6 hm6 hH6 ht6 ha6
      clear hx6 hm6 hH6 ht6 ha6 HI5 HM5
      go_wp2_with fail
      go_roundw
      case rel => exact ⟨j + 1, tb6, T6, _, _, _, by omega, rfl, by go_num, HI6⟩
      case measure => simp [intOf]; omega
    · have hjl : j = l.length := by omega
      subst hjl
      obtain ⟨es, cl, hmr⟩ := HI.out.map
      have hold : Held wr wr tb T ne (d + l.length) en := (HS.out.2.1.move HI.out.old).deeper (by omega)
      have hbw : B < w.heap.size := Nat.lt_of_le_of_lt hB (lt_of_heap HS.out.1.blk)
      have hbr : Below B w wr := ((HT1.out.toBelow (Nat.le_of_lt hbw) (by simpa using hB)).trans (HI.out.tch.toBelow (Nat.le_trans (Nat.le_of_lt hbw) HT1.out.size) (fun k hk => by have := HG.out; simp at hk; omega)))
      have hrs : B ≤ wr.heap.size := Nat.le_trans (Nat.le_of_lt hbw) hbr.size
      have HFI : Hid (∀ w9, BaseAt w9 bb vb tb nm false → Touched [bb, xb] wr w9 → ∃ vb' tb' T' ne' en', BaseAt w9 bb vb' tb' nm false ∧ Held w9 w9 tb' T' ne' (d + l.length) en' ∧ Above B T' ∧ Below B w w9) := fun w9 hB9 ht9 => by
        refine ⟨vb, tb, T, ne, en, hB9, hold.move (HI.out.old.offs (· ∈ [bb, xb]) (fun b hb hn => ht9.block b hb hn) (fun b hb => ?_)), HS.out.2.2.2, hbr.trans (ht9.toBelow hrs (fun k hk => by have := HG.out; simp at hk; omega))⟩
        simp at hb
        rcases hb with rfl | rfl
        · exact HI.out.offs.2.2.1
        · exact HI.out.offs.1
      cases cm with
      | false =>
        have HAB := abort_calls xb bb vb tb tbx mb nm wr HI.out.txn HI.out.base
        clear hmr hold hbw hbr hrs HI HT1 HC1 HS
        go_wp2_with fail
        refine HAB.mono ?_
        clear HAB
        rintro e w9 ⟨rfl, hB9, ht9⟩
        have HF : Hid (DoneP bb false l.length nm d B w w9) := by have := HFI.out w9 hB9 ht9; unfold DoneP; exact this
        clear hB9 ht9
        go_wp2
        go_ret
        exact ⟨rfl, HF.out⟩
      | true =>
        by_cases h0 : l.length = 0
        · have hks : ks = [] := by have := HI.out.klen; rw [h0] at this; exact List.length_eq_zero_iff.1 (by omega)
          subst hks
          have H0 : Hid (l.length = 0) := h0
          clear h0
          have HAB := commitIdle_calls xb bb vb tb tbx mb cl es nm wr HI.out.txn HI.out.base hmr
          clear hmr hold hbw hbr hrs HI HT1 HC1 HS
          go_wp2_with fail
          refine HAB.mono ?_
          clear HAB
          rintro e w9 ⟨rfl, hB9, ht9⟩
          have HF : Hid (DoneP bb true l.length nm d B w w9) := by have := HFI.out w9 hB9 ht9; unfold DoneP; show ∃ _, _; rw [H0.out] at this ⊢; exact this
          clear hB9 ht9
          go_wp2
          go_ret
          exact ⟨rfl, HF.out⟩
        · have hkl := HI.out.klen
          obtain ⟨way, hW⟩ := ways_of hold.good.wf hold.good.root hold.good.dep hd HI.out.kin (by omega)
          have HAB := commit_calls xb bb vb tb tbx mb cl es nm T ne ks way _ _ wr HI.out.txn HI.out.base hmr HI.out.old HI.out.own.good.tree.blk hW (HI.out.kpos (by omega)) (by omega) hnm
          have HFC : Hid (∀ w9 vb9, BaseAt w9 bb vb9 tbx (nm + 1) false → Frd (fun b => b = bb ∨ b = xb) wr w9 → Touched (bb :: xb :: both (waysOf way (sortK ks))) wr w9 → ∃ vb' tb' T' ne' en', BaseAt w9 bb vb' tb' (nm + 1) false ∧ Held w9 w9 tb' T' ne' (d + l.length) en' ∧ Above B T' ∧ Below B w w9) := fun w9 vb9 hB9 hf9 ht9 => by
            refine ⟨vb9, tbx, Tx, nex, enx, hB9, HI.out.own.move (HI.out.own.good.tree.frdO hf9 (fun b hb => hb.elim (fun e => e ▸ HI.out.offs.2.2.1) (fun e => e ▸ HI.out.offs.1))), HI.out.abv B (Nat.lt_of_lt_of_le hbw HT1.out.size) HS.out.2.2.2, hbr.trans (ht9.toBelow hrs (fun k hk => ?_))⟩
            have hg := HG.out
            rcases List.mem_cons.1 hk with rfl | hk
            · exact hB
            rcases List.mem_cons.1 hk with rfl | hk
            · omega
            · exact both_above (waysOf_above HS.out.2.2.2 hW.on) k hk
          obtain ⟨nw, hnw⟩ : ∃ nw, nw = (newly wr (waysOf way (sortK ks))).length := ⟨_, rfl⟩
          rw [← hnw] at HAB
          have H0 : Hid (¬ l.length = 0) := h0
          clear hmr hold hbw hbr hrs HI HT1 HC1 HS hW hnw hkl h0
          go_wp2_with fail
          refine HAB.mono ?_
          clear HAB
          rintro e w9 ⟨vb9, rfl, hB9, hf9, ht9, -⟩
          have HF : Hid (DoneP bb true l.length nm d B w w9) := by have := HFC.out w9 vb9 hB9 hf9 ht9; unfold DoneP; show ∃ _, _; rw [show (true && decide (0 < l.length)) = true from by simpa using Nat.pos_of_ne_zero H0.out]; exact this
          clear hB9 hf9 ht9
          go_wp2
          go_ret
          exact ⟨rfl, HF.out⟩
end Go.Proofs.YtpnmkfbdfggnaaaGreat
