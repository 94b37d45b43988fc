/- Layer 5 (txn): done: changes as one transaction. -/
import Derived.Test.YtdmhffbohnfdlaaGreatTIdle
import Derived.Test.YtdmhffbohnfdlaaGreatTDrop
namespace Go.Proofs.YtdmhffbohnfdlaaGreat
open Go.RowKit
open scoped Classical
set_option linter.unusedVariables false

/-- A change: is it a drop; its key; its value. -/
abbrev Ch := Bool × ByteArray × Int
/-- Changes lie one behind the other at the address: in memory older than B, or in a block of changes. -/
def ChAt (B : Nat) (w : World) (ao : Option Addr) (l : List Ch) : Prop :=
  ∀ i (h : i < l.length), ∃ b off, ao = some ⟨b, off, none⟩ ∧ (b < B ∨ ∃ cs, w.heap[b]? = some (.cells cs 57)) ∧ w.cell? ⟨b, off + i * 3, none⟩ = some (.bool l[i].1) ∧ w.cell? ⟨b, off + i * 3 + 1, none⟩ = some (.string l[i].2.1) ∧ w.cell? ⟨b, off + i * 3 + 2, none⟩ = some (.int .i64 l[i].2.2) ∧ l[i].2.1.size ≤ 140737488351296
theorem cell_like {w W : World} {a : Addr} (h : W.heap[a.block]? = w.heap[a.block]?) : W.cell? a = w.cell? a := by unfold World.cell?; rw [h]
theorem ChAt.kept {B : Nat} {w W : World} {ao : Option Addr} {l : List Ch} (h : ChAt B w ao l) (hk : ∀ b, b < w.heap.size → (b < B ∨ ∃ cs, w.heap[b]? = some (.cells cs 57)) → W.heap[b]? = w.heap[b]?) : ChAt B W ao l := fun i hi => by
  obtain ⟨b, off, h0, h1, c0, c1, c2, hs⟩ := h i hi
  have hb : W.heap[b]? = w.heap[b]? := hk b (World.block_lt_of_cell? w _ c0) h1
  exact ⟨b, off, h0, h1.imp_right fun ⟨cs, hc⟩ => ⟨cs, hb.trans hc⟩, (cell_like hb).trans c0, (cell_like hb).trans c1, (cell_like hb).trans c2, hs⟩
/-- What one change does to the entries and to the touched keys. -/
noncomputable def stepC (s : List En × List ByteArray) (c : Ch) : List En × List ByteArray :=
  if c.1 then (delE s.1 c.2.1, if c.2.1 ∈ keysOf s.1 then insK s.2 c.2.1 else s.2) else (insE s.1 c.2.1 c.2.2, insK s.2 c.2.1)
noncomputable def runC (en : List En) (l : List Ch) : List En × List ByteArray := l.foldl stepC (en, [])
theorem runC_take (en : List En) (l : List Ch) (j : Nat) (h : j < l.length) : runC en (l.take (j + 1)) = stepC (runC en (l.take j)) l[j] := by
  rw [List.take_succ_eq_append_getElem h]; unfold runC; rw [List.foldl_append]; rfl

/-- Within done. -/
structure DoI (w1 : World) (xb bb vb tb mb : Nat) (nm : Int) (T : Tr) (ne : Int) (d j tbx : Nat) (Tx : Tr) (nex : Int) (enx : List En) (ks : List ByteArray) (W : World) : Prop where
  txn : TxnAt W xb bb tbx mb
  base : BaseAt W bb vb tb nm true
  map : ∃ es cl, MapAt W mb es cl ks
  old : TreeAt W tb T ne
  own : Held W W tbx Tx nex (d + j) enx
  kin : ∀ k ∈ ks, k.size ≤ 140737488351296
  klen : ks.length ≤ j
  tch : Touched [xb, mb] w1 W
  abv : ∀ B, B < w1.heap.size → Above B T → Above B Tx
  mks : (marks Tx).length ≤ (marks T).length + 3 * j
theorem DoI.below {w1 W W' : World} {xb bb vb tb mb : Nat} {nm : Int} {T : Tr} {ne : Int} {d j tbx : Nat} {Tx : Tr} {nex : Int} {enx : List En} {ks : List ByteArray} (h : DoI w1 xb bb vb tb mb nm T ne d j tbx Tx nex enx ks W) (hb : Below W.heap.size W W') : DoI w1 xb bb vb tb mb nm T ne d j tbx Tx nex enx ks W' := by
  obtain ⟨es, cl, hm⟩ := h.map
  exact ⟨h.txn.below hb, h.base.below hb, ⟨es, cl, hm.below hb⟩, h.old.keep hb, h.own.move (h.own.good.tree.keep hb), h.kin, h.klen, h.tch.trans (Touched.ofBelow hb _), h.abv, h.mks⟩
theorem insK_len (ks : List ByteArray) (k : ByteArray) : (insK ks k).length ≤ ks.length + 1 ∧ 0 < (insK ks k).length ∧ ∀ x ∈ insK ks k, x ∈ ks ∨ x = k := by
  unfold insK
  split
  · rename_i h
    exact ⟨by omega, List.length_pos_of_mem h, fun x hx => .inl hx⟩
  · exact ⟨by simp, by simp, fun x hx => by simpa using hx⟩
theorem run_grows : ∀ (l : List Ch) (s : List En × List ByteArray), s.2 ≠ [] → (l.foldl stepC s).2 ≠ []
  | [], s, h => h
  | c :: l, s, h => by
    rw [List.foldl_cons]
    refine run_grows l _ ?_
    unfold stepC
    have h1 : insK s.2 c.2.1 ≠ [] := List.ne_nil_of_length_pos (insK_len s.2 c.2.1).2.1
    split
    · show (if _ then _ else _) ≠ _
      split
      · exact h1
      · exact h
    · exact h1
/-- Where no key was touched nothing has changed. -/
theorem run_idle (en : List En) (hs : SortedE en) : ∀ (l : List Ch), (l.foldl stepC (en, [])).2 = [] → (l.foldl stepC (en, [])).1 = en
  | [], _ => rfl
  | c :: l, h => by
    rw [List.foldl_cons] at h ⊢
    have h1 : insK [] c.2.1 ≠ [] := List.ne_nil_of_length_pos (insK_len [] c.2.1).2.1
    by_cases hc : c.1 = true
    · by_cases hk : c.2.1 ∈ keysOf en
      · exact absurd h (run_grows l _ (by unfold stepC; rw [if_pos hc]; show (if _ then _ else _) ≠ _; rw [if_pos hk]; exact h1))
      · have he : stepC (en, []) c = (en, []) := by unfold stepC; rw [if_pos hc]; show (_, if _ then _ else _) = _; rw [if_neg hk, delE_none hs hk]
        rw [he] at h ⊢
        exact run_idle en hs l h
    · exact absurd h (run_grows l _ (by unfold stepC; rw [if_neg hc]; exact h1))
/-- The ways of touched keys in a tree of that many watches. -/
theorem ways_of {T : Tr} {d : Nat} {ks : List ByteArray} (hw : WF T) (hr : T.p = kE) (hd : Dep (d + 1) T) (hm : (marks T).length + 4 < 4611686018427387904) (hk : ∀ k ∈ ks, k.size ≤ 140737488351296) (hl : ks.length ≤ 8796093022208) : ∃ way, WaysOk T (sortK ks) way (d + 1) := by
  have hway : ∀ k : ByteArray, ∃ l, Along k.data.toList T l ∧ l.length ≤ d + 1 := fun k => by
    obtain ⟨init, c, hA⟩ := along_split (k := k.data.toList) hw
    exact ⟨_, hA, hA.len hd⟩
  exact ⟨fun k => Classical.choose (hway k), hw, hr, fun k _ => (Classical.choose_spec (hway k)).1, fun k _ => (Classical.choose_spec (hway k)).2, fun k h => hk k (mem_sortK h), by rw [sortK_length]; omega, marks T, hm, waysOf_marks (fun k _ => (Classical.choose_spec (hway k)).1)⟩

theorem Held.deeper {w W : World} {tb : Nat} {T : Tr} {ne : Int} {d d' : Nat} {es : List En} (h : Held w W tb T ne d es) (hd : d ≤ d') : Held w W tb T ne d' es :=
  ⟨⟨h.good.below, h.good.tree, h.good.wf, h.good.root, h.good.dep.mono (by omega), h.good.lo, by have := h.good.hi; omega⟩, h.has, h.sorted, h.cnt⟩
theorem DoI.offs {w1 W : World} {xb bb vb tb mb : Nat} {nm : Int} {T : Tr} {ne : Int} {d j tbx : Nat} {Tx : Tr} {nex : Int} {enx : List En} {ks : List ByteArray} (h : DoI w1 xb bb vb tb mb nm T ne d j tbx Tx nex enx ks W) : Off W xb ∧ Off W mb ∧ Off W bb ∧ bb ≠ xb ∧ bb ≠ mb ∧ vb ≠ xb ∧ vb ≠ mb := by
  obtain ⟨es, cl, hm⟩ := h.map
  refine ⟨h.txn.off h.base.blk h.own.good.tree.blk, .inl ⟨_, _, hm.blk⟩, h.base.off, fun e => ?_, fun e => ?_, fun e => ?_, fun e => ?_⟩
  · have := h.base.blk; rw [e, h.txn.blk] at this; simp at this
  · have := h.base.blk; rw [e, hm.blk] at this; cases this
  · have := h.base.ver; rw [e, h.txn.blk] at this; simp at this
  · have := h.base.ver; rw [e, hm.blk] at this; cases this
theorem DoI.step {w1 W W' : World} {xb bb vb tb mb : Nat} {nm : Int} {T : Tr} {ne : Int} {d j tbx tbx' d' : Nat} {Tx Tx' : Tr} {nex nex' : Int} {enx enx' : List En} {ks ks' : List ByteArray} {k : ByteArray} {es' : Array MapEntry} {cl' : Nat} (h : DoI w1 xb bb vb tb mb nm T ne d j tbx Tx nex enx ks W) (hk : k.size ≤ 140737488351296) (hks : ks' = insK ks k ∨ ks' = ks) (hd : d' ≤ d + j + 1)
    (hx : TxnAt W' xb bb tbx' mb) (hm : MapAt W' mb es' cl' ks') (hH : Held W' W' tbx' Tx' nex' d' enx') (ht : Touched [xb, mb] W W') (ha : ∀ B, B < W.heap.size → Above B Tx → Above B Tx') (hmk : (marks Tx').length ≤ (marks Tx).length + 3) : DoI w1 xb bb vb tb mb nm T ne d (j + 1) tbx' Tx' nex' enx' ks' W' := by
  obtain ⟨o1, o2, o3, n1, n2, n3, n4⟩ := h.offs
  obtain ⟨i1, i2, i3⟩ := insK_len ks k
  have hkl := h.klen
  have hml := h.mks
  refine ⟨hx, ⟨(ht.block _ (lt_of_heap h.base.blk) (by simp [n1, n2])).trans h.base.blk, (ht.block _ (lt_of_heap h.base.ver) (by simp [n3, n4])).trans h.base.ver⟩, ⟨_, _, hm⟩, ?_, hH.deeper hd, fun x hx => ?_, ?_, h.tch.trans ht, fun B hB hA => ha B (Nat.lt_of_lt_of_le hB h.tch.size) (h.abv B hB hA), by omega⟩
  · exact h.old.offs (· ∈ [xb, mb]) (fun b hb hn => ht.block b hb hn) (fun b hb => by simp at hb; rcases hb with rfl | rfl; exact o1; exact o2)
  · rcases hks with rfl | rfl
    · rcases i3 x hx with h1 | rfl
      · exact h.kin x h1
      · exact hk
    · exact h.kin x hx
  · rcases hks with rfl | rfl
    · omega
    · omega

/-- What done leaves: the base, its tree, all within what is its own. -/
def DoneP (bb : Nat) (cm : Bool) (l : List Ch) (nm : Int) (d : Nat) (en : List En) (B : Nat) (w w' : World) : Prop :=
  ∃ vb' tb' T' ne', BaseAt w' bb vb' tb' (if cm && decide (0 < (runC en l).2.length) then nm + 1 else nm) false ∧ Held w' w' tb' T' ne' (d + l.length) (if cm then (runC en l).1 else en) ∧ Above B T' ∧ (marks T').length ≤ 1 + 3 * (d + l.length) ∧ Below B w w' ∧ Frd (fun b => b = bb) w w'

set_option maxRecDepth 100000 in
set_option maxHeartbeats 8000000 in
theorem done_calls (bb vb tb : Nat) (nm : Int) (T : Tr) (ne : Int) (d : Nat) (en : List En) (ao : Option Addr) (cap : Nat) (l : List Ch) (cm : Bool) (B : Nat) (w : World) (h : BaseAt w bb vb tb nm false) (hH : Held w w tb T ne d en) (hA : Above B T) (hM : (marks T).length ≤ 1 + 3 * d) (hB : B ≤ bb) (hl : ChAt B w ao l) (hn : l.length ≤ 8796093022208) (hd : d + l.length ≤ 17592186044416) (hnm : 0 ≤ nm ∧ nm < 18446744073709551615) :
    Calls Tryz.prog 17 #[.pointer (some ⟨bb, 0, none⟩), .slice ao l.length cap, .bool cm] w fun e w' => e = .returned (.bool true) ∧ DoneP bb cm l nm d en B w w' := by
  have HBE := begin_calls bb vb tb nm w h
  have HS : Hid (BaseAt w bb vb tb nm false ∧ Held w w tb T ne d en ∧ ChAt B w ao l ∧ Above B T) := ⟨h, hH, hl, hA⟩
  clear h hH hl hA
  go_enter Tryz.func17, Tryz.ntmps17
  go_wp2_with fail
  refine HBE.mono ?_
  clear HBE
  rintro e w1 ⟨xb, mb, rfl, ht1, hB1, hx1, hm1, hxg, hmg⟩
  have HT1 : Hid (Touched [bb] w w1) := ht1
  have HI1 : Hid (DoI w1 xb bb vb tb mb nm T ne d 0 tb T ne (runC en (l.take 0)).1 (runC en (l.take 0)).2 w1) := by
    have hT1 : TreeAt w1 tb T ne := HS.out.2.1.good.tree.offs (· ∈ [bb]) (fun b hb hn => ht1.block b hb hn) (fun k hk => by simp at hk; subst hk; exact HS.out.1.off)
    exact ⟨hx1, hB1, ⟨_, _, hm1, MapKept.stamped_empty 0, rfl, fun e he => by simp at he⟩, hT1, HS.out.2.1.move hT1, fun k hk => by simp [runC] at hk, Nat.le_refl _, Touched.refl _ _, fun B _ h => h, by omega⟩
  have HC1 : Hid (∀ W, Touched [xb, mb] w1 W → ChAt B W ao l) := fun W hW => HS.out.2.2.1.kept fun b hbl hb => by
    have hs1 := ht1.size
    have n1 : b ≠ bb := fun e => by
      rcases hb with hb | ⟨cs, hb⟩
      · omega
      · rw [e, HS.out.1.blk] at hb; simp at hb
    exact (hW.block b (by omega) (by simp; omega)).trans (ht1.block b hbl (by simpa using n1))
  have HG : Hid (w.heap.size ≤ xb ∧ w.heap.size ≤ mb) := ⟨hxg, hmg⟩
  have HO1 : Hid (Off w1 xb ∧ Off w1 mb) := ⟨HI1.out.offs.1, HI1.out.offs.2.1⟩
  clear ht1 hB1 hx1 hm1 hxg hmg
  go_wp2_with fail
  go_loopw [8, 24] (fun e i wr => ∃ (j tbx : Nat) (Tx : Tr) (nex : Int), j ≤ l.length ∧ e = .int .i64 0 ∧ i = .int .i64 j ∧ Hid (DoI w1 xb bb vb tb mb nm T ne d j tbx Tx nex (runC en (l.take j)).1 (runC en (l.take j)).2 wr)) (fun _ i _ => l.length - (intOf i).toNat)
  case atStart => exact ⟨0, tb, _, _, Nat.zero_le _, rfl, rfl, HI1⟩
  case round =>
    obtain ⟨j, tbx, Tx, nex, hj, rfl, rfl, HI⟩ := hrel
    clear HI1
    by_cases hlt : j < l.length
    · obtain ⟨b, off, rfl, -, c0, c1, c2, hsz⟩ := (HC1.out wr HI.out.tch) j hlt
      have HRT : Hid (runC en (l.take (j + 1)) = stepC (runC en (l.take j)) l[j]) := runC_take en l j hlt
      obtain ⟨⟨dr, k, v⟩, hc⟩ : ∃ c : Ch, c = l[j] := ⟨_, rfl⟩
      rw [← hc] at c0 c1 c2 hsz HRT
      clear hc
      simp only at c0 c1 c2 hsz
      obtain ⟨⟨enx, ks⟩, hrun⟩ : ∃ s, s = runC en (l.take j) := ⟨_, rfl⟩
      rw [← hrun] at HI HRT
      clear hrun
      obtain ⟨w5, HW5⟩ : ∃ w5, Hid (w5 = wr.alloc (.cells #[.bool dr, .string k, .int .i64 v] 57)) := ⟨_, rfl⟩
      have hb5 : Below wr.heap.size wr w5 := by rw [HW5.out]; exact (Below.refl _ _).alloc (Nat.le_refl _) _
      have q5 : w5.heap[wr.heap.size]? = some (.cells #[.bool dr, .string k, .int .i64 v] 57) := by rw [HW5.out]; exact heap_alloc_new _ _
      have d0 : w5.cell? ⟨wr.heap.size, 0, none⟩ = some (.bool dr) := by rw [cell_of_blk q5]; rfl
      have d1 : w5.cell? ⟨wr.heap.size, 1, none⟩ = some (.string k) := by rw [cell_of_blk q5]; rfl
      have d2 : w5.cell? ⟨wr.heap.size, 2, none⟩ = some (.int .i64 v) := by rw [cell_of_blk q5]; rfl
      have HI5 : Hid (DoI w1 xb bb vb tb mb nm T ne d j tbx Tx nex enx ks w5) := HI.out.below hb5
      obtain ⟨es, cl, hm5⟩ := HI5.out.map
      have HM5 : Hid (k.size ≤ 140737488351296) := hsz
      cases dr with
      | true =>
        have HDR := drop_calls xb bb tbx mb cl es Tx nex (d + j) enx ks k _ w5 HI5.out.txn HI5.out.base.blk hm5 HI5.out.own hsz (by omega)
        clear hb5 q5 hm5 hsz HI
        go_wp2_with fail
        rw [← HW5.out]
        clear HW5 c0 c1 c2 d0 d1 d2
        refine HDR.mono ?_
        clear HDR
        rintro e w6 ⟨r1, r2, rfl, tb6, T6, ne6, es6, cl6, hx6, hm6, hH6, ht6, ha6, hk6⟩
        have HI6 : Hid (DoI w1 xb bb vb tb mb nm T ne d (j + 1) tb6 T6 ne6 (runC en (l.take (j + 1))).1 (runC en (l.take (j + 1))).2 w6) := by
          show DoI _ _ _ _ _ _ _ _ _ _ _ _ _ _ _ _ _
          rw [HRT.out]
          unfold stepC
          rw [if_pos rfl]
          exact HI5.out.step HM5.out (by show (if _ then _ else _) = _ ∨ (if _ then _ else _) = _; split; exact .inl rfl; exact .inr rfl) (by omega) hx6 hm6 hH6 ht6 ha6 (by omega)
        clear hx6 hm6 hH6 ht6 ha6 hk6 HI5 HM5 HRT
        go_wp2_with fail
        go_roundw
        case rel => exact ⟨j + 1, tb6, T6, _, by omega, rfl, by go_num, HI6⟩
        case measure => simp [intOf]; omega
      | false =>
        have HSE := set_calls xb bb tbx mb cl es Tx nex (d + j) enx ks k v _ w5 HI5.out.txn HI5.out.base.blk hm5 HI5.out.own hsz (by omega)
        clear hb5 q5 hm5 hsz HI
        go_wp2_with fail
        rw [← HW5.out]
        clear HW5 c0 c1 c2 d0 d1 d2
        refine HSE.mono ?_
        clear HSE
        rintro e w6 ⟨r1, r2, tb6, T6, ne6, es6, cl6, rfl, hx6, hm6, hH6, ht6, ha6, hk6⟩
        have HI6 : Hid (DoI w1 xb bb vb tb mb nm T ne d (j + 1) tb6 T6 ne6 (runC en (l.take (j + 1))).1 (runC en (l.take (j + 1))).2 w6) := by
          show DoI _ _ _ _ _ _ _ _ _ _ _ _ _ _ _ _ _
          rw [HRT.out]
          unfold stepC
          rw [if_neg (by simp)]
          exact HI5.out.step HM5.out (.inl rfl) (Nat.le_refl _) hx6 hm6 hH6 ht6 ha6 hk6
        clear hx6 hm6 hH6 ht6 ha6 hk6 HI5 HM5 HRT
        go_wp2_with fail
        go_roundw
        case rel => exact ⟨j + 1, tb6, T6, _, by omega, rfl, by go_num, HI6⟩
        case measure => simp [intOf]; omega
    · have hjl : j = l.length := by omega
      subst hjl
      rw [List.take_length] at HI
      obtain ⟨es, cl, hmr⟩ := HI.out.map
      have hold : Held wr wr tb T ne (d + l.length) en := (HS.out.2.1.move HI.out.old).deeper (by omega)
      have hbw : B < w.heap.size := Nat.lt_of_le_of_lt hB (lt_of_heap HS.out.1.blk)
      have hbr : Below B w wr := ((HT1.out.toBelow (Nat.le_of_lt hbw) (by simpa using hB)).trans (HI.out.tch.toBelow (Nat.le_trans (Nat.le_of_lt hbw) HT1.out.size) (fun k hk => by have := HG.out; simp at hk; omega)))
      have hfr : Frd (fun b => b = bb) w wr := (HT1.out.frdO (fun k hk => by simp at hk; subst hk; exact HS.out.1.off)).trans (HI.out.tch.frdO (fun k hk => by simp at hk; rcases hk with rfl | rfl; exact HO1.out.1; exact HO1.out.2)) (fun i e => by simpa using e) (fun i hi e => by have := HG.out; simp at e; omega)
      have hrs : B ≤ wr.heap.size := Nat.le_trans (Nat.le_of_lt hbw) hbr.size
      have HFI : Hid (∀ w9, BaseAt w9 bb vb tb nm false → Touched [bb, xb] wr w9 → ∃ vb' tb' T' ne', BaseAt w9 bb vb' tb' nm false ∧ Held w9 w9 tb' T' ne' (d + l.length) en ∧ Above B T' ∧ (marks T').length ≤ 1 + 3 * (d + l.length) ∧ Below B w w9 ∧ Frd (fun b => b = bb) w w9) := fun w9 hB9 ht9 => by
        have hof : ∀ b, b ∈ [bb, xb] → Off wr b := fun b hb => by
          simp at hb
          rcases hb with rfl | rfl
          · exact HI.out.offs.2.2.1
          · exact HI.out.offs.1
        refine ⟨vb, tb, T, ne, hB9, hold.move (HI.out.old.offs (· ∈ [bb, xb]) (fun b hb hn => ht9.block b hb hn) hof), HS.out.2.2.2, by omega, hbr.trans (ht9.toBelow hrs (fun k hk => by have := HG.out; simp at hk; omega)), hfr.trans (ht9.frdO hof) (fun i e => e) (fun i hi e => by have := HG.out; simp at e; omega)⟩
      cases cm with
      | false =>
        have HAB := abort_calls xb bb vb tb tbx mb nm wr HI.out.txn HI.out.base
        clear hmr hold hbw hbr hfr hrs HI HT1 HC1 HO1 HS
        go_wp2_with fail
        refine HAB.mono ?_
        clear HAB
        rintro e w9 ⟨rfl, hB9, ht9⟩
        have HF : Hid (DoneP bb false l nm d en B w w9) := by have := HFI.out w9 hB9 ht9; unfold DoneP; exact this
        clear hB9 ht9
        go_wp2
        go_ret
        exact ⟨rfl, HF.out⟩
      | true =>
        obtain ⟨run, HR⟩ : ∃ r, Hid (r = runC en l) := ⟨_, rfl⟩
        rw [← HR.out] at HI hmr
        by_cases h0 : run.2 = []
        · have HAB := commitIdle_calls xb bb vb tb tbx mb cl es nm wr HI.out.txn HI.out.base (by rw [← h0]; exact hmr)
          have H0 : Hid (run.2 = [] ∧ SortedE en) := ⟨h0, hold.sorted⟩
          clear hmr hold hbw hbr hfr hrs HI HT1 HC1 HO1 HS h0
          go_wp2_with fail
          refine HAB.mono ?_
          clear HAB
          rintro e w9 ⟨rfl, hB9, ht9⟩
          have HF : Hid (DoneP bb true l nm d en B w w9) := by
            have h9 := HFI.out w9 hB9 ht9
            have h1 : (runC en l).2 = [] := by rw [← HR.out]; exact H0.out.1
            have h2 : (runC en l).1 = en := run_idle en H0.out.2 l h1
            unfold DoneP
            show ∃ _, _
            rw [h1, h2]
            exact h9
          clear hB9 ht9
          go_wp2
          go_ret
          exact ⟨rfl, HF.out⟩
        · have hkl := HI.out.klen
          have hml := HI.out.mks
          obtain ⟨way, hW⟩ := ways_of hold.good.wf hold.good.root hold.good.dep (by omega) HI.out.kin (by omega)
          have HAB := commit_calls xb bb vb tb tbx mb cl es nm T ne run.2 way _ _ wr HI.out.txn HI.out.base hmr HI.out.old HI.out.own.good.tree.blk hW (List.length_pos_iff.2 h0) (by omega) hnm
          have HFC : Hid (∀ w9 vb9, BaseAt w9 bb vb9 tbx (nm + 1) false → Frd (fun b => b = bb ∨ b = xb) wr w9 → Touched (bb :: xb :: both (waysOf way (sortK run.2))) wr w9 → ∃ vb' tb' T' ne', BaseAt w9 bb vb' tb' (nm + 1) false ∧ Held w9 w9 tb' T' ne' (d + l.length) run.1 ∧ Above B T' ∧ (marks T').length ≤ 1 + 3 * (d + l.length) ∧ Below B w w9 ∧ Frd (fun b => b = bb) w w9) := fun w9 vb9 hB9 hf9 ht9 => by
            refine ⟨vb9, tbx, Tx, nex, hB9, HI.out.own.move (HI.out.own.good.tree.frdO hf9 (fun b hb => hb.elim (fun e => e ▸ HI.out.offs.2.2.1) (fun e => e ▸ HI.out.offs.1))), HI.out.abv B (Nat.lt_of_lt_of_le hbw HT1.out.size) HS.out.2.2.2, by omega, hbr.trans (ht9.toBelow hrs (fun k hk => ?_)), hfr.trans hf9 (fun i e => e) (fun i hi e => by have := HG.out; omega)⟩
            have hg := HG.out
            rcases List.mem_cons.1 hk with rfl | hk
            · exact hB
            rcases List.mem_cons.1 hk with rfl | hk
            · omega
            · exact both_above (waysOf_above HS.out.2.2.2 hW.on) k hk
          obtain ⟨nw, hnw⟩ : ∃ nw, nw = (newly wr (waysOf way (sortK run.2))).length := ⟨_, rfl⟩
          rw [← hnw] at HAB
          have H0 : Hid (¬ run.2 = []) := h0
          clear hmr hold hbw hbr hfr hrs HI HT1 HC1 HO1 HS hW hnw hkl hml h0
          go_wp2_with fail
          refine HAB.mono ?_
          clear HAB
          rintro e w9 ⟨vb9, rfl, hB9, hf9, ht9, -⟩
          have HF : Hid (DoneP bb true l nm d en B w w9) := by
            have h9 := HFC.out w9 vb9 hB9 hf9 ht9
            unfold DoneP
            show ∃ _, _
            rw [← HR.out, show (true && decide (0 < run.2.length)) = true from by simpa using List.length_pos_iff.2 H0.out]
            exact h9
          clear hB9 hf9 ht9
          go_wp2
          go_ret
          exact ⟨rfl, HF.out⟩
end Go.Proofs.YtdmhffbohnfdlaaGreat
