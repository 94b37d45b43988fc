/- Layer 5 (txn): Touched: the touched keys, sorted. -/
import Derived.Test.YtdmhffbohnfdlaaGreatRwSortS
import Derived.Test.YtdmhffbohnfdlaaGreatRTree
import Derived.Maps.RangeRun
import Derived.Laws.MakeOwn
namespace Go.Proofs.YtdmhffbohnfdlaaGreat
open Go.RowKit Go.MapKept
open Go.ChangeMaps (setBlock)
open scoped Classical
set_option linter.unusedVariables false

theorem infoStr : (Tryz.prog.info? 9).map (fun i => (i.zero, i.size, i.bytes)) = some (some (.string ⟨#[]⟩), 1, 16) := by kernel_rfl

theorem sorted_same {a b : List (List UInt8)} (h : a.Perm b) : (a.mergeSort fun x y => decide (x ≤ y)) = (b.mergeSort fun x y => decide (x ≤ y)) := by
  have tr : ∀ x y z : List UInt8, decide (x ≤ y) = true → decide (y ≤ z) = true → decide (x ≤ z) = true := fun x y z h1 h2 => decide_eq_true (List.le_trans (of_decide_eq_true h1) (of_decide_eq_true h2))
  have tot : ∀ x y : List UInt8, (decide (x ≤ y) || decide (y ≤ x)) = true := fun x y => by
    rcases List.le_total x y with h | h <;> simp [h]
  refine List.Perm.eq_of_pairwise (fun x y _ _ h1 h2 => List.le_antisymm (of_decide_eq_true h1) (of_decide_eq_true h2)) (List.pairwise_mergeSort tr tot a) (List.pairwise_mergeSort tr tot b) ?_
  exact (List.mergeSort_perm _ _).trans (h.trans (List.mergeSort_perm _ _).symm)

/-- The loop over the map: what has come. -/
structure ToI (w : World) (mb r clock : Nat) (es : Array MapEntry) (don : List MapEntry) (c0 : Nat) (v : Value) (W : World) : Prop where
  below : Below w.heap.size w W
  map : W.heap[mb]? = some (.map es clock)
  it : W.heap[r]? = some (.mapIter (some mb) clock (don.map (·.born)).toArray c0)
  sc : clock ≤ c0
  own : OwnV W w.heap.size 9 v (don.map (·.key))
  nd : (don.map (·.born)).Nodup
  sub : ∀ e ∈ don, e ∈ es.toList
  rge : w.heap.size ≤ r
  cnt : (Go.leftOf es (don.map (·.born)).toArray).size + don.length ≤ es.size
theorem ToI.seen {w : World} {mb r clock : Nat} {es : Array MapEntry} {don : List MapEntry} {c0 : Nat} {v : Value} {W : World} (h : ToI w mb r clock es don c0 v W) : W.iterSeen r = (don.map (·.born)).toArray := by
  unfold World.iterSeen
  rw [h.it]
theorem left_less {es : Array MapEntry} {don : List MapEntry} {e : MapEntry} (he : e ∈ (Go.leftOf es (don.map (·.born)).toArray).toList) : (Go.leftOf es ((don ++ [e]).map (·.born)).toArray).size < (Go.leftOf es (don.map (·.born)).toArray).size := by
  unfold Go.leftOf at he ⊢
  rw [Array.toList_filter, List.mem_filter] at he
  have := filter_lt (fun x : MapEntry => !(don.map (·.born)).toArray.contains x.born) (fun x : MapEntry => !((don ++ [e]).map (·.born)).toArray.contains x.born) (fun x hx => by
    simp at hx ⊢
    exact hx.1) e (by simpa using he.2) (by simp) es.toList he.1
  have e1 : ∀ p : MapEntry → Bool, (Array.filter p es).size = (List.filter p es.toList).length := fun p => by rw [← Array.length_toList, Array.toList_filter]
  rw [e1, e1]
  exact this
/-- All has come. -/
theorem ToI.all {w : World} {mb r clock : Nat} {es : Array MapEntry} {don : List MapEntry} {c0 : Nat} {v : Value} {W : World} (h : ToI w mb r clock es don c0 v W) (hs : Stamped es clock) (h0 : (Go.leftOf es (don.map (·.born)).toArray).size = 0) : don.Perm es.toList := by
  have inj : ∀ {l : List MapEntry}, (l.map (·.born)).Nodup → l.Nodup := fun {l} hl => by
    rw [List.Nodup, List.pairwise_map] at hl
    exact hl.imp fun h e => h (by rw [e])
  refine (List.perm_ext_iff_of_nodup (inj h.nd) (inj hs.2.1)).2 fun e => ⟨h.sub e, fun he => ?_⟩
  have : e ∉ (Go.leftOf es (don.map (·.born)).toArray).toList := by
    have : (Go.leftOf es (don.map (·.born)).toArray).toList = [] := List.eq_nil_of_length_eq_zero (by rw [Array.length_toList]; exact h0)
    rw [this]; simp
  unfold Go.leftOf at this
  rw [Array.toList_filter, List.mem_filter] at this
  have hb : e.born ∈ don.map (·.born) := by
    refine Classical.byContradiction fun hc => this ⟨he, ?_⟩
    simpa using hc
  obtain ⟨e', h1, h2⟩ := List.mem_map.1 hb
  have hp := hs.2.1
  rw [List.Nodup, List.pairwise_map] at hp
  have : e' = e := by
    refine Classical.byContradiction fun hne => ?_
    have hsub := h.sub e' h1
    obtain ⟨i, hi, rfl⟩ := List.getElem_of_mem hsub
    obtain ⟨j, hj, rfl⟩ := List.getElem_of_mem he
    rcases Nat.lt_trichotomy i j with hij | hij | hij
    · exact List.pairwise_iff_getElem.1 hp i j hi hj hij h2
    · subst hij; exact hne rfl
    · exact List.pairwise_iff_getElem.1 hp j i hj hi hij h2.symm
  rw [← this]; exact h1
/-- One more has come. -/
theorem ToI.more {w : World} {mb r clock : Nat} {es : Array MapEntry} {don : List MapEntry} {c0 : Nat} {v v' : Value} {W W2 W3 : World} {e : MapEntry} (h : ToI w mb r clock es don c0 v W) (hs : Stamped es clock) (he : e ∈ (Go.leftOf es (don.map (·.born)).toArray).toList)
    (ht : Touched [r] W W2) (hi : W2.heap[r]? = some (.mapIter (some mb) clock ((don ++ [e]).map (·.born)).toArray clock)) (ho : OwnV W3 w.heap.size 9 v' (don.map (·.key) ++ [e.key])) (hg : Grew W2 W3 v v') : ToI w mb r clock es (don ++ [e]) clock v' W3 := by
  have hown2 : OwnV W2 w.heap.size 9 v (don.map (·.key)) := h.own.touched ht fun k hk hm => by
    simp at hm
    subst hm
    obtain ⟨cs, hc⟩ := h.own.typed _ hk
    rw [h.it] at hc
    cases hc
  have keep : ∀ {b : Nat} {o : Obj}, W2.heap[b]? = some o → o.isCells = false → W3.heap[b]? = some o := fun {b o} hb hc => by
    refine (hg.grown.block b (lt_of_heap hb) (fun e' => ?_)).trans hb
    obtain ⟨cs, hk⟩ := hown2.typed b e'.symm
    rw [hb] at hk
    cases hk
    cases hc
  have hne : mb ≠ r := fun e' => by have := h.it; rw [← e', h.map] at this; cases this
  have hm2 := (ht.block mb (lt_of_heap h.map) (by simpa using hne)).trans h.map
  have hb2 : Below w.heap.size W W2 := ht.toBelow h.below.size (by simpa using h.rge)
  have hless := left_less he
  unfold Go.leftOf at he
  rw [Array.toList_filter, List.mem_filter] at he
  refine ⟨(h.below.trans hb2).trans (hg.toBelow (Nat.le_trans h.below.size ht.size) fun k hk => (hown2.lt k hk).1), keep hm2 rfl, keep hi rfl, Nat.le_refl _, by rw [List.map_append]; exact ho, ?_, ?_, h.rge, ?_⟩
  · rw [List.map_append, List.nodup_append]
    refine ⟨h.nd, by simp, fun a ha b hb => ?_⟩
    simp at hb
    subst hb
    intro e'
    subst e'
    have := he.2
    simp at this
    obtain ⟨x, hx, hxe⟩ := List.mem_map.1 ha
    exact this x hx hxe
  · intro x hx
    rcases List.mem_append.1 hx with hx | hx
    · exact h.sub x hx
    · simp at hx; subst hx; exact he.1
  · have := h.cnt
    simp only [List.length_append, List.length_cons, List.length_nil]
    omega

set_option maxRecDepth 100000 in
set_option maxHeartbeats 4000000 in
theorem touched_calls (xb bb tb mb clock : Nat) (es : Array MapEntry) (ks : List ByteArray) (w : World) (hx : TxnAt w xb bb tb mb) (hm : MapAt w mb es clock ks) (hl : ks.length ≤ 8796093022208) :
    Calls Tryz.prog 44 #[.pointer (some ⟨xb, 0, none⟩)] w fun e w' => ∃ (g cap : Nat) (ss : List (List UInt8)), e = .returned (.slice (some ⟨g, 0, none⟩) ss.length cap) ∧ ss = ((ks.map (·.data.toList)).mergeSort fun x y => decide (x ≤ y)) ∧
      w'.ownsRow w.heap.size 9 1 (.slice (some ⟨g, 0, none⟩) ss.length cap) ss.length (ss.map encS) ∧ Below w.heap.size w w' := by
  have c2 : w.cell? ⟨xb, 2, none⟩ = some (.map (some mb)) := by rw [cell_of_blk hx.blk]; rfl
  have hes : es.size = ks.length := by have := congrArg List.length hm.keys; simpa using this
  have hln : (Builtin.len_ #[103] 3 #[.map (some mb)]).run Tryz.prog w = .ok (.int .i64 (ks.length : Int)) w := by
    simp [Builtin.len_, MapKept.run_getObj_map hm.blk, hes, go_sem]
  obtain ⟨i0, hi, hz0, hz1, hz2⟩ := infoOf infoStr
  obtain ⟨w1, hmake, ho1, hg1⟩ := run_make_own (P := Tryz.prog) w w.heap.size 26 9 i0 _ 1 Tryz.underlying26 hi hz0 hz1 .i64 .i64 ks.length (by rw [hz2]; omega) (by unfold maxLen; omega) (Nat.le_refl _)
  have hb1 : Below w.heap.size w w1 := ⟨hg1.os, hg1.tape, hg1.output, hg1.size, fun k hk => hg1.block k hk (by simp)⟩
  have hx1 := hx.below hb1
  have d2 : w1.cell? ⟨xb, 2, none⟩ = some (.map (some mb)) := by rw [cell_of_blk hx1.blk]; rfl
  have hm1 := hm.below hb1
  have hrg := run_range_map (P := Tryz.prog) w1 103 _ _ mb es clock Tryz.underlying103 hm1.blk
  obtain ⟨w2, HW2⟩ : ∃ w2, Hid (w2 = w1.alloc (.mapIter (some mb) clock #[] clock)) := ⟨_, rfl⟩
  have hb2 : Below w1.heap.size w1 w2 := by rw [HW2.out]; exact (Below.refl _ _).alloc (Nat.le_refl _) _
  have it2 : w2.heap[w1.heap.size]? = some (.mapIter (some mb) clock #[] clock) := by rw [HW2.out]; exact heap_alloc_new _ _
  have HI2 : Hid (ToI w mb w1.heap.size clock es [] clock (.slice (some ⟨w.heap.size, 0, none⟩) 0 ks.length) w2) := ⟨hb1.trans (hb2.mono hb1.size), (hm1.below hb2).blk, it2, Nat.le_refl _, World.ownsRow.kept (row := none) ho1 ⟨hb2.os, hb2.tape, hb2.output, hb2.size, fun k hk _ => hb2.block k hk⟩ (.inr (by simp [Value.ownBlock])), by simp, by simp, hb1.size, by unfold Go.leftOf; exact Nat.le_trans (Nat.le_of_eq (by simp)) (Array.size_filter_le (p := fun e => !(#[] : Array Nat).contains e.born) (xs := es))⟩
  have HM : Hid (MapAt w mb es clock ks) := hm
  have HES : Hid (es.size = ks.length) := hes
  obtain ⟨r, hr⟩ : ∃ r, r = w1.heap.size := ⟨_, rfl⟩
  rw [← hr] at HI2 hrg
  clear hb1 hx1 hm1 hb2 it2 hx hm hes hg1 ho1 hi hz0 hz1 hz2 hr
  go_enter Tryz.func44, Tryz.ntmps44
  go_wp2
  rw [← HW2.out]
  clear HW2 hrg hmake hln c2 d2
  go_loopw [3] (fun x3 wr => ∃ (don : List MapEntry) (g cap c0 : Nat), x3 = .slice (some ⟨g, 0, none⟩) don.length cap ∧ Hid (ToI w mb r clock es don c0 (.slice (some ⟨g, 0, none⟩) don.length cap) wr)) (fun _ wr => (Go.leftOf es (wr.iterSeen r)).size)
  case atStart => exact ⟨[], _, _, _, rfl, HI2⟩
  case round =>
    obtain ⟨don, g, cap, c0, rfl, HI⟩ := hrel
    clear HI2
    rcases run_next_at (P := Tryz.prog) wr 0 r mb clock c0 _ es clock HI.out.it HI.out.map HM.out.st.1 HI.out.sc with ⟨h0, hnx⟩ | ⟨e, he, w4, hw4, hnx⟩
    · have hperm := HI.out.all HM.out.st h0
      have hkp : (don.map (·.key)).Perm (ks.map Value.string) := by rw [← HM.out.keys]; exact hperm.map _
      have hdl : don.length = ks.length := by have := hperm.length_eq; simpa [HES.out] using this
      -- the keys that have come, as texts
      obtain ⟨cs, hcs, hcp⟩ : ∃ cs : List (List UInt8), don.map (·.key) = cs.map encS ∧ cs.Perm (ks.map (·.data.toList)) := by
        refine ⟨don.map (fun e => match e.key with | .string k => k.data.toList | _ => []), ?_, ?_⟩
        · rw [List.map_map]
          refine List.map_congr_left fun e he => ?_
          have : e.key ∈ ks.map Value.string := hkp.subset (List.mem_map.2 ⟨e, he, rfl⟩)
          obtain ⟨k, -, hk⟩ := List.mem_map.1 this
          show e.key = encS (match e.key with | .string k => k.data.toList | _ => [])
          rw [← hk]
        · have := hkp.map (fun v : Value => match v with | .string k => k.data.toList | _ => ([] : List UInt8))
          rw [List.map_map, List.map_map] at this
          exact this
      have hcl : cs.length = don.length := by have := congrArg List.length hcs; simpa using this.symm
      have hown := HI.out.own
      unfold OwnV at hown
      rw [hcs, List.length_map, ← hcl] at hown
      have HSO := sort_calls g cap w.heap.size cs wr (by omega) hown
      have HB : Hid (Below w.heap.size w wr) := HI.out.below
      have HLT : Hid (∀ k, (Value.slice (some ⟨g, 0, none⟩) cs.length cap).ownBlock = some k → w.heap.size ≤ k) := fun k hk => (World.ownsRow.lt hown k hk).1
      have HCP : Hid (cs.Perm (ks.map (·.data.toList))) := hcp
      rw [← hcl]
      clear hown hcs hcl hdl hkp hperm hcp HI
      go_wp2_with fail
      refine HSO.mono ?_
      clear HSO
      rintro e w5 ⟨rfl, ho5, hg5⟩
      have HF : Hid (∃ (g' cap' : Nat) (ss : List (List UInt8)), Value.slice (some ⟨g, 0, none⟩) cs.length cap = .slice (some ⟨g', 0, none⟩) ss.length cap' ∧ ss = ((ks.map (·.data.toList)).mergeSort fun x y => decide (x ≤ y)) ∧ w5.ownsRow w.heap.size 9 1 (.slice (some ⟨g', 0, none⟩) ss.length cap') ss.length (ss.map encS) ∧ Below w.heap.size w w5) := by
        have hss : (cs.mergeSort fun x y => decide (x ≤ y)) = ((ks.map (·.data.toList)).mergeSort fun x y => decide (x ≤ y)) := sorted_same HCP.out
        have hl5 : (cs.mergeSort fun x y => decide (x ≤ y)).length = cs.length := (List.mergeSort_perm _ _).length_eq
        refine ⟨g, cap, _, by rw [hl5], hss, ?_, HB.out.trans (hg5.toBelow HB.out.size HLT.out)⟩
        rw [hl5]; exact ho5
      clear ho5 hg5 HCP HLT HB
      go_wp2
      go_ret
      obtain ⟨g', cap', ss, h1, h2, h3, h4⟩ := HF.out
      exact ⟨g', cap', ss, congrArg Ending.returned h1, h2, h3, h4⟩
    · have hek : ∃ k, e.key = .string k := by
        have h1 : e ∈ es.toList := by
          unfold Go.leftOf at he
          rw [Array.toList_filter, List.mem_filter] at he
          exact he.1
        have : e.key ∈ ks.map Value.string := by rw [← HM.out.keys]; exact List.mem_map.2 ⟨e, h1, rfl⟩
        obtain ⟨k, -, hk⟩ := List.mem_map.1 this
        exact ⟨k, hk.symm⟩
      obtain ⟨k, hk⟩ := hek
      have hmem : e ∈ es.toList := by
        unfold Go.leftOf at he
        rw [Array.toList_filter, List.mem_filter] at he
        exact he.1
      obtain ⟨W2, HW2⟩ : ∃ W2, Hid (W2 = setBlock w4 r (.mapIter (some mb) clock ((don.map (·.born)).toArray.push e.born) clock)) := ⟨_, rfl⟩
      rw [← HW2.out] at hnx
      have h4 : w4.heap = wr.heap ∧ w4.os = wr.os ∧ w4.tape = wr.tape ∧ w4.output = wr.output := by rcases hw4 with rfl | rfl <;> exact ⟨rfl, rfl, rfl, rfl⟩
      have hrl := lt_of_heap HI.out.it
      have ht2 : Touched [r] wr W2 := by
        rw [HW2.out]
        refine ⟨h4.2.1, h4.2.2.1, h4.2.2.2, by simp [setBlock, h4.1], fun b hb hne => ?_⟩
        show (w4.heap.setIfInBounds r _)[b]? = _
        rw [h4.1, Array.getElem?_setIfInBounds_ne (by simp at hne; exact Ne.symm hne)]
      have hi2 : W2.heap[r]? = some (.mapIter (some mb) clock ((don ++ [e]).map (·.born)).toArray clock) := by
        rw [HW2.out]
        show (w4.heap.setIfInBounds r _)[r]? = _
        rw [h4.1, Array.getElem?_setIfInBounds_self_of_lt hrl]
        simp
      have hne : mb ≠ r := fun e' => by have := HI.out.it; rw [← e', HI.out.map] at this; cases this
      have hm2 := (ht2.block mb (lt_of_heap HI.out.map) (by simpa using hne)).trans HI.out.map
      have hen := run_entry_at (P := Tryz.prog) W2 r mb clock (don.map (·.born)).toArray es clock e (by rw [hi2]; simp) hm2 hmem HM.out.st.2.1
      have hown : OwnV W2 w.heap.size 9 (.slice (some ⟨g, 0, none⟩) don.length cap) (don.map (·.key)) := HI.out.own.touched ht2 fun k hk hm => by
        simp at hm
        subst hm
        obtain ⟨cs, hc⟩ := HI.out.own.typed _ hk
        rw [HI.out.it] at hc
        cases hc
      have hdl : don.length < ks.length := by
        have h1 := left_less he
        have h2 := HI.out.cnt
        have h3 := HES.out
        omega
      have hkl : (don.map (·.key)).length = don.length := by simp
      have HK : Hid (e.key = .string k) := hk
      have HT : Hid (Touched [r] wr W2 ∧ W2.heap[r]? = some (.mapIter (some mb) clock ((don ++ [e]).map (·.born)).toArray clock)) := ⟨ht2, hi2⟩
      have HE : Hid (e ∈ (Go.leftOf es (don.map (·.born)).toArray).toList) := he
      have HB2 : w.heap.size ≤ W2.heap.size := Nat.le_trans HI.out.below.size ht2.size
      rw [hk] at hnx hen
      clear hk hmem HW2 h4 hrl ht2 hi2 hne hm2 hw4 he
      go_wp2_with (at_builtin; refine append_val _ rfl (.tmp 20) (.tmp 22) 26 9 (.string ⟨#[]⟩) 16 Tryz.underlying26 infoStr rfl rfl w.heap.size (.slice (some ⟨g, 0, none⟩) don.length cap) (don.map (·.key)) rfl (.string k) rfl _ rfl (by simp) hown (by rw [hkl]; omega) (by rw [hkl]; omega) HB2 ?_)
      intro x3 w5 ho5 hg5
      rw [← HK.out] at ho5
      obtain ⟨ao5, cap5, hx5⟩ := ho5.shape
      subst hx5
      have hlen5 : (don.map (·.key) ++ [e.key]).length = (don ++ [e]).length := by simp
      rw [hlen5] at ho5 hg5 ⊢
      have HM5 := HI.out.more HM.out.st HE.out HT.out.1 HT.out.2 ho5 hg5
      obtain ⟨g5, hg5', -⟩ := ho5.at 0 (by simp)
      subst hg5'
      have HI5 : Hid (ToI w mb r clock es (don ++ [e]) clock (.slice (some ⟨g5, 0, none⟩) (don ++ [e]).length cap5) w5) := HM5
      have HS : Hid (wr.iterSeen r = (don.map (·.born)).toArray ∧ w5.iterSeen r = ((don ++ [e]).map (·.born)).toArray) := ⟨HI.out.seen, HM5.seen⟩
      clear HM5 ho5 hg5 hown hnx hen hlen5
      go_wp2
      go_roundw
      case rel => exact ⟨don ++ [e], g5, cap5, clock, rfl, HI5⟩
      case measure =>
        rw [HS.out.1, HS.out.2]
        exact left_less HE.out
end Go.Proofs.YtdmhffbohnfdlaaGreat
