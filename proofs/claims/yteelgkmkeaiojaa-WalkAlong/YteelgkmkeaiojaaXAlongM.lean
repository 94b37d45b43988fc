import Derived.Test.YteelgkmkeaiojaaXIdx
import Derived.Test.YteelgkmkeaiojaaXUnder
import Derived.Test.YteelgkmkeaiojaaXAlongW
import Derived.Test.YteelgkmkeaiojaaRLong
/- The document's Under over sorted lists. -/
namespace Go.Proofs.Yteelgkmkeaiojaa
open Go.RowKit
set_option linter.unusedVariables false

theorem starts_beg (s p : List UInt8) : startsB s p = begB s p := by
  unfold startsB
  by_cases h : p.length ≤ s.length
  · rw [decide_eq_true h, Bool.true_and, begB_take s p h]
  · rw [decide_eq_false h, Bool.false_and, begB_long s p h]

set_option maxRecDepth 100000 in
set_option maxHeartbeats 1600000 in
theorem refUnder_calls (d : Dv) (es : List En) (ps : List ByteArray) (lo : ByteArray) (w : World) (hd : DocAt w d es ps) (hlo : lo.size ≤ 140737488351232) (hl : es.length ≤ 5864062014650) :
    Calls Try.prog 16 #[.agg (d.cells es.length ps.length), .string lo] w fun e w' => ∃ x : Sv, e = .returned (.slice x.ao (idxTo (beg lo) es es.length).length x.cap) ∧ x.vs = natV (idxTo (beg lo) es es.length) ∧ x.At w' ∧ Below w.heap.size w w' := by
  obtain ⟨w2, HW2⟩ : ∃ w2, Hid (w2 = (w.alloc (.cells (d.cells es.length ps.length) 28)).alloc (.cells #[] 3)) := ⟨_, rfl⟩
  have hs2 : w2.heap.size = w.heap.size + 2 := by rw [HW2.out]; simp [World.size_alloc]
  have e1 : (w.alloc (.cells (d.cells es.length ps.length) 28)).heap.size = w.heap.size + 1 := by simp [World.size_alloc]
  have q0 : w2.heap[w.heap.size]? = some (.cells (d.cells es.length ps.length) 28) := by
    rw [HW2.out, Below.heap_alloc _ _ _ (by omega)]; exact heap_alloc_new _ _
  have HI0 : Hid (IdI w (d.cells es.length ps.length) (idxTo (beg lo) es 0) (some ⟨w.heap.size + 1, 0, none⟩) 0 0 w2) := by
    have hM := OwnV.made (w.alloc (.cells (d.cells es.length ps.length) 28)) 3 [] (by decide)
    rw [e1] at hM
    refine ⟨by rw [HW2.out]; exact ((Below.refl _ w).alloc (Nat.le_refl _) _).alloc (by omega) _, q0, ?_⟩
    rw [HW2.out]; exact OwnV.mono (B' := w.heap.size) hM (by omega)
  have k0 : (((w.alloc (.cells (d.cells es.length ps.length) 28)).alloc (.cells #[] 3))).cell? ⟨w.heap.size, 0, none⟩ = some (.slice d.k.ao es.length d.k.cap) := by rw [← HW2.out, cell_of_blk q0]; rfl
  have HX : Hid (∀ i (hi : i < es.length), ∃ b off, d.k.ao = some ⟨b, off, none⟩ ∧ w.cell? ⟨b, off + i, none⟩ = some (.string es[i].1)) := fun i hi => by
    obtain ⟨b, off, h1, h2⟩ := hd.k.str hd.kk i (by rw [keysOf_len]; exact hi)
    exact ⟨b, off, h1, by rw [h2]; simp [keysOf]⟩
  have HZ : Hid (∀ i (hi : i < es.length), es[i].1.size ≤ 140737488351232) := fun i hi => hd.ksz _ (List.mem_map.2 ⟨_, List.getElem_mem hi, rfl⟩)
  clear hd q0
  obtain ⟨tc, htc⟩ : ∃ tc, tc = d.cells es.length ps.length := ⟨_, rfl⟩
  have HTC : Hid (tc = d.cells es.length ps.length) := htc
  rw [← htc] at HI0 HW2 k0 e1
  have htc' : tc = #[.slice d.k.ao es.length d.k.cap, .slice d.v.ao es.length d.v.cap, .slice d.l.ao es.length d.l.cap, .slice d.p.ao ps.length d.p.cap, .slice d.m.ao ps.length d.m.cap] := htc
  rw [htc'] at HW2 k0
  unfold Dv.cells
  clear htc htc' e1
  go_enter Try.func16, Try.ntmps16
  go_wp2_with fail
  rw [← HW2.out]
  clear HW2 k0
  obtain ⟨⟨ka, kc, kv⟩, dv, dl, dp, dm⟩ := d
  dsimp only at HX ⊢
  go_loopw [5, 12] (fun o i wr => ∃ (j : Nat) (ao : Option Addr) (n cap : Nat), j ≤ es.length ∧ i = .int .i64 j ∧ o = .slice ao n cap ∧ Hid (IdI w tc (idxTo (beg lo) es j) ao n cap wr)) (fun _ i _ => es.length - (intOf i).toNat)
  case atStart => exact ⟨0, _, _, _, Nat.zero_le _, rfl, rfl, HI0⟩
  case round =>
    obtain ⟨j, ao, n, cap, hj, rfl, rfl, HI⟩ := hrel
    clear HI0
    by_cases hlt : j < es.length
    · obtain ⟨b, off, rfl, hc⟩ := HX.out j hlt
      have hcw : wr.cell? ⟨b, off + j, none⟩ = some (.string es[j].1) := by rw [HI.out.below.cell (World.block_lt_of_cell? w _ hc)]; exact hc
      have hz := HZ.out j hlt
      have HL := starts_calls es[j].1 lo wr (by omega) (by omega)
      rw [starts_beg] at HL
      have HSN : Hid (idxTo (beg lo) es (j + 1) = idxTo (beg lo) es j ++ (if beg lo es[j] then [j] else [])) := idxTo_succ _ es j hlt
      have hil := idxTo_len (beg lo) es j
      clear hc
      go_wp2_with fail
      refine HL.mono ?_
      clear HL
      rintro e w3 ⟨rfl, hw3⟩
      have HI3 : Hid (IdI w tc (idxTo (beg lo) es j) ao n cap w3) := HI.out.keep (by rw [hw3]; exact Below.refl _ _)
      have hbs := HI3.out.below.size
      clear hw3 hcw HI
      by_cases hL : beg lo es[j] = true
      · rw [show begB es[j].1.data.toList lo.data.toList = true from hL]
        go_wp2_with (at_builtin; refine append_val w3 rfl (.tmp 20) (.tmp 22) 26 3 (.int .i64 0) 8 Try.underlying26 infoI rfl rfl w.heap.size _ _ rfl (.int .i64 (j : Int)) rfl _ rfl (by first | rfl | simp) HI3.out.own (by rw [natV_length]; omega) (by rw [natV_length]; omega) hbs ?_)
        intro v4 w4 ho4 hg4
        obtain ⟨ao4, cap4, hv4⟩ := ho4.shape
        obtain ⟨n4, hn4⟩ : ∃ n4, n4 = (natV (idxTo (beg lo) es j) ++ [Value.int .i64 (j : Int)]).length := ⟨_, rfl⟩
        rw [← hn4] at hv4
        subst hv4
        clear hn4
        have HI4 : Hid (IdI w tc (idxTo (beg lo) es (j + 1)) ao4 n4 cap4 w4) := by
          refine ⟨HI3.out.below.trans (hg4.toBelow hbs (fun k hk => (HI3.out.own.lt k hk).1)), grew_blk HI3.out.own hg4 HI3.out.tb (by decide), ?_⟩
          rw [HSN.out, show beg lo es[j] = true from hL]
          have : natV (idxTo (beg lo) es j ++ (if true = true then [j] else [])) = natV (idxTo (beg lo) es j) ++ [Value.int .i64 (j : Int)] := by simp [natV, ints]
          rw [this]; exact ho4
        clear ho4 hg4 HI3
        go_wp2
        go_roundw
        case rel => exact ⟨j + 1, ao4, n4, cap4, by omega, by go_num, rfl, HI4⟩
        case measure => simp [intOf]; omega
      · have hL' : beg lo es[j] = false := Bool.eq_false_iff.2 hL
        rw [show begB es[j].1.data.toList lo.data.toList = false from hL']
        have HI4 : Hid (IdI w tc (idxTo (beg lo) es (j + 1)) ao n cap w3) := by
          show IdI _ _ _ _ _ _ _
          rw [HSN.out, hL']
          simpa using HI3.out
        clear HI3
        go_wp2
        go_roundw
        case rel => exact ⟨j + 1, ao, n, cap, by omega, by go_num, rfl, HI4⟩
        case measure => simp [intOf]; omega
    · have hjl : j = es.length := by omega
      subst hjl
      go_wp2
      go_ret
      obtain ⟨x, h1, h2, h3⟩ := HI.out.own.sv
      refine ⟨x, ?_, h2, h3, HI.out.below⟩
      rw [h2, natV_length] at h1
      rw [h1]; rfl
end Go.Proofs.Yteelgkmkeaiojaa

/- The document's Along over sorted lists. -/
namespace Go.Proofs.Yteelgkmkeaiojaa
open Go.RowKit
set_option linter.unusedVariables false

/-- Is the entry's key a beginning of k? -/
def alP (k : ByteArray) (e : En) : Bool := begB (kyb k) (kyl e)

set_option maxRecDepth 100000 in
set_option maxHeartbeats 1600000 in
theorem refAlong_calls (d : Dv) (es : List En) (ps : List ByteArray) (lo : ByteArray) (w : World) (hd : DocAt w d es ps) (hlo : lo.size ≤ 140737488351232) (hl : es.length ≤ 5864062014650) :
    Calls Try.prog 23 #[.agg (d.cells es.length ps.length), .string lo] w fun e w' => ∃ x : Sv, e = .returned (.slice x.ao (idxTo (alP lo) es es.length).length x.cap) ∧ x.vs = natV (idxTo (alP lo) es es.length) ∧ x.At w' ∧ Below w.heap.size w w' := by
  obtain ⟨w2, HW2⟩ : ∃ w2, Hid (w2 = (w.alloc (.cells (d.cells es.length ps.length) 28)).alloc (.cells #[] 3)) := ⟨_, rfl⟩
  have hs2 : w2.heap.size = w.heap.size + 2 := by rw [HW2.out]; simp [World.size_alloc]
  have e1 : (w.alloc (.cells (d.cells es.length ps.length) 28)).heap.size = w.heap.size + 1 := by simp [World.size_alloc]
  have q0 : w2.heap[w.heap.size]? = some (.cells (d.cells es.length ps.length) 28) := by
    rw [HW2.out, Below.heap_alloc _ _ _ (by omega)]; exact heap_alloc_new _ _
  have HI0 : Hid (IdI w (d.cells es.length ps.length) (idxTo (alP lo) es 0) (some ⟨w.heap.size + 1, 0, none⟩) 0 0 w2) := by
    have hM := OwnV.made (w.alloc (.cells (d.cells es.length ps.length) 28)) 3 [] (by decide)
    rw [e1] at hM
    refine ⟨by rw [HW2.out]; exact ((Below.refl _ w).alloc (Nat.le_refl _) _).alloc (by omega) _, q0, ?_⟩
    rw [HW2.out]; exact OwnV.mono (B' := w.heap.size) hM (by omega)
  have k0 : (((w.alloc (.cells (d.cells es.length ps.length) 28)).alloc (.cells #[] 3))).cell? ⟨w.heap.size, 0, none⟩ = some (.slice d.k.ao es.length d.k.cap) := by rw [← HW2.out, cell_of_blk q0]; rfl
  have HX : Hid (∀ i (hi : i < es.length), ∃ b off, d.k.ao = some ⟨b, off, none⟩ ∧ w.cell? ⟨b, off + i, none⟩ = some (.string es[i].1)) := fun i hi => by
    obtain ⟨b, off, h1, h2⟩ := hd.k.str hd.kk i (by rw [keysOf_len]; exact hi)
    exact ⟨b, off, h1, by rw [h2]; simp [keysOf]⟩
  have HZ : Hid (∀ i (hi : i < es.length), es[i].1.size ≤ 140737488351232) := fun i hi => hd.ksz _ (List.mem_map.2 ⟨_, List.getElem_mem hi, rfl⟩)
  clear hd q0
  obtain ⟨tc, htc⟩ : ∃ tc, tc = d.cells es.length ps.length := ⟨_, rfl⟩
  have HTC : Hid (tc = d.cells es.length ps.length) := htc
  rw [← htc] at HI0 HW2 k0 e1
  have htc' : tc = #[.slice d.k.ao es.length d.k.cap, .slice d.v.ao es.length d.v.cap, .slice d.l.ao es.length d.l.cap, .slice d.p.ao ps.length d.p.cap, .slice d.m.ao ps.length d.m.cap] := htc
  rw [htc'] at HW2 k0
  unfold Dv.cells
  clear htc htc' e1
  go_enter Try.func23, Try.ntmps23
  go_wp2_with fail
  rw [← HW2.out]
  clear HW2 k0
  obtain ⟨⟨ka, kc, kv⟩, dv, dl, dp, dm⟩ := d
  dsimp only at HX ⊢
  go_loopw [5, 12] (fun o i wr => ∃ (j : Nat) (ao : Option Addr) (n cap : Nat), j ≤ es.length ∧ i = .int .i64 j ∧ o = .slice ao n cap ∧ Hid (IdI w tc (idxTo (alP lo) es j) ao n cap wr)) (fun _ i _ => es.length - (intOf i).toNat)
  case atStart => exact ⟨0, _, _, _, Nat.zero_le _, rfl, rfl, HI0⟩
  case round =>
    obtain ⟨j, ao, n, cap, hj, rfl, rfl, HI⟩ := hrel
    clear HI0
    by_cases hlt : j < es.length
    · obtain ⟨b, off, rfl, hc⟩ := HX.out j hlt
      have hcw : wr.cell? ⟨b, off + j, none⟩ = some (.string es[j].1) := by rw [HI.out.below.cell (World.block_lt_of_cell? w _ hc)]; exact hc
      have hz := HZ.out j hlt
      have HL := starts_calls lo es[j].1 wr (by omega) (by omega)
      rw [starts_beg] at HL
      have HSN : Hid (idxTo (alP lo) es (j + 1) = idxTo (alP lo) es j ++ (if alP lo es[j] then [j] else [])) := idxTo_succ _ es j hlt
      have hil := idxTo_len (alP lo) es j
      clear hc
      go_wp2_with fail
      refine HL.mono ?_
      clear HL
      rintro e w3 ⟨rfl, hw3⟩
      have HI3 : Hid (IdI w tc (idxTo (alP lo) es j) ao n cap w3) := HI.out.keep (by rw [hw3]; exact Below.refl _ _)
      have hbs := HI3.out.below.size
      clear hw3 hcw HI
      by_cases hL : alP lo es[j] = true
      · rw [show begB lo.data.toList es[j].1.data.toList = true from hL]
        go_wp2_with (at_builtin; refine append_val w3 rfl (.tmp 20) (.tmp 22) 26 3 (.int .i64 0) 8 Try.underlying26 infoI rfl rfl w.heap.size _ _ rfl (.int .i64 (j : Int)) rfl _ rfl (by first | rfl | simp) HI3.out.own (by rw [natV_length]; omega) (by rw [natV_length]; omega) hbs ?_)
        intro v4 w4 ho4 hg4
        obtain ⟨ao4, cap4, hv4⟩ := ho4.shape
        obtain ⟨n4, hn4⟩ : ∃ n4, n4 = (natV (idxTo (alP lo) es j) ++ [Value.int .i64 (j : Int)]).length := ⟨_, rfl⟩
        rw [← hn4] at hv4
        subst hv4
        clear hn4
        have HI4 : Hid (IdI w tc (idxTo (alP lo) es (j + 1)) ao4 n4 cap4 w4) := by
          refine ⟨HI3.out.below.trans (hg4.toBelow hbs (fun k hk => (HI3.out.own.lt k hk).1)), grew_blk HI3.out.own hg4 HI3.out.tb (by decide), ?_⟩
          rw [HSN.out, show alP lo es[j] = true from hL]
          have : natV (idxTo (alP lo) es j ++ (if true = true then [j] else [])) = natV (idxTo (alP lo) es j) ++ [Value.int .i64 (j : Int)] := by simp [natV, ints]
          rw [this]; exact ho4
        clear ho4 hg4 HI3
        go_wp2
        go_roundw
        case rel => exact ⟨j + 1, ao4, n4, cap4, by omega, by go_num, rfl, HI4⟩
        case measure => simp [intOf]; omega
      · have hL' : alP lo es[j] = false := Bool.eq_false_iff.2 hL
        rw [show begB lo.data.toList es[j].1.data.toList = false from hL']
        have HI4 : Hid (IdI w tc (idxTo (alP lo) es (j + 1)) ao n cap w3) := by
          show IdI _ _ _ _ _ _ _
          rw [HSN.out, hL']
          simpa using HI3.out
        clear HI3
        go_wp2
        go_roundw
        case rel => exact ⟨j + 1, ao, n, cap, by omega, by go_num, rfl, HI4⟩
        case measure => simp [intOf]; omega
    · have hjl : j = es.length := by omega
      subst hjl
      go_wp2
      go_ret
      obtain ⟨x, h1, h2, h3⟩ := HI.out.own.sv
      refine ⟨x, ?_, h2, h3, HI.out.below⟩
      rw [h2, natV_length] at h1
      rw [h1]; rfl
end Go.Proofs.Yteelgkmkeaiojaa

/- Layer 4 (walk): the entries along a key are those whose key is a beginning of it; the last is the longest. -/
namespace Go.Proofs.Yteelgkmkeaiojaa
open Go.RowKit
set_option linter.unusedVariables false

theorem alP_iff (k : ByteArray) (e : En) : alP k e = true ↔ kyl e <+: kyb k := by unfold alP begB; exact List.isPrefixOf_iff_prefix
theorem own_alP {t : Tr} {k : ByteArray} (hp : t.path <+: kyb k) : (ownE t).filter (alP k) = ownE t := filter_all fun x hx => by
  unfold ownE at hx
  split at hx
  · simp at hx; subst hx; exact (alP_iff _ _).2 hp
  · cases hx
theorem kid_gone {n : Nat} {t c : Tr} {k : ByteArray} (hw : WF t) (hc : c ∈ t.ks) (hn : ¬ c.path <+: kyb k) : (ents n c).filter (alP k) = [] := filter_none' fun x hx => by
  rw [Bool.eq_false_iff, ne_eq, alP_iff]
  exact fun h => hn ((ents_pre (hw.kids' _ hc) hx).trans h)
theorem flat_none {α β : Type} {f : α → List β} : ∀ (l : List α), (∀ a ∈ l, f a = []) → l.flatMap f = []
  | [], _ => rfl
  | a :: l, h => by rw [List.flatMap_cons, h a (by simp), flat_none l (fun b hb => h b (by simp [hb])), List.append_nil]
theorem along_ents {k : ByteArray} {t : Tr} {l : List Tr} (h : Along (kyb k) t l) : ∀ {n : Nat}, Dep n t → WF t → t.path <+: kyb k → aloE l = (ents n t).filter (alP k) := by
  induction h with
  | @stop t h =>
    intro n hd hw hp
    cases n with
    | zero => cases hd
    | succ n =>
      show aloE [t] = (ownE t ++ t.ks.flatMap (ents n)).filter (alP k)
      rw [List.filter_append, own_alP hp, flatMap_filter' (alP k) (ents n) (fun _ => []) t.ks (fun c hc => kid_gone hw hc (fun hpc => by
        unfold nx at h
        rw [List.find?_eq_none] at h
        exact h c hc (by simpa using hpc))), flat_none _ (fun _ _ => rfl)]
      simp [aloE]
  | @go t c l h r ih =>
    intro n hd hw hp
    cases n with
    | zero => cases hd
    | succ n =>
      obtain ⟨hcm, hcp⟩ := nx_mem h
      have hic := ih (hd c hcm) (hw.kids' c hcm) hcp
      obtain ⟨i, hi, rfl⟩ := List.getElem_of_mem hcm
      have other : ∀ j (hj : j < t.ks.length), j ≠ i → ¬ t.ks[j].path <+: kyb k := fun j hj hne hpj => by
        have h1 := nx_some hw hj hpj
        have h2 := nx_some hw hi hcp
        rw [h1] at h2
        have e : t.ks[j] = t.ks[i] := Option.some.inj h2
        rcases Nat.lt_or_ge j i with hlt | hge
        · have := lt_of_sorted hw.ord' hlt hi
          rw [e] at this; exact UInt8.lt_irrefl _ this
        · have := lt_of_sorted hw.ord' (show i < j by omega) hj
          rw [e] at this; exact UInt8.lt_irrefl _ this
      show aloE (t :: l) = (ownE t ++ t.ks.flatMap (ents n)).filter (alP k)
      have e0 : t.ks = t.ks.take i ++ t.ks[i] :: t.ks.drop (i + 1) := by rw [← List.drop_eq_getElem_cons hi, List.take_append_drop]
      have e1 : t.ks.flatMap (fun c => (ents n c).filter (alP k)) = (ents n t.ks[i]).filter (alP k) := by
        conv => lhs; rw [e0]
        rw [List.flatMap_append, List.flatMap_cons, flat_none (t.ks.take i), flat_none (t.ks.drop (i + 1))]
        · simp
        · intro a ha
          obtain ⟨j, hj, hij, rfl⟩ := mem_drop_ge ha
          exact kid_gone hw (List.getElem_mem hj) (other j hj (by omega))
        · intro a ha
          obtain ⟨j, hj, hij, rfl⟩ := mem_take_lt ha
          exact kid_gone hw (List.getElem_mem hj) (other j hj (by omega))
      rw [List.filter_append, own_alP hp, flatMap_filter' (alP k) (ents n) (fun c => (ents n c).filter (alP k)) t.ks (fun _ _ => rfl), e1, ← hic]
      simp [aloE]
theorem snoc_cases {α : Type} (l : List α) : l = [] ∨ ∃ q x, l = q ++ [x] := by
  rcases List.eq_nil_or_concat l with h | ⟨q, x, h⟩
  · exact .inl h
  · exact .inr ⟨q, x, by simpa using h⟩
theorem best_last (t : Tr) : ∀ (n : Nat) (l : List Tr) (x : Vl), l.length = n → (∃ u ∈ l, u.v.isSome = true) → (best t l).v = some x → ∃ q, aloE l = q ++ [((best t l).p, intOf x.x)] := by
  intro n
  induction n with
  | zero => intro l x hl hu; have : l = [] := List.length_eq_zero_iff.1 hl; subst this; obtain ⟨u, hu, -⟩ := hu; simp at hu
  | succ n ih =>
    intro l x hl hu hx
    rcases snoc_cases l with rfl | ⟨q, y, rfl⟩
    · simp at hl
    · rw [best_snoc] at hx ⊢
      have ea : aloE (q ++ [y]) = aloE q ++ ownE y := by simp [aloE]
      by_cases hy : y.v.isSome = true
      · rw [if_pos hy] at hx ⊢
        exact ⟨aloE q, by rw [ea]; unfold ownE; rw [hx]⟩
      · rw [if_neg hy] at hx ⊢
        have hyn : y.v = none := by simpa using hy
        obtain ⟨q2, h2⟩ := ih q x (by simpa using hl) (by
          obtain ⟨u, hu1, hu2⟩ := hu
          rcases List.mem_append.1 hu1 with h | h
          · exact ⟨u, h, hu2⟩
          · simp at h; subst h; exact absurd hu2 hy) hx
        exact ⟨q2, by rw [ea, h2]; unfold ownE; rw [hyn]; simp⟩
end Go.Proofs.Yteelgkmkeaiojaa
