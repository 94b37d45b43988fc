/- Layer 6 (schema): readIndex. -/
import Derived.Test.YtbpmahchinblhaaDoorSField
import Derived.Test.YtbpmahchinblhaaDoorSSplit
namespace Go.Proofs.YtbpmahchinblhaaDoor
open Go.RowKit Go.Shelf
set_option linter.unusedVariables false
attribute [local go_sem] Oper.semAt_some

theorem row_mono {w : World} {B B' : Nat} {e : TypeId} {size : Nat} {v : Value} {n : Nat} {l : List Value} (h : w.ownsRow B e size v n l) (hB : B' ≤ B) : w.ownsRow B' e size v n l := by
  refine ⟨h.1, ?_⟩
  rcases h.2 with h | ⟨g, cap, cur, hv, hb, r⟩
  · exact .inl h
  · exact .inr ⟨g, cap, cur, hv, Nat.le_trans hB hb, r⟩
/-- The new index's box. -/
def XBox (w : World) (xb : Nat) (n : ByteArray) (v : Value) (u l s : Bool) : Prop := w.heap[xb]? = some (.cells #[.string n, v, .bool u, .bool l, .bool s] 38)
theorem XBox.below {w w' : World} {xb : Nat} {n : ByteArray} {v : Value} {u l s : Bool} (h : XBox w xb n v u l s) (hb : Below w.heap.size w w') : XBox w' xb n v u l s := (hb.block _ (lt_blk h)).trans h

theorem CellsAt.drop {w : World} {b off : Nat} : ∀ (n : Nat) {r : List Value} , CellsAt w (some ⟨b, off, none⟩) r → CellsAt w (some ⟨b, off + n, none⟩) (r.drop n)
  | 0, r, h => by simpa using h
  | n + 1, [], h => by intro hne; simp at hne
  | n + 1, x :: r, h => by
    have := CellsAt.drop n h.tail
    rw [show off + (n + 1) = off + 1 + n by omega, List.drop_succ_cons]
    exact this

theorem takeF_le (f : ByteArray) (l : List ByteArray) : (takeF f l).2.length ≤ l.length := by
  cases l with
  | nil => simp [takeF]
  | cons a l =>
    show (if a = f then (true, l) else (false, a :: l)).2.length ≤ _
    split <;> simp
/-- While the places of an index's fields are gathered. -/
structure IxI (B N : Nat) (w1 : World) (rb xb nb g tc : Nat) (us : List TV) (t : TV) (ln bg : Int) (nm : ByteArray) (ns : List ByteArray) (u l s : Bool) (k : Nat) (v : Value) (wr : World) : Prop where
  rd : RdAt wr rb (.slice (some ⟨g, 0, none⟩) (us.length + 1) tc) ln bg
  tb : Tabs wr B (.slice (some ⟨g, 0, none⟩) (us ++ [t]).length tc) (us ++ [t])
  bx : XBox wr xb nm v u l s
  st : StrsAt wr nb ns
  fr : Fr B w1 wr
  ov : wr.ownsRow N 3 1 v k (ics ((ns.take k).map (placeF t.fs)))
  sz : N ≤ wr.heap.size
  old : ∀ t' ∈ us ++ [t], ∀ y ∈ t'.xs, ∀ j, y.v.ownBlock = some j → j < N
  xx : ∀ t' ∈ us ++ [t], t'.xv.ownBlock ≠ some xb
theorem IxI.next {B N : Nat} {w1 : World} {rb xb nb g tc : Nat} {us : List TV} {t : TV} {ln bg : Int} {nm nk : ByteArray} {ns : List ByteArray} {u l s : Bool} {k : Nat} {va : Option Addr} {vc : Nat} {wr w' w4 : World} {v' : Value}
    (h : IxI B N w1 rb xb nb g tc us t ln bg nm ns u l s k (.slice va k vc) wr) (hb : Below wr.heap.size wr w') (hg : Grew w' w4 (.slice va k vc) v')
    (ho : w4.ownsRow N 3 1 v' (k + 1) (ics ((ns.take k).map (placeF t.fs)) ++ [.int .i64 (placeF t.fs nk)])) (hn : ns.take (k + 1) = ns.take k ++ [nk]) (hB : B ≤ xb) (hBN : B ≤ N) :
    IxI B N w1 rb xb nb g tc us t ln bg nm ns u l s (k + 1) v' (w4.setCell ⟨xb, 1, none⟩ v') ∧ w4.cell? ⟨xb, 1, none⟩ = some (.slice va k vc) ∧ w4.frozen? ⟨xb, 1, none⟩ = false := by
  have rd := h.rd.below hb
  have tb := h.tb.below hb
  have bx := h.bx.below hb
  have st := h.st.below hb
  have ov := row_below h.ov hb
  have keep : ∀ {b : Nat} {cs : Array Value} {ty : TypeId}, w'.heap[b]? = some (.cells cs ty) → 3 ≠ ty → w4.heap[b]? = some (.cells cs ty) := fun hc hne => (hg.grown.block _ (lt_blk hc) (fun e => row_ne ov hc hne e.symm)).trans hc
  have bx4 := keep bx (by decide)
  have ovn : ∀ {e : TypeId} {size n : Nat} {v : Value} {l : List Value}, w'.ownsRow B e size v n l → 3 ≠ e → w4.ownsRow B e size v n l := fun hr hne => row_grew hr hg (rows_ne hr ov (Ne.symm hne))
  have tb4 : Tabs w4 B (.slice (some ⟨g, 0, none⟩) (us ++ [t]).length tc) (us ++ [t]) := by
    refine ⟨ovn tb.row (by decide), fun t' ht' => ⟨ovn (tb.tab t' ht').fs (by decide), ovn (tb.tab t' ht').xs (by decide), fun y hy => ?_⟩, tb.afs, tb.axs, tb.aov, tb.most, tb.ok⟩
    refine row_grew ((tb.tab t' ht').ov y hy) hg (fun j hj e => ?_)
    have h1 := (World.ownsRow.lt ov j hj).1
    have h2 := h.old t' ht' y hy j e
    omega
  have hxg : xb ≠ g := fun e => by subst e; exact row_ne tb4.row bx4 (by decide) rfl
  have hsz : N ≤ w'.heap.size := Nat.le_trans h.sz hb.size
  have other : ∀ {b : Nat} {o : Obj}, w4.heap[b]? = some o → b ≠ xb → (w4.setCell ⟨xb, 1, none⟩ v').heap[b]? = some o := fun hc hne => (heap_setCell_other _ _ _ _ (fun e => hne (by simpa using e))).trans hc
  have nx : ∀ {b : Nat} {cs : Array Value} {ty : TypeId}, w4.heap[b]? = some (.cells cs ty) → 38 ≠ ty → b ≠ xb := fun hc hne e => by
    subst e
    have := bx4.symm.trans hc
    simp at this
    exact hne this.2
  have hset : ∀ {e : TypeId} {size n : Nat} {v : Value} {l : List Value}, w4.ownsRow B e size v n l → 38 ≠ e → (w4.setCell ⟨xb, 1, none⟩ v').ownsRow B e size v n l := fun hr hne => row_set hr (row_ne hr bx4 (Ne.symm hne)) _
  refine ⟨⟨?_, ?_, ?_, ?_, ?_, ?_, ?_, h.old, h.xx⟩, ?_, frozen_blk bx4⟩
  · exact other (keep rd (by decide)) (nx (keep rd (by decide)) (by decide))
  · refine ⟨hset tb4.row (by decide), fun t' ht' => ⟨hset (tb4.tab t' ht').fs (by decide), row_set (tb4.tab t' ht').xs (h.xx t' ht') _, fun y hy => hset ((tb4.tab t' ht').ov y hy) (by decide)⟩, tb4.afs, tb4.axs, tb4.aov, tb4.most, tb4.ok⟩
  · exact set_blk (i := 1) bx4 v'
  · exact other (keep st (by decide)) (nx (keep st (by decide)) (by decide))
  · exact h.fr.trans ((Fr.ofBelow hb (by have := h.fr.below.size; have := lt_blk h.bx; omega)).trans ((Fr.grew ov hBN (by have := lt_blk bx; omega) hg (by decide)).trans (Fr.set bx4 hB (by decide) v')))
  · have h1 : ics ((ns.take (k + 1)).map (placeF t.fs)) = ics ((ns.take k).map (placeF t.fs)) ++ [.int .i64 (placeF t.fs nk)] := by rw [hn]; simp [ics]
    rw [h1]
    exact row_set ho (row_ne ho bx4 (by decide)) _
  · have := hg.size
    simp
    omega
  · rw [cell_blk bx4]; rfl
/-- words[3:] -/
def restV (wb wl cap : Nat) : Value := if cap = 3 then .slice (some ⟨wb, 0, none⟩) wl 0 else .slice (some ⟨wb, 3, none⟩) wl (cap - 3)
theorem drop3_run (wb wl cap : Nat) (h : wl + 3 ≤ cap) (W : World) : (Instr.slice 43 (.slice (some ⟨wb, 0, none⟩) (wl + 3) cap) (some (.int .i64 3)) none none).run Tryd.prog W = .ok (restV wb wl cap) W := by
  unfold restV
  by_cases hc : cap = 3
  · subst hc
    obtain rfl : wl = 0 := by omega
    go_simp
  · rw [if_neg hc]
    have h1 : (3 : Int) ≤ (wl : Int) + 3 := by omega
    have h2 : (wl : Int) + 3 ≤ (cap : Int) := by omega
    go_simp
theorem restV_form {w : World} {wb wl cap : Nat} {l : List Value} (hl : l.length = wl) (h : wl + 3 ≤ cap) (hc : CellsAt w (some ⟨wb, 3, none⟩) l) : ∃ ao c, restV wb wl cap = .slice ao wl c ∧ CellsAt w ao l ∧ wl ≤ c := by
  unfold restV
  by_cases h3 : cap = 3
  · rw [if_pos h3]
    refine ⟨_, _, rfl, fun hne => ?_, by omega⟩
    exact absurd (List.length_eq_zero_iff.1 (by omega)) hne
  · rw [if_neg h3]
    exact ⟨_, _, rfl, hc, by omega⟩

set_option maxRecDepth 100000 in
set_option maxHeartbeats 4000000 in
theorem readIndex_calls (rb wb cap : Nat) (B : Nat) (v : Value) (ts : List TV) (ln bg : Int) (ws : List ByteArray) (w : World) (mx : Int) (hB : B ≤ rb) (hr : RdAt w rb v ln bg) (ht : Tabs w B v ts) (hw : StrsAt w wb ws) (hmx : w.cell? ⟨1, 0, none⟩ = some (.int .i64 mx)) (h1B : 1 < B) (hcap : ws.length ≤ cap) (hl : ws.length ≤ 100000) (hs : ∀ x ∈ ws, x.size ≤ 9000) :
    Calls Tryd.prog 37 #[.pointer (some ⟨rb, 0, none⟩), .slice (some ⟨wb, 0, none⟩) ws.length cap] w fun e w' => Behind B w rb ln (rIndex ln ws (tbs ts, bg)) e w' := by
  have HR : Hid (RdAt w rb v ln bg) := hr
  have HT : Hid (Tabs w B v ts) := ht
  by_cases h1 : ws.length < 3
  · have HO : Hid (rIndex ln ws (tbs ts, bg) = .error (ln, 61)) := by unfold rIndex; rw [Hid, if_pos h1]
    have q : decide ((ws.length : Int) < 3) = true := by rw [decide_eq_true_eq]; omega
    clear hr ht hw
    go_enter Tryd.func37, Tryd.ntmps37
    go_wp2_with fail
    refine (refuse_do rb _ ln bg 61 w HR.out).mono ?_; rintro e w' ⟨rfl, rfl⟩
    go_wp2
    rw [HO.out]
    exact ⟨rfl, rfl, Fr.refl _ _⟩
  have c1 := hw.cell 1 (by omega)
  have c2 := hw.cell 2 (by omega)
  have hsz := hs _ (List.getElem_mem (by omega : 1 < ws.length))
  have hsz2 := hs _ (List.getElem_mem (by omega : 2 < ws.length))
  have q1 : decide ((ws.length : Int) < 3) = false := by rw [decide_eq_false_iff_not]; omega
  obtain ⟨nm, hnm⟩ : ∃ nm, nm = ws[1] := ⟨_, rfl⟩
  obtain ⟨fw, hfw⟩ : ∃ nm, nm = ws[2] := ⟨_, rfl⟩
  obtain ⟨d, hd⟩ : ∃ d, d = ws.drop 3 := ⟨_, rfl⟩
  rw [← hnm] at c1 hsz
  rw [← hfw] at c2 hsz2
  obtain ⟨ns, hns⟩ : ∃ ns, ns = wsOf fw 44 := ⟨_, rfl⟩
  obtain ⟨F1, hF1⟩ : ∃ F, F = takeF uniqueW d := ⟨_, rfl⟩
  obtain ⟨F2, hF2⟩ : ∃ F, F = takeF lowerW F1.2 := ⟨_, rfl⟩
  obtain ⟨F3, hF3⟩ : ∃ F, F = takeF looseW F2.2 := ⟨_, rfl⟩
  have hO1 : Hid (∀ st, rIndex ln ws st = if F3.2.length > 0 then .error (ln, 61) else if nameB nm = false ∨ ns.all nameB = false then .error (ln, 62) else match st.1.getLast? with
      | none => .error (ln, 63)
      | some t => if t.xs.any (fun x => decide (x.n = nm)) = true ∨ twiceW ns = true then .error (ln, 64) else if t.xs.length = 8 ∨ ns.length > 4 then .error (ln, 65) else
        if (ns.map (placeF t.fs)).contains (-1) then .error (ln, 66) else if mayB t ⟨nm, ns.map (placeF t.fs), F1.1, F2.1, F3.1⟩ = false then .error (ln, 67) else
        .ok (st.1.dropLast ++ [{ t with xs := t.xs ++ [⟨nm, ns.map (placeF t.fs), F1.1, F2.1, F3.1⟩] }], st.2)) := by
    intro st
    have HD : ws.getD 1 ⟨#[]⟩ = nm := by rw [List.getD_eq_getElem?_getD, List.getElem?_eq_getElem (by omega), hnm]; rfl
    have HD2 : ws.getD 2 ⟨#[]⟩ = fw := by rw [List.getD_eq_getElem?_getD, List.getElem?_eq_getElem (by omega), hfw]; rfl
    have HF : flagsW (ws.drop 3) = ((F1.1, F2.1, F3.1), F3.2) := by unfold flagsW; rw [← hd, ← hF1, ← hF2, ← hF3]
    unfold rIndex
    rw [if_neg h1, HD, HD2, HF, ← hns]
    rfl
  have hwlt : wb < w.heap.size := lt_blk hw
  have hBw : B ≤ w.heap.size := by have := lt_blk HR.out; omega
  have HD : Hid (CellsAt w (some ⟨wb, 3, none⟩) (d.map Value.string)) := by
    have := hw.cells.drop 3
    rw [hd, List.map_drop, Hid]
    simpa using this
  have hdl : d.length = ws.length - 3 := by rw [hd]; simp
  have hF1l : F1.2.length ≤ d.length := by rw [hF1]; cases d <;> simp [takeF]; split <;> simp
  have hF2l : F2.2.length ≤ F1.2.length := by rw [hF2]; cases F1.2 <;> simp [takeF]; split <;> simp
  have HF1 : Hid (F1 = takeF uniqueW d) := hF1
  have HF2 : Hid (F2 = takeF lowerW F1.2) := hF2
  have HF3 : Hid (F3 = takeF looseW F2.2) := hF3
  have HNS : Hid (ns = wsOf fw 44) := hns
  have HMX : Hid (w.cell? ⟨1, 0, none⟩ = some (.int .i64 mx)) := hmx
  clear hw hs hr ht hnm hfw hd hns hF1 hF2 hF3 hmx
  obtain ⟨wl, hwl⟩ : ∃ wl, ws.length = wl + 3 := ⟨ws.length - 3, by omega⟩
  have HDL : Hid (d.length = wl) := by rw [Hid, hdl]; omega
  have HL1 : Hid (F1.2.length ≤ wl ∧ F2.2.length ≤ wl) := ⟨by rw [← HDL.out]; exact hF1l, by rw [← HDL.out]; exact Nat.le_trans hF2l hF1l⟩
  rw [hwl] at hcap hl q1 ⊢
  clear hdl hF1l hF2l h1 hwl
  go_enter Tryd.func37, Tryd.ntmps37
  go_wp2_with fail
  refine (refuse_not rb 61 _).mono ?_; rintro e w1 ⟨rfl, rfl⟩
  go_upto_region 2 with fail
  obtain ⟨w2, hw2⟩ : ∃ w2, w2 = w1.alloc (.cells #[.string nm, .slice none 0 0, .bool false, .bool false, .bool false] 38) := ⟨_, rfl⟩
  rw [← hw2]
  have hb2 : Below w1.heap.size w1 w2 := hw2 ▸ (Below.refl _ _).alloc (Nat.le_refl _) _
  obtain ⟨xb, hxb⟩ : ∃ xb, xb = w1.heap.size := ⟨_, rfl⟩
  have HX2 : Hid (XBox w2 xb nm (.slice none 0 0) false false false) := by rw [hxb, hw2]; exact new_blk _ _
  rw [← hxb]
  have hxb' : w1.heap.size ≤ xb := by omega
  clear hw2 hxb c1
  have hsl := drop3_run wb wl cap hcap
  obtain ⟨ao5, c5, e5, hc5, hcap5⟩ := restV_form (w := w1) (by rw [List.length_map]; exact HDL.out) hcap HD.out
  rw [e5] at hsl
  rw [← HDL.out] at hsl hcap5
  have HC5 : Hid (CellsAt w1 ao5 (d.map Value.string) ∧ d.length ≤ c5 ∧ d.length ≤ 100000) := ⟨hc5, hcap5, by rw [HDL.out]; omega⟩
  clear e5 hc5 hcap5
  rw [← HDL.out]
  go_wp2_with fail
  refine (takeFlag_calls ao5 c5 d uniqueW _ HC5.out.2.1 HC5.out.2.2 (HC5.out.1.below hb2)).mono ?_
  rintro e w3 ⟨⟨ao6, c6, he, hc, hcap'⟩, m, hwm⟩
  rw [← HF1.out] at he hcap'
  have hc := hc w1 HC5.out.1
  rw [← HF1.out] at hc
  subst he
  have hbm : Below w2.heap.size w2 w3 := hwm ▸ below_draws _ m
  clear hwm
  have HXm : Hid (XBox w3 xb nm (.slice none 0 0) false false false) := HX2.out.below hbm
  have hb3 : Below w1.heap.size w1 w3 := hb2.trans (hbm.mono hb2.size)
  have xc : w3.cell? ⟨xb, 2, none⟩ = some (.bool false) := by rw [cell_blk HXm.out]; rfl
  have xz : w3.frozen? ⟨xb, 2, none⟩ = false := frozen_blk HXm.out
  have HC6 : Hid (CellsAt w1 ao6 (F1.2.map Value.string) ∧ F1.2.length ≤ c6 ∧ F1.2.length ≤ 100000) := ⟨hc, hcap', by have := HL1.out.1; omega⟩
  clear hc hcap' hbm
  go_upto_region 4 with fail
  obtain ⟨w4, hwo⟩ : ∃ wo, wo = w3.setCell ⟨xb, 2, none⟩ (.bool F1.1) := ⟨_, rfl⟩
  rw [← hwo]
  have HX4 : Hid (XBox w4 xb nm (.slice none 0 0) F1.1 false false) := by rw [hwo]; exact set_blk (i := 2) HXm.out (.bool F1.1)
  have hb4 : Below w1.heap.size w1 w4 := by rw [hwo]; exact hb3.setCell hxb' _
  clear hwo xc xz HXm hb3
  go_wp2_with fail
  refine (takeFlag_calls ao6 c6 F1.2 lowerW _ HC6.out.2.1 HC6.out.2.2 (HC6.out.1.below hb4)).mono ?_
  rintro e w5 ⟨⟨ao7, c7, he, hc, hcap'⟩, m, hwm⟩
  rw [← HF2.out] at he hcap'
  have hc := hc w1 HC6.out.1
  rw [← HF2.out] at hc
  subst he
  have hbm : Below w4.heap.size w4 w5 := hwm ▸ below_draws _ m
  clear hwm
  have HXm : Hid (XBox w5 xb nm (.slice none 0 0) F1.1 false false) := HX4.out.below hbm
  have hb5 : Below w1.heap.size w1 w5 := hb4.trans (hbm.mono hb4.size)
  have xc : w5.cell? ⟨xb, 3, none⟩ = some (.bool false) := by rw [cell_blk HXm.out]; rfl
  have xz : w5.frozen? ⟨xb, 3, none⟩ = false := frozen_blk HXm.out
  have HC7 : Hid (CellsAt w1 ao7 (F2.2.map Value.string) ∧ F2.2.length ≤ c7 ∧ F2.2.length ≤ 100000) := ⟨hc, hcap', by have := HL1.out.2; omega⟩
  clear hc hcap' hbm
  go_upto_region 5 with fail
  obtain ⟨w6, hwo⟩ : ∃ wo, wo = w5.setCell ⟨xb, 3, none⟩ (.bool F2.1) := ⟨_, rfl⟩
  rw [← hwo]
  have HX6 : Hid (XBox w6 xb nm (.slice none 0 0) F1.1 F2.1 false) := by rw [hwo]; exact set_blk (i := 3) HXm.out (.bool F2.1)
  have hb6 : Below w1.heap.size w1 w6 := by rw [hwo]; exact hb5.setCell hxb' _
  clear hwo xc xz HXm hb5
  go_wp2_with fail
  refine (takeFlag_calls ao7 c7 F2.2 looseW _ HC7.out.2.1 HC7.out.2.2 (HC7.out.1.below hb6)).mono ?_
  rintro e w7 ⟨⟨ao8, c8, he, hc, hcap'⟩, m, hwm⟩
  rw [← HF3.out] at he hcap'
  have hc := hc w1 HC7.out.1
  rw [← HF3.out] at hc
  subst he
  have hbm : Below w6.heap.size w6 w7 := hwm ▸ below_draws _ m
  clear hwm
  have HXm : Hid (XBox w7 xb nm (.slice none 0 0) F1.1 F2.1 false) := HX6.out.below hbm
  have hb7 : Below w1.heap.size w1 w7 := hb6.trans (hbm.mono hb6.size)
  have xc : w7.cell? ⟨xb, 4, none⟩ = some (.bool false) := by rw [cell_blk HXm.out]; rfl
  have xz : w7.frozen? ⟨xb, 4, none⟩ = false := frozen_blk HXm.out
  have HC8 : Hid (CellsAt w1 ao8 (F3.2.map Value.string) ∧ F3.2.length ≤ c8 ∧ F3.2.length ≤ 100000) := ⟨hc, hcap', by have := HL1.out.2; have h2 := takeF_le looseW F2.2; rw [← HF3.out] at h2; omega⟩
  clear hc hcap' hbm
  go_upto_region 6 with fail
  obtain ⟨w8, hwo⟩ : ∃ wo, wo = w7.setCell ⟨xb, 4, none⟩ (.bool F3.1) := ⟨_, rfl⟩
  rw [← hwo]
  have HX8 : Hid (XBox w8 xb nm (.slice none 0 0) F1.1 F2.1 F3.1) := by rw [hwo]; exact set_blk (i := 4) HXm.out (.bool F3.1)
  have hb8 : Below w1.heap.size w1 w8 := by rw [hwo]; exact hb7.setCell hxb' _
  clear hwo xc xz HXm hb7
  have HR8 : Hid (RdAt w8 rb v ln bg) := HR.out.below hb8
  have HT8 : Hid (Tabs w8 B v ts) := HT.out.below hb8
  have HFr8 : Hid (Fr B w1 w8) := Fr.ofBelow hb8 hBw
  by_cases h2 : F3.2.length > 0
  · have HO : Hid (rIndex ln ws (tbs ts, bg) = .error (ln, 61)) := by rw [Hid, hO1.out, if_pos h2]
    go_wp2_with fail
    refine (refuse_do rb _ ln bg 61 _ HR8.out).mono ?_; rintro e w9 ⟨rfl, rfl⟩
    go_wp2
    rw [HO.out]
    exact ⟨rfl, rfl, HFr8.out⟩
  go_wp2_with fail
  refine (refuse_not rb 61 _).mono ?_; rintro e w9 ⟨rfl, rfl⟩
  have c2' : w9.cell? ⟨wb, 2, none⟩ = some (.string fw) := by rw [hb8.cell (by exact hwlt)]; exact c2
  have h1w : 1 < w1.heap.size := Nat.lt_of_lt_of_le h1B hBw
  have HMX8 : Hid (w9.cell? ⟨1, 0, none⟩ = some (.int .i64 mx)) := by rw [Hid, hb8.cell (by exact h1w)]; exact HMX.out
  clear c2
  go_wp2_with fail
  refine (split_calls fw 44 mx _ (by omega) HMX8.out).mono ?_
  rintro e w10 ⟨rfl, hS10, hbS⟩
  obtain ⟨nb, hnb⟩ : ∃ nb, nb = w9.heap.size := ⟨_, rfl⟩
  rw [← hnb] at hS10
  rw [← hnb, ← HNS.out]
  rw [← HNS.out] at hS10
  have hb10 : Below w1.heap.size w1 w10 := hb8.trans (hbS.mono hb8.size)
  have HX10 : Hid (XBox w10 xb nm (.slice none 0 0) F1.1 F2.1 F3.1) := HX8.out.below hbS
  have HS10 : Hid (StrsAt w10 nb ns) := hS10
  have HR10 : Hid (RdAt w10 rb v ln bg) := HR.out.below hb10
  have HT10 : Hid (Tabs w10 B v ts) := HT.out.below hb10
  have HFr10 : Hid (Fr B w1 w10) := Fr.ofBelow hb10 hBw
  have hnl : ns.length ≤ 100000 := by rw [HNS.out]; have := wsOf_most fw 44; omega
  have hn0 : 0 < ns.length := by rw [HNS.out, wsOf_length]; omega
  have HNZ : Hid (∀ x ∈ ns, x.size ≤ 100000) := by intro x hx; rw [HNS.out] at hx; have := wsOf_size fw 44 x hx; omega
  have x0 : w10.cell? ⟨xb, 0, none⟩ = some (.string nm) := by rw [cell_blk HX10.out]; rfl
  clear hS10 hbS HX8 HR8 HT8 HFr8 c2' HMX8 hnb
  by_cases h3 : nameB nm = false ∨ ns.all nameB = false
  · have HO : Hid (rIndex ln ws (tbs ts, bg) = .error (ln, 62)) := by rw [Hid, hO1.out, if_neg h2, if_pos h3]
    go_wp2_with fail
    refine (isName_calls nm _ (by omega)).mono ?_; rintro e w11 ⟨rfl, rfl⟩
    cases h4 : nameB nm with
    | false =>
      go_wp2_with fail
      refine (refuse_do rb _ ln bg 62 _ HR10.out).mono ?_; rintro e w12 ⟨rfl, rfl⟩
      go_wp2
      rw [HO.out]
      exact ⟨rfl, rfl, HFr10.out⟩
    | true =>
      have h5 : ns.all nameB = false := by simpa [h4] using h3
      go_wp2_with fail
      refine (allNames_calls _ _ ns _ hnl HNZ.out HS10.out.cells).mono ?_; rintro e w12 ⟨rfl, rfl⟩
      go_wp2_with fail
      refine (refuse_do rb _ ln bg 62 _ HR10.out).mono ?_; rintro e w13 ⟨rfl, rfl⟩
      go_wp2
      rw [HO.out]
      exact ⟨rfl, rfl, HFr10.out⟩
  have h4 : nameB nm = true := by cases h : nameB nm <;> simp_all
  have h5 : ns.all nameB = true := by cases h : ns.all nameB <;> simp_all
  have HN : Hid (nameB nm = true ∧ ns.all nameB = true) := ⟨h4, h5⟩
  go_wp2_with fail
  refine (isName_calls nm _ (by omega)).mono ?_; rintro e w11 ⟨rfl, rfl⟩
  go_wp2_with fail
  refine (allNames_calls _ _ ns _ hnl HNZ.out HS10.out.cells).mono ?_; rintro e w12 ⟨rfl, rfl⟩
  go_wp2_with fail
  refine (refuse_not rb 62 _).mono ?_; rintro e w13 ⟨rfl, rfl⟩
  obtain ⟨ao, tc, rfl, hg⟩ := HT10.out.form
  have hm := HT10.out.most
  rcases nil_or_snoc ts with rfl | ⟨us, t, rfl⟩
  · have HO : Hid (rIndex ln ws (tbs [], bg) = .error (ln, 63)) := by rw [Hid, hO1.out, if_neg h2, if_neg h3]; rfl
    go_wp2_with fail
    refine (table_none rb ao tc ln bg _ HR10.out).mono ?_; rintro e w14 ⟨rfl, rfl⟩
    go_wp2
    rw [HO.out]
    exact ⟨rfl, rfl, HFr10.out⟩
  -- TAIL
  obtain ⟨g, rfl, hcap', t0, t1, t2, cs, hgb⟩ := HT10.out.lastAt
  have hlen : (us ++ [t]).length = us.length + 1 := by simp
  have HR11 : Hid (RdAt w13 rb (.slice (some ⟨g, 0, none⟩) (us.length + 1) tc) ln bg) := by have := HR10.out; rwa [hlen] at this
  have hm1 : us.length < 16 := by rw [hlen] at hm; omega
  have hok := HT10.out.ok t (by simp)
  have hgt : g < w13.heap.size := lt_blk hgb
  have hxt : xb < w13.heap.size := lt_blk HX10.out
  have hnt : nb < w13.heap.size := lt_blk HS10.out
  have HO2 : Hid (rIndex ln ws (tbs (us ++ [t]), bg) = if t.xs.any (fun x => decide (x.x.n = nm)) = true ∨ twiceW ns = true then .error (ln, 64) else if t.xs.length = 8 ∨ ns.length > 4 then .error (ln, 65) else
        if (ns.map (placeF t.fs)).contains (-1) then .error (ln, 66) else if mayB t.tb ⟨nm, ns.map (placeF t.fs), F1.1, F2.1, F3.1⟩ = false then .error (ln, 67) else
        .ok (tbs us ++ [{ t.tb with xs := t.tb.xs ++ [⟨nm, ns.map (placeF t.fs), F1.1, F2.1, F3.1⟩] }], bg)) := by
    have hany : t.tb.xs.any (fun x => decide (x.n = nm)) = t.xs.any (fun x => decide (x.x.n = nm)) := by show (t.xs.map (·.x)).any _ = _; rw [List.any_map]; rfl
    have hxl : t.tb.xs.length = t.xs.length := by show (t.xs.map (·.x)).length = _; simp
    rw [Hid, hO1.out, if_neg h2, if_neg h3, tbs_snoc, List.getLast?_concat]
    dsimp only
    rw [hany, hxl, List.dropLast_concat]
    rfl
  clear hgb t0
  go_wp2_with fail
  refine (table_some rb g us.length tc ln bg _ (by omega) hcap' HR11.out).mono ?_; rintro e w14 ⟨rfl, m, hw14⟩
  have hb14 : Below w13.heap.size w13 w14 := hw14 ▸ below_draws w13 m
  clear hw14
  have hBb : B ≤ w13.heap.size := by have := HFr10.out.below.size; omega
  have HR14 : Hid (RdAt w14 rb (.slice (some ⟨g, 0, none⟩) (us.length + 1) tc) ln bg) := HR11.out.below hb14
  have HT14 : Hid (Tabs w14 B (.slice (some ⟨g, 0, none⟩) (us ++ [t]).length tc) (us ++ [t])) := HT10.out.below hb14
  have HX14 : Hid (XBox w14 xb nm (.slice none 0 0) F1.1 F2.1 F3.1) := HX10.out.below hb14
  have HS14 : Hid (StrsAt w14 nb ns) := HS10.out.below hb14
  have HFr14 : Hid (Fr B w1 w14) := HFr10.out.trans (Fr.ofBelow hb14 hBb)
  have hBb14 : B ≤ w14.heap.size := Nat.le_trans hBb hb14.size
  have hgt14 : g < w14.heap.size := Nat.lt_of_lt_of_le hgt hb14.size
  have hxt14 : xb < w14.heap.size := lt_blk HX14.out
  have x0' : w14.cell? ⟨xb, 0, none⟩ = some (.string nm) := by rw [cell_blk HX14.out]; rfl
  have t1' : w14.cell? ⟨g, us.length * 3 + 1, none⟩ = some (.slice t.fa t.fs.length t.fc) := by rw [hb14.cell (by exact hgt)]; exact t1
  have t2' : w14.cell? ⟨g, us.length * 3 + 2, none⟩ = some (.slice t.xa t.xs.length t.xc) := by rw [hb14.cell (by exact hgt)]; exact t2
  have hxm := hok.xmost
  have hfm := hok.fmost
  clear x0 t1 t2 HR10 HT10 HX10 HS10 HFr10 HR11 hb14
  cases h6 : t.xs.any (fun x => decide (x.x.n = nm)) with
  | true =>
    have HO : Hid (rIndex ln ws (tbs (us ++ [t]), bg) = .error (ln, 64)) := by rw [Hid, HO2.out, if_pos (.inl h6)]
    go_wp2_with fail
    refine wp_region_held_drew (S := fun W => W.cell? ⟨xb, 0, none⟩ = some (.string nm) ∧ W.cell? ⟨g, us.length * 3 + 2, none⟩ = some (.slice t.xa t.xs.length t.xc)) (by kernel_rfl) ⟨x0', t2'⟩ (fun hHeld => ?_)
    refine wpAnyH_take (i := 0) (v := ?v1) rfl (by kernel_rfl) (by kernel_rfl) (by kernel_rfl) (fun _ _ _ h => h) (Or.inl ⟨by rfl, ?hy1⟩) hHeld ?rest1
    case hy1 => (intro w hSw; (try dsimp only at hSw); go_simp; try with_reducible rfl)
    simp only [Act.put]
    try simp only [List.setIfInBounds_toArray]
    try simp only [List.set_cons_succ]
    try simp only [List.set_cons_zero]
    refine wpAnyH_take (i := 1) (v := ?v2) rfl (by kernel_rfl) (by kernel_rfl) (by kernel_rfl) (fun _ _ _ h => h) (Or.inl ⟨by rfl, ?hy2⟩) hHeld ?rest2
    case hy2 => (intro w hSw; (try dsimp only at hSw); go_simp; try with_reducible rfl)
    simp only [Act.put]
    try simp only [List.setIfInBounds_toArray]
    try simp only [List.set_cons_succ]
    try simp only [List.set_cons_zero]
    refine wpAnyH_take (i := 2) (v := ?v3) rfl (by kernel_rfl) (by kernel_rfl) (by kernel_rfl) (fun _ _ _ h => h) (Or.inl ⟨by rfl, ?hy3⟩) hHeld ?rest3
    case hy3 => (intro w hSw; (try dsimp only at hSw); go_simp; try with_reducible rfl)
    simp only [Act.put]
    try simp only [List.setIfInBounds_toArray]
    try simp only [List.set_cons_succ]
    try simp only [List.set_cons_zero]
    refine wpAnyH_take (i := 3) (v := ?v4) rfl (by kernel_rfl) (by kernel_rfl) (by kernel_rfl) (fun _ _ _ h => h) (Or.inl ⟨by rfl, ?hy4⟩) hHeld ?rest4
    case hy4 => (intro w hSw; (try dsimp only at hSw); go_simp; try with_reducible rfl)
    simp only [Act.put]
    try simp only [List.setIfInBounds_toArray]
    try simp only [List.set_cons_succ]
    try simp only [List.set_cons_zero]
    refine wpAnyH_take (i := 4) (v := ?v5) rfl (by kernel_rfl) (by kernel_rfl) (by kernel_rfl) (fun _ _ _ h => h) (Or.inl ⟨by rfl, ?hy5⟩) hHeld ?rest5
    case hy5 => (intro w hSw; (try dsimp only at hSw); go_simp; try with_reducible rfl)
    simp only [Act.put]
    try simp only [List.setIfInBounds_toArray]
    try simp only [List.set_cons_succ]
    try simp only [List.set_cons_zero]
    refine wpAnyH_take (i := 5) (v := ?v6) rfl (by kernel_rfl) (by kernel_rfl) (by kernel_rfl) (fun _ _ _ h => h) (Or.inl ⟨by rfl, ?hy6⟩) hHeld ?rest6
    case hy6 => (intro w hSw; (try dsimp only at hSw); go_simp; try with_reducible rfl)
    simp only [Act.put]
    try simp only [List.setIfInBounds_toArray]
    try simp only [List.set_cons_succ]
    try simp only [List.set_cons_zero]
    refine wpAnyH_take (i := 6) (v := ?v7) rfl (by kernel_rfl) (by kernel_rfl) (by kernel_rfl) (fun _ _ _ h => h) (Or.inl ⟨by rfl, ?hy7⟩) hHeld ?rest7
    case hy7 => (intro w hSw; (try dsimp only at hSw); go_simp; try with_reducible rfl)
    simp only [Act.put]
    try simp only [List.setIfInBounds_toArray]
    try simp only [List.set_cons_succ]
    try simp only [List.set_cons_zero]
    refine wpAnyH_ready (rs := [7]) (by kernel_rfl) (by simp) ?_
    refine AllReadyH.cons rfl (fun K hK => ?_) AllReadyH.nil
    go_simp
    go_wp2_with fail
    refine (hasIndex_calls t.xa t.xc t.xs nm _ hxm (by exact (row_cells (HT14.out.tab t (by simp)).xs).below ⟨rfl, rfl, rfl, Nat.le_refl _, fun _ _ => rfl⟩)).mono ?_
    rintro e w15 ⟨rfl, hb15⟩
    have HB15 : Hid (Below w14.heap.size w14 w15) := ⟨hb15.os, hb15.tape, hb15.output, hb15.size, hb15.block⟩
    have q3 : w15.cell? ⟨xb, 0, none⟩ = some (.string nm) ∧ w15.cell? ⟨g, us.length * 3 + 2, none⟩ = some (.slice t.xa t.xs.length t.xc) := ⟨by rw [hb15.cell (by exact hxt14)]; exact x0', by rw [hb15.cell (by exact hgt14)]; exact t2'⟩
    clear hb15 hHeld
    rw [h6]
    dsimp only
    refine hK.out _ _ q3 (fun hHeld => ?_)
    clear hK K
    refine wpAnyH_take (i := 8) (v := ?v8) rfl (by kernel_rfl) (by kernel_rfl) (by kernel_rfl) (fun _ _ _ h => h) (Or.inl ⟨by rfl, ?hy8⟩) hHeld ?rest8
    case hy8 => (intro w hSw; (try dsimp only at hSw); go_simp; try with_reducible rfl)
    simp only [Act.put]
    try simp only [List.setIfInBounds_toArray]
    try simp only [List.set_cons_succ]
    try simp only [List.set_cons_zero]
    refine wpAnyH_take (i := 9) (v := undef) rfl (by kernel_rfl) (by kernel_rfl) (by kernel_rfl) (fun _ _ _ h => h) (Or.inr ⟨by rfl, rfl⟩) hHeld ?rest9
    simp only [Act.put]
    try simp only [List.setIfInBounds_toArray]
    try simp only [List.set_cons_succ]
    try simp only [List.set_cons_zero]
    refine wpAnyH_take (i := 10) (v := undef) rfl (by kernel_rfl) (by kernel_rfl) (by kernel_rfl) (fun _ _ _ h => h) (Or.inr ⟨by rfl, rfl⟩) hHeld ?rest10
    simp only [Act.put]
    try simp only [List.setIfInBounds_toArray]
    try simp only [List.set_cons_succ]
    try simp only [List.set_cons_zero]
    refine wpAnyH_take (i := 11) (v := ?v11) rfl (by kernel_rfl) (by kernel_rfl) (by kernel_rfl) (fun _ _ _ h => h) (Or.inl ⟨by rfl, ?hy11⟩) hHeld ?rest11
    case hy11 => (intro w hSw; (try dsimp only at hSw); go_simp; try with_reducible rfl)
    simp only [Act.put]
    try simp only [List.setIfInBounds_toArray]
    try simp only [List.set_cons_succ]
    try simp only [List.set_cons_zero]
    refine wpAnyH_ready (rs := [12]) (by kernel_rfl) (by simp) ?_
    refine AllReadyH.cons rfl (fun K hK => ?_) AllReadyH.nil
    go_simp
    go_wp2_with fail
    refine (refuse_do rb _ ln bg 64 _ (HR14.out.below HB15.out)).mono ?_
    rintro e w16 ⟨rfl, rfl⟩
    clear hK
    go_wp2
    rw [HO.out]
    exact ⟨rfl, rfl, HFr14.out.trans (Fr.ofBelow HB15.out hBb14)⟩
  | false =>
  cases h7 : twiceW ns with
  | true =>
    have HO : Hid (rIndex ln ws (tbs (us ++ [t]), bg) = .error (ln, 64)) := by rw [Hid, HO2.out, if_pos (.inr h7)]
    go_wp2_with fail
    refine wp_region_held_drew (S := fun W => W.cell? ⟨xb, 0, none⟩ = some (.string nm) ∧ W.cell? ⟨g, us.length * 3 + 2, none⟩ = some (.slice t.xa t.xs.length t.xc)) (by kernel_rfl) ⟨x0', t2'⟩ (fun hHeld => ?_)
    refine wpAnyH_take (i := 0) (v := ?v12) rfl (by kernel_rfl) (by kernel_rfl) (by kernel_rfl) (fun _ _ _ h => h) (Or.inl ⟨by rfl, ?hy12⟩) hHeld ?rest12
    case hy12 => (intro w hSw; (try dsimp only at hSw); go_simp; try with_reducible rfl)
    simp only [Act.put]
    try simp only [List.setIfInBounds_toArray]
    try simp only [List.set_cons_succ]
    try simp only [List.set_cons_zero]
    refine wpAnyH_take (i := 1) (v := ?v13) rfl (by kernel_rfl) (by kernel_rfl) (by kernel_rfl) (fun _ _ _ h => h) (Or.inl ⟨by rfl, ?hy13⟩) hHeld ?rest13
    case hy13 => (intro w hSw; (try dsimp only at hSw); go_simp; try with_reducible rfl)
    simp only [Act.put]
    try simp only [List.setIfInBounds_toArray]
    try simp only [List.set_cons_succ]
    try simp only [List.set_cons_zero]
    refine wpAnyH_take (i := 2) (v := ?v14) rfl (by kernel_rfl) (by kernel_rfl) (by kernel_rfl) (fun _ _ _ h => h) (Or.inl ⟨by rfl, ?hy14⟩) hHeld ?rest14
    case hy14 => (intro w hSw; (try dsimp only at hSw); go_simp; try with_reducible rfl)
    simp only [Act.put]
    try simp only [List.setIfInBounds_toArray]
    try simp only [List.set_cons_succ]
    try simp only [List.set_cons_zero]
    refine wpAnyH_take (i := 3) (v := ?v15) rfl (by kernel_rfl) (by kernel_rfl) (by kernel_rfl) (fun _ _ _ h => h) (Or.inl ⟨by rfl, ?hy15⟩) hHeld ?rest15
    case hy15 => (intro w hSw; (try dsimp only at hSw); go_simp; try with_reducible rfl)
    simp only [Act.put]
    try simp only [List.setIfInBounds_toArray]
    try simp only [List.set_cons_succ]
    try simp only [List.set_cons_zero]
    refine wpAnyH_take (i := 4) (v := ?v16) rfl (by kernel_rfl) (by kernel_rfl) (by kernel_rfl) (fun _ _ _ h => h) (Or.inl ⟨by rfl, ?hy16⟩) hHeld ?rest16
    case hy16 => (intro w hSw; (try dsimp only at hSw); go_simp; try with_reducible rfl)
    simp only [Act.put]
    try simp only [List.setIfInBounds_toArray]
    try simp only [List.set_cons_succ]
    try simp only [List.set_cons_zero]
    refine wpAnyH_take (i := 5) (v := ?v17) rfl (by kernel_rfl) (by kernel_rfl) (by kernel_rfl) (fun _ _ _ h => h) (Or.inl ⟨by rfl, ?hy17⟩) hHeld ?rest17
    case hy17 => (intro w hSw; (try dsimp only at hSw); go_simp; try with_reducible rfl)
    simp only [Act.put]
    try simp only [List.setIfInBounds_toArray]
    try simp only [List.set_cons_succ]
    try simp only [List.set_cons_zero]
    refine wpAnyH_take (i := 6) (v := ?v18) rfl (by kernel_rfl) (by kernel_rfl) (by kernel_rfl) (fun _ _ _ h => h) (Or.inl ⟨by rfl, ?hy18⟩) hHeld ?rest18
    case hy18 => (intro w hSw; (try dsimp only at hSw); go_simp; try with_reducible rfl)
    simp only [Act.put]
    try simp only [List.setIfInBounds_toArray]
    try simp only [List.set_cons_succ]
    try simp only [List.set_cons_zero]
    refine wpAnyH_ready (rs := [7]) (by kernel_rfl) (by simp) ?_
    refine AllReadyH.cons rfl (fun K hK => ?_) AllReadyH.nil
    go_simp
    go_wp2_with fail
    refine (hasIndex_calls t.xa t.xc t.xs nm _ hxm (by exact (row_cells (HT14.out.tab t (by simp)).xs).below ⟨rfl, rfl, rfl, Nat.le_refl _, fun _ _ => rfl⟩)).mono ?_
    rintro e w15 ⟨rfl, hb15⟩
    have HB15 : Hid (Below w14.heap.size w14 w15) := ⟨hb15.os, hb15.tape, hb15.output, hb15.size, hb15.block⟩
    have q3 : w15.cell? ⟨xb, 0, none⟩ = some (.string nm) ∧ w15.cell? ⟨g, us.length * 3 + 2, none⟩ = some (.slice t.xa t.xs.length t.xc) := ⟨by rw [hb15.cell (by exact hxt14)]; exact x0', by rw [hb15.cell (by exact hgt14)]; exact t2'⟩
    clear hb15 hHeld
    rw [h6]
    dsimp only
    refine hK.out _ _ q3 (fun hHeld => ?_)
    clear hK K
    refine wpAnyH_take (i := 8) (v := ?v19) rfl (by kernel_rfl) (by kernel_rfl) (by kernel_rfl) (fun _ _ _ h => h) (Or.inl ⟨by rfl, ?hy19⟩) hHeld ?rest19
    case hy19 => (intro w hSw; (try dsimp only at hSw); go_simp; try with_reducible rfl)
    simp only [Act.put]
    try simp only [List.setIfInBounds_toArray]
    try simp only [List.set_cons_succ]
    try simp only [List.set_cons_zero]
    refine wpAnyH_take (i := 9) (v := ?v20) rfl (by kernel_rfl) (by kernel_rfl) (by kernel_rfl) (fun _ _ _ h => h) (Or.inl ⟨by rfl, ?hy20⟩) hHeld ?rest20
    case hy20 => (intro w hSw; (try dsimp only at hSw); go_simp; try with_reducible rfl)
    simp only [Act.put]
    try simp only [List.setIfInBounds_toArray]
    try simp only [List.set_cons_succ]
    try simp only [List.set_cons_zero]
    refine wpAnyH_ready (rs := [10]) (by kernel_rfl) (by simp) ?_
    refine AllReadyH.cons rfl (fun K hK => ?_) AllReadyH.nil
    go_simp
    go_wp2_with fail
    refine (anyTwice_calls nb 0 ns.length ns _ (Nat.le_refl _) hnl (HS14.out.below HB15.out).cells).mono ?_
    rintro e w16 ⟨rfl, rfl⟩
    rw [h7]
    dsimp only
    refine hK.out _ _ q3 (fun hHeld => ?_)
    clear hK K
    refine wpAnyH_take (i := 11) (v := ?v21) rfl (by kernel_rfl) (by kernel_rfl) (by kernel_rfl) (fun _ _ _ h => h) (Or.inl ⟨by rfl, ?hy21⟩) hHeld ?rest21
    case hy21 => (intro w hSw; (try dsimp only at hSw); go_simp; try with_reducible rfl)
    simp only [Act.put]
    try simp only [List.setIfInBounds_toArray]
    try simp only [List.set_cons_succ]
    try simp only [List.set_cons_zero]
    refine wpAnyH_ready (rs := [12]) (by kernel_rfl) (by simp) ?_
    refine AllReadyH.cons rfl (fun K hK => ?_) AllReadyH.nil
    go_simp
    go_wp2_with fail
    refine (refuse_do rb _ ln bg 64 _ (HR14.out.below HB15.out)).mono ?_
    rintro e w17 ⟨rfl, rfl⟩
    clear hK
    go_wp2
    rw [HO.out]
    exact ⟨rfl, rfl, HFr14.out.trans (Fr.ofBelow HB15.out hBb14)⟩
  | false =>
  go_wp2_with fail
  go_region_held3 (fun W => W.cell? ⟨xb, 0, none⟩ = some (.string nm) ∧ W.cell? ⟨g, us.length * 3 + 2, none⟩ = some (.slice t.xa t.xs.length t.xc)) (first | (exact q3) | go_keep)
    (first
      | (go_at_call 50
         refine (hasIndex_calls t.xa t.xc t.xs nm _ hxm (by exact (row_cells (HT14.out.tab t (by simp)).xs).below ⟨rfl, rfl, rfl, Nat.le_refl _, fun _ _ => rfl⟩)).mono ?_
         rintro e w15 ⟨rfl, hb15⟩
         have HB15 : Hid (Below w14.heap.size w14 w15) := ⟨hb15.os, hb15.tape, hb15.output, hb15.size, hb15.block⟩
         have q3 : w15.cell? ⟨xb, 0, none⟩ = some (.string nm) ∧ w15.cell? ⟨g, us.length * 3 + 2, none⟩ = some (.slice t.xa t.xs.length t.xc) := ⟨by rw [hb15.cell (by exact hxt14)]; exact x0', by rw [hb15.cell (by exact hgt14)]; exact t2'⟩
         clear hb15
         rw [h6])
      | (go_at_call 51
         refine (anyTwice_calls nb 0 ns.length ns _ (Nat.le_refl _) hnl (HS14.out.below HB15.out).cells).mono ?_
         rintro e w16 ⟨rfl, rfl⟩
         rw [h7])
      | (go_at_call 25
         refine (refuse_not rb 64 _).mono ?_
         rintro e w17 ⟨rfl, rfl⟩))
  have hBw17 : B ≤ w17.heap.size := Nat.le_trans hBb14 HB15.out.size
  have HI0 : Hid (IxI B w17.heap.size w1 rb xb nb g tc us t ln bg nm ns F1.1 F2.1 F3.1 0 (.slice none 0 0) w17) :=
    ⟨HR14.out.below HB15.out, HT14.out.below HB15.out, HX14.out.below HB15.out, HS14.out.below HB15.out, HFr14.out.trans (Fr.ofBelow HB15.out hBb14), World.ownsRow_nil _ _ _ _, Nat.le_refl _,
      fun t' ht' y hy j hj => (World.ownsRow.lt (((HT14.out.below HB15.out).tab t' ht').ov y hy) j hj).2,
      fun t' ht' e => by have := (World.ownsRow.lt (HT.out.tab t' ht').xs xb e).2; omega⟩
  have hxn : XBox w17 xb nm (.slice none 0 0) F1.1 F2.1 F3.1 := HI0.out.bx
  have t2'' : w17.cell? ⟨g, us.length * 3 + 2, none⟩ = some (.slice t.xa t.xs.length t.xc) := q3.2
  clear x0' t1' t2' q3 HR14 HT14 HX14 HS14 HFr14 hxn HB15
  by_cases h8 : t.xs.length = 8 ∨ ns.length > 4
  · have HO : Hid (rIndex ln ws (tbs (us ++ [t]), bg) = .error (ln, 65)) := by rw [Hid, HO2.out, if_neg (by simp [h6, h7]), if_pos h8]
    by_cases h9 : t.xs.length = 8
    · have q9 : ((t.xs.length : Int) == 8) = true := by simp; omega
      clear h9 h8
      go_wp2_with fail
      refine (refuse_do rb _ ln bg 65 _ HI0.out.rd).mono ?_; rintro e w18 ⟨rfl, rfl⟩
      go_wp2
      rw [HO.out]
      exact ⟨rfl, rfl, HI0.out.fr⟩
    · have q9 : ((t.xs.length : Int) == 8) = false := by simp; omega
      have q10 : decide ((4 : Int) < (ns.length : Int)) = true := by rw [decide_eq_true_eq]; omega
      clear h9 h8
      go_wp2_with fail
      refine (refuse_do rb _ ln bg 65 _ HI0.out.rd).mono ?_; rintro e w18 ⟨rfl, rfl⟩
      go_wp2
      rw [HO.out]
      exact ⟨rfl, rfl, HI0.out.fr⟩
  have h9 : ¬ t.xs.length = 8 := fun e => h8 (.inl e)
  have h10 : ns.length ≤ 4 := Nat.le_of_not_lt fun e => h8 (.inr e)
  have HO3 : Hid (rIndex ln ws (tbs (us ++ [t]), bg) = if (ns.map (placeF t.fs)).contains (-1) then .error (ln, 66) else if mayB t.tb ⟨nm, ns.map (placeF t.fs), F1.1, F2.1, F3.1⟩ = false then .error (ln, 67) else
        .ok (tbs us ++ [{ t.tb with xs := t.tb.xs ++ [⟨nm, ns.map (placeF t.fs), F1.1, F2.1, F3.1⟩] }], bg)) := by rw [Hid, HO2.out, if_neg (by simp [h6, h7]), if_neg h8]
  have q9 : ((t.xs.length : Int) == 8) = false := by simp; omega
  have q10 : decide ((4 : Int) < (ns.length : Int)) = false := by rw [decide_eq_false_iff_not]; omega
  have hx8 : t.xs.length < 8 := by omega
  clear h9 h8 HO2
  go_wp2_with fail
  refine (refuse_not rb 65 _).mono ?_; rintro e w18 ⟨rfl, rfl⟩
  clear t2''
  have hBx : B ≤ xb := by omega
  go_wp2_with fail
  go_loopw [9, 89] (fun y i wr => ∃ (k : Nat) (v : Value), k ≤ ns.length ∧ i = .int .i64 k ∧ Hid (IxI B w18.heap.size w1 rb xb nb g tc us t ln bg nm ns F1.1 F2.1 F3.1 k v wr)) (fun _ i _ => ns.length - (intOf i).toNat)
  case atStart => exact ⟨0, _, Nat.zero_le _, rfl, HI0.out⟩
  case round =>
    obtain ⟨k, v, hk, rfl, HI⟩ := hrel
    by_cases hlt : k < ns.length
    · have c0 := HI.out.st.cell k hlt
      obtain ⟨va, vc, rfl, -⟩ := row_forms HI.out.ov
      obtain ⟨g', eg, -, -, t1, -, -⟩ := HI.out.tb.lastAt
      simp only [Option.some.injEq, Addr.mk.injEq] at eg
      obtain ⟨rfl, -, -⟩ := eg
      have x1 : wr.cell? ⟨xb, 1, none⟩ = some (.slice va k vc) := by rw [cell_blk HI.out.bx]; rfl
      have hxr : xb < wr.heap.size := lt_blk HI.out.bx
      obtain ⟨nk, hnk⟩ : ∃ z, z = ns[k] := ⟨_, rfl⟩
      have HNK : Hid (ns.take (k + 1) = ns.take k ++ [nk]) := by rw [hnk]; exact List.take_succ_eq_append_getElem hlt
      rw [← hnk] at c0
      clear hnk
      obtain ⟨i0, hi, hz0, hz1, hz2⟩ := info_of info_num
      have hfr := (HI.out.tb.tab t (by simp)).fs
      have HFC : Hid (CellsAt wr t.fa (fcs t.fs)) := row_cells hfr
      clear hfr
      go_wp2_with fail
      go_region_law
        (first
          | (refine step_append_lies _ rfl (.tmp 94) (.tmp 101) 36 rfl w18.heap.size 3 i0 _ 1 8 Tryd.underlying36 hi hz0 hz1 hz2 rfl (by decide) (.slice va k vc) k _ rfl ((row_below HI.out.ov HB15.out).alloc _) _ 1 1 [.int .i64 (placeF t.fs nk)] rfl rfl (cells_new _ _ _) (by simp [Value.oneCell']) (by decide) (by unfold maxLen; omega) (by omega) (by have h1 := HI.out.sz; have h2 := HB15.out.size; simp; omega) _ rfl ?_
             intro g4 cap4 w4 ho4 hg4 hat4 hlt4
             have HG4 : Hid (Grew w15 w4 (.slice va k vc) (.slice (some ⟨g4, 0, none⟩) (k + 1) cap4)) := grew_lies (o := .cells #[.int .i64 (placeF t.fs nk)] 3) ⟨hg4.os, hg4.tape, hg4.output, hg4.size, hg4.block⟩ hat4 rfl
             have HI4 : Hid (IxI B w18.heap.size w1 rb xb nb g tc us t ln bg nm ns F1.1 F2.1 F3.1 (k + 1) (.slice (some ⟨g4, 0, none⟩) (k + 1) cap4) (w4.setCell ⟨xb, 1, none⟩ (.slice (some ⟨g4, 0, none⟩) (k + 1) cap4)) ∧ w4.cell? ⟨xb, 1, none⟩ = some (.slice va k vc) ∧ w4.frozen? ⟨xb, 1, none⟩ = false) := HI.out.next HB15.out HG4.out ho4 HNK.out hBx hBw17
             have x4 := HI4.out.2.1
             have z4 := HI4.out.2.2
             clear ho4 hg4 hat4 hlt4 HG4)
          | (go_simp
             go_at_call 47
             refine (fieldPlace_calls t.fa t.fc t.fs nk _ hfm (by exact HFC.out.below ⟨rfl, rfl, rfl, Nat.le_refl _, fun _ _ => rfl⟩)).mono ?_
             rintro e w15 ⟨rfl, hb15⟩
             have HB15 : Hid (Below wr.heap.size wr w15) := ⟨hb15.os, hb15.tape, hb15.output, hb15.size, hb15.block⟩
             have x1' : w15.cell? ⟨xb, 1, none⟩ = some (.slice va k vc) := by rw [HB15.out.cell (by exact hxr)]; exact x1
             have hxr' : xb < w15.heap.size := Nat.lt_of_lt_of_le hxr HB15.out.size
             clear hb15
             dsimp only))
      all_goals
        go_wp2
        go_roundw
        case rel => exact ⟨k + 1, _, by omega, by go_num, HI4.out.1⟩
        case measure => simp [intOf]; omega
    · obtain rfl : k = ns.length := by omega
      clear hlt hk
      obtain ⟨va, vc, rfl, hva⟩ := row_forms HI.out.ov
      obtain ⟨gv, rfl⟩ := hva hn0
      obtain ⟨g', eg, -, t0, t1, t2, -⟩ := HI.out.tb.lastAt
      simp only [Option.some.injEq, Addr.mk.injEq] at eg
      obtain ⟨rfl, -, -⟩ := eg
      have x0 : wr.cell? ⟨xb, 0, none⟩ = some (.string nm) := by rw [cell_blk HI.out.bx]; rfl
      have x1 : wr.cell? ⟨xb, 1, none⟩ = some (.slice (some ⟨gv, 0, none⟩) ns.length vc) := by rw [cell_blk HI.out.bx]; rfl
      have x2 : wr.cell? ⟨xb, 2, none⟩ = some (.bool F1.1) := by rw [cell_blk HI.out.bx]; rfl
      have x3 : wr.cell? ⟨xb, 3, none⟩ = some (.bool F2.1) := by rw [cell_blk HI.out.bx]; rfl
      have x4 : wr.cell? ⟨xb, 4, none⟩ = some (.bool F3.1) := by rw [cell_blk HI.out.bx]; rfl
      obtain ⟨pl, hpl⟩ : ∃ pl, pl = ns.map (placeF t.fs) := ⟨_, rfl⟩
      have HPL : Hid (pl.length = ns.length) := by rw [Hid, hpl, List.length_map]
      have HOV : Hid (wr.ownsRow w18.heap.size 3 1 (.slice (some ⟨gv, 0, none⟩) pl.length vc) pl.length (ics pl)) := by
        have := HI.out.ov
        rw [List.take_length, ← hpl] at this
        rw [HPL.out]
        exact this
      rw [← hpl] at HO3
      have HPR : Hid (∀ p ∈ pl, p = -1 ∨ (0 ≤ p ∧ p < t.fs.length)) := by
        intro p hp
        rw [hpl] at hp
        obtain ⟨a, _, rfl⟩ := List.mem_map.1 hp
        exact place_range t.fs a
      clear hpl
      have hxr : xb < wr.heap.size := lt_blk HI.out.bx
      have hgr : g < wr.heap.size := World.block_lt_of_cell? wr _ t1
      have HCC : Hid (∀ j, j < pl.length → wr.cell? ⟨gv, 0 + j, none⟩ = some (.int .i64 (pl.getD j 0))) := by
        intro j hj
        obtain ⟨b', off', e, c⟩ := (row_cells HOV.out).num j hj
        simp only [Option.some.injEq, Addr.mk.injEq] at e
        obtain ⟨rfl, rfl, _⟩ := e
        rw [c, List.getD_eq_getElem?_getD, List.getElem?_eq_getElem hj]
        rfl
      have hBr : B ≤ wr.heap.size := Nat.le_trans hBw17 HI.out.sz
      go_wp2_with fail
      refine (Tryd.slices_Contains_int gv 0 ns.length vc pl (-1) _ (by rw [HPL.out]; exact Nat.le_refl _) (by omega) HCC.out).mono ?_
      rintro e w20 ⟨rfl, rfl⟩
      rw [← HPL.out, List.take_length, HPL.out]
      cases h11 : pl.contains (-1) with
      | true =>
        have HO : Hid (rIndex ln ws (tbs (us ++ [t]), bg) = .error (ln, 66)) := by rw [Hid, HO3.out, if_pos h11]
        go_wp2_with fail
        refine (refuse_do rb _ ln bg 66 _ HI.out.rd).mono ?_; rintro e w21 ⟨rfl, rfl⟩
        go_wp2
        rw [HO.out]
        exact ⟨rfl, rfl, HI.out.fr⟩
      | false =>
      go_wp2_with fail
      refine (refuse_not rb 66 _).mono ?_; rintro e w21 ⟨rfl, rfl⟩
      have HPV : Hid (∀ p ∈ pl, 0 ≤ p ∧ p < t.fs.length) := by
        intro p hp
        rcases HPR.out p hp with rfl | h
        · have : pl.contains (-1) = true := by simpa using hp
          rw [h11] at this; cases this
        · exact h
      have HM : Hid (∀ W, Below w21.heap.size w21 W → Calls Tryd.prog 53 #[.agg #[.string t.n, .slice t.fa t.fs.length t.fc, .slice t.xa t.xs.length t.xc], .agg #[.string nm, .slice (some ⟨gv, 0, none⟩) ns.length vc, .bool F1.1, .bool F2.1, .bool F3.1]] W
          fun e w' => e = .returned (.bool (mayB t.tb ⟨nm, pl, F1.1, F2.1, F3.1⟩)) ∧ Below W.heap.size W w') := by
        intro W hW
        have := mayStand_calls t ⟨⟨nm, pl, F1.1, F2.1, F3.1⟩, some ⟨gv, 0, none⟩, vc⟩ W ((row_cells (HI.out.tb.tab t (by simp)).fs).below hW) ((row_cells HOV.out).below hW) hfm hxm (by show pl.length ≤ 4; rw [HPL.out]; exact h10) HPV.out
        dsimp only at this
        rw [HPL.out] at this
        exact this
      cases h12 : mayB t.tb ⟨nm, pl, F1.1, F2.1, F3.1⟩ with
      | false =>
        have HO : Hid (rIndex ln ws (tbs (us ++ [t]), bg) = .error (ln, 67)) := by rw [Hid, HO3.out, if_neg (fun h => by rw [h11] at h; cases h), if_pos h12]
        go_wp2_with fail
        refine wp_region_held_drew (S := fun W => W.cell? ⟨g, us.length * 3, none⟩ = some (.string t.n) ∧ W.cell? ⟨g, us.length * 3 + 1, none⟩ = some (.slice t.fa t.fs.length t.fc) ∧ W.cell? ⟨g, us.length * 3 + 2, none⟩ = some (.slice t.xa t.xs.length t.xc) ∧ W.cell? ⟨xb, 0, none⟩ = some (.string nm) ∧ W.cell? ⟨xb, 1, none⟩ = some (.slice (some ⟨gv, 0, none⟩) ns.length vc) ∧ W.cell? ⟨xb, 2, none⟩ = some (.bool F1.1) ∧ W.cell? ⟨xb, 3, none⟩ = some (.bool F2.1) ∧ W.cell? ⟨xb, 4, none⟩ = some (.bool F3.1)) (by kernel_rfl) ⟨t0, t1, t2, x0, x1, x2, x3, x4⟩ (fun hHeld => ?_)
        refine wpAnyH_take (i := 0) (v := ?v22) rfl (by kernel_rfl) (by kernel_rfl) (by kernel_rfl) (fun _ _ _ h => h) (Or.inl ⟨by rfl, ?hy22⟩) hHeld ?rest22
        case hy22 => (intro w hSw; (try dsimp only at hSw); go_simp; try with_reducible rfl)
        simp only [Act.put]
        try simp only [List.setIfInBounds_toArray]
        try simp only [List.set_cons_succ]
        try simp only [List.set_cons_zero]
        refine wpAnyH_take (i := 1) (v := ?v23) rfl (by kernel_rfl) (by kernel_rfl) (by kernel_rfl) (fun _ _ _ h => h) (Or.inl ⟨by rfl, ?hy23⟩) hHeld ?rest23
        case hy23 => (intro w hSw; (try dsimp only at hSw); go_simp; try with_reducible rfl)
        simp only [Act.put]
        try simp only [List.setIfInBounds_toArray]
        try simp only [List.set_cons_succ]
        try simp only [List.set_cons_zero]
        refine wpAnyH_take (i := 2) (v := ?v24) rfl (by kernel_rfl) (by kernel_rfl) (by kernel_rfl) (fun _ _ _ h => h) (Or.inl ⟨by rfl, ?hy24⟩) hHeld ?rest24
        case hy24 => (intro w hSw; (try dsimp only at hSw); go_simp; try with_reducible rfl)
        simp only [Act.put]
        try simp only [List.setIfInBounds_toArray]
        try simp only [List.set_cons_succ]
        try simp only [List.set_cons_zero]
        refine wpAnyH_take (i := 3) (v := ?v25) rfl (by kernel_rfl) (by kernel_rfl) (by kernel_rfl) (fun _ _ _ h => h) (Or.inl ⟨by rfl, ?hy25⟩) hHeld ?rest25
        case hy25 => (intro w hSw; (try dsimp only at hSw); go_simp; try with_reducible rfl)
        simp only [Act.put]
        try simp only [List.setIfInBounds_toArray]
        try simp only [List.set_cons_succ]
        try simp only [List.set_cons_zero]
        refine wpAnyH_take (i := 4) (v := ?v26) rfl (by kernel_rfl) (by kernel_rfl) (by kernel_rfl) (fun _ _ _ h => h) (Or.inl ⟨by rfl, ?hy26⟩) hHeld ?rest26
        case hy26 => (intro w hSw; (try dsimp only at hSw); go_simp; try with_reducible rfl)
        simp only [Act.put]
        try simp only [List.setIfInBounds_toArray]
        try simp only [List.set_cons_succ]
        try simp only [List.set_cons_zero]
        refine wpAnyH_ready (rs := [5]) (by kernel_rfl) (by simp) ?_
        refine AllReadyH.cons rfl (fun K hK => ?_) AllReadyH.nil
        go_simp
        go_wp2_with fail
        refine (HM.out w21.drew ⟨rfl, rfl, rfl, Nat.le_refl _, fun _ _ => rfl⟩).mono ?_
        rintro e w22 ⟨rfl, hb22⟩
        have HB22 : Hid (Below w21.heap.size w21 w22) := ⟨hb22.os, hb22.tape, hb22.output, hb22.size, hb22.block⟩
        have q3 : (fun W => W.cell? ⟨g, us.length * 3, none⟩ = some (.string t.n) ∧ W.cell? ⟨g, us.length * 3 + 1, none⟩ = some (.slice t.fa t.fs.length t.fc) ∧ W.cell? ⟨g, us.length * 3 + 2, none⟩ = some (.slice t.xa t.xs.length t.xc) ∧ W.cell? ⟨xb, 0, none⟩ = some (.string nm) ∧ W.cell? ⟨xb, 1, none⟩ = some (.slice (some ⟨gv, 0, none⟩) ns.length vc) ∧ W.cell? ⟨xb, 2, none⟩ = some (.bool F1.1) ∧ W.cell? ⟨xb, 3, none⟩ = some (.bool F2.1) ∧ W.cell? ⟨xb, 4, none⟩ = some (.bool F3.1)) w22 := by
          refine ⟨?_, ?_, ?_, ?_, ?_, ?_, ?_, ?_⟩
          · rw [HB22.out.cell (by exact hgr)]; exact t0
          · rw [HB22.out.cell (by exact hgr)]; exact t1
          · rw [HB22.out.cell (by exact hgr)]; exact t2
          · rw [HB22.out.cell (by exact hxr)]; exact x0
          · rw [HB22.out.cell (by exact hxr)]; exact x1
          · rw [HB22.out.cell (by exact hxr)]; exact x2
          · rw [HB22.out.cell (by exact hxr)]; exact x3
          · rw [HB22.out.cell (by exact hxr)]; exact x4
        clear hb22 hHeld
        rw [h12]
        dsimp only
        refine hK.out _ _ q3 (fun hHeld => ?_)
        clear hK K
        refine wpAnyH_take (i := 6) (v := ?v27) rfl (by kernel_rfl) (by kernel_rfl) (by kernel_rfl) (fun _ _ _ h => h) (Or.inl ⟨by rfl, ?hy27⟩) hHeld ?rest27
        case hy27 => (intro w hSw; (try dsimp only at hSw); go_simp; try with_reducible rfl)
        simp only [Act.put]
        try simp only [List.setIfInBounds_toArray]
        try simp only [List.set_cons_succ]
        try simp only [List.set_cons_zero]
        refine wpAnyH_ready (rs := [7]) (by kernel_rfl) (by simp) ?_
        refine AllReadyH.cons rfl (fun K hK => ?_) AllReadyH.nil
        go_simp
        go_wp2_with fail
        refine (refuse_do rb _ ln bg 67 _ (HI.out.rd.below HB22.out)).mono ?_
        rintro e w23 ⟨rfl, rfl⟩
        clear hK
        go_wp2
        rw [HO.out]
        exact ⟨rfl, rfl, HI.out.fr.trans (Fr.ofBelow HB22.out hBr)⟩
      | true =>
      have HO : Hid (rIndex ln ws (tbs (us ++ [t]), bg) = .ok (tbs us ++ [{ t.tb with xs := t.tb.xs ++ [⟨nm, pl, F1.1, F2.1, F3.1⟩] }], bg)) := by rw [Hid, HO3.out, if_neg (fun h => by rw [h11] at h; cases h), if_neg (fun h => by rw [h12] at h; cases h)]
      go_wp2_with fail
      go_region_held3 (fun W => W.cell? ⟨g, us.length * 3, none⟩ = some (.string t.n) ∧ W.cell? ⟨g, us.length * 3 + 1, none⟩ = some (.slice t.fa t.fs.length t.fc) ∧ W.cell? ⟨g, us.length * 3 + 2, none⟩ = some (.slice t.xa t.xs.length t.xc) ∧ W.cell? ⟨xb, 0, none⟩ = some (.string nm) ∧ W.cell? ⟨xb, 1, none⟩ = some (.slice (some ⟨gv, 0, none⟩) ns.length vc) ∧ W.cell? ⟨xb, 2, none⟩ = some (.bool F1.1) ∧ W.cell? ⟨xb, 3, none⟩ = some (.bool F2.1) ∧ W.cell? ⟨xb, 4, none⟩ = some (.bool F3.1)) (first | (exact q3) | go_keep)
        (first
          | (go_at_call 53
             refine (HM.out w21.drew ⟨rfl, rfl, rfl, Nat.le_refl _, fun _ _ => rfl⟩).mono ?_
             rintro e w22 ⟨rfl, hb22⟩
             have HB22 : Hid (Below w21.heap.size w21 w22) := ⟨hb22.os, hb22.tape, hb22.output, hb22.size, hb22.block⟩
             have q3 : (fun W => W.cell? ⟨g, us.length * 3, none⟩ = some (.string t.n) ∧ W.cell? ⟨g, us.length * 3 + 1, none⟩ = some (.slice t.fa t.fs.length t.fc) ∧ W.cell? ⟨g, us.length * 3 + 2, none⟩ = some (.slice t.xa t.xs.length t.xc) ∧ W.cell? ⟨xb, 0, none⟩ = some (.string nm) ∧ W.cell? ⟨xb, 1, none⟩ = some (.slice (some ⟨gv, 0, none⟩) ns.length vc) ∧ W.cell? ⟨xb, 2, none⟩ = some (.bool F1.1) ∧ W.cell? ⟨xb, 3, none⟩ = some (.bool F2.1) ∧ W.cell? ⟨xb, 4, none⟩ = some (.bool F3.1)) w22 := ⟨by rw [HB22.out.cell (by exact hgr)]; exact t0, by rw [HB22.out.cell (by exact hgr)]; exact t1, by rw [HB22.out.cell (by exact hgr)]; exact t2, by rw [HB22.out.cell (by exact hxr)]; exact x0, by rw [HB22.out.cell (by exact hxr)]; exact x1, by rw [HB22.out.cell (by exact hxr)]; exact x2, by rw [HB22.out.cell (by exact hxr)]; exact x3, by rw [HB22.out.cell (by exact hxr)]; exact x4⟩
             clear hb22
             rw [h12])
          | (go_at_call 25
             refine (refuse_not rb 67 _).mono ?_
             rintro e w23 ⟨rfl, rfl⟩))
      obtain ⟨t0', t1', t2', x0', x1', x2', x3', x4'⟩ := q3
      clear t0 t1 t2 x0 x1 x2 x3 x4
      have HRd : Hid (RdAt w23 rb (.slice (some ⟨g, 0, none⟩) (us.length + 1) tc) ln bg) := HI.out.rd.below HB22.out
      have HTb : Hid (Tabs w23 B (.slice (some ⟨g, 0, none⟩) (us ++ [t]).length tc) (us ++ [t])) := HI.out.tb.below HB22.out
      have HBx : Hid (XBox w23 xb nm (.slice (some ⟨gv, 0, none⟩) ns.length vc) F1.1 F2.1 F3.1) := HI.out.bx.below HB22.out
      have HOv : Hid (w23.ownsRow w18.heap.size 3 1 (.slice (some ⟨gv, 0, none⟩) pl.length vc) pl.length (ics pl)) := row_below HOV.out HB22.out
      have HFr : Hid (Fr B w1 w23) := HI.out.fr.trans (Fr.ofBelow HB22.out hBr)
      have hB23 : B ≤ w23.heap.size := Nat.le_trans hBr HB22.out.size
      have hg23 : g < w23.heap.size := Nat.lt_of_lt_of_le hgr HB22.out.size
      have hx23 : xb < w23.heap.size := Nat.lt_of_lt_of_le hxr HB22.out.size
      obtain ⟨i0, hi, hz0, hz1, hz2⟩ := info_of info_index
      go_wp2_with fail
      go_region_law
        (first
          | (refine step_append_lies _ rfl (.tmp 122) (.tmp 124) 33 rfl B 38 i0 _ 5 48 Tryd.underlying33 hi hz0 hz1 hz2 rfl (by decide) (.slice t.xa t.xs.length t.xc) t.xs.length (xcs t.xs) rfl ((HTb.out.tab t (by simp)).xs.alloc _) _ 1 1 [.string nm, .slice (some ⟨gv, 0, none⟩) ns.length vc, .bool F1.1, .bool F2.1, .bool F3.1] rfl rfl (cells_new _ _ _) (by simp [Value.oneCell']) (by decide) (by unfold maxLen; omega) (by omega) (by simp; omega) _ rfl ?_
             intro g4 cap4 w4 ho4 hg4 hat4 hlt4
             have HG4 : Hid (Grew w23 w4 (.slice t.xa t.xs.length t.xc) (.slice (some ⟨g4, 0, none⟩) (t.xs.length + 1) cap4)) := grew_lies (o := .cells #[.string nm, .slice (some ⟨gv, 0, none⟩) ns.length vc, .bool F1.1, .bool F2.1, .bool F3.1] 38) ⟨hg4.os, hg4.tape, hg4.output, hg4.size, hg4.block⟩ hat4 rfl
             have HO4 : Hid (w4.ownsRow B 38 5 (.slice (some ⟨g4, 0, none⟩) (t.xs.length + 1) cap4) (t.xs.length + 1) (xcs t.xs ++ [.string nm, .slice (some ⟨gv, 0, none⟩) ns.length vc, .bool F1.1, .bool F2.1, .bool F3.1])) := ho4
             have hne2 : some g ≠ t.xv.ownBlock := fun e => rows_ne (HTb.out.tab t (by simp)).xs HTb.out.row (by decide) g rfl e.symm
             have ht4 : w4.cell? ⟨g, us.length * 3 + 2, none⟩ = some (.slice t.xa t.xs.length t.xc) := HG4.out.cell t2' hne2
             have hz4 : w4.frozen? ⟨g, us.length * 3 + 2, none⟩ = false := World.ownsRow.frozenAt (row_grew HTb.out.row HG4.out (rows_ne HTb.out.row (HTb.out.tab t (by simp)).xs (by decide))) _
             clear ho4 hg4 hat4 hlt4 hne2))
      all_goals
        have hfr := (HTb.out.tab t (by simp)).xs
        have hTn := HTb.out.addIndex (x := ⟨⟨nm, pl, F1.1, F2.1, F3.1⟩, some ⟨gv, 0, none⟩, vc⟩) (N := w18.heap.size) (by have h := HO4.out; rw [← HPL.out] at h; exact h) HG4.out (row_mono HOv.out hBw17) (fun k hk => (World.ownsRow.lt HOv.out k hk).1) HI.out.old
          ⟨name_size HN.out.1, by show pl.length ≤ 4; rw [HPL.out]; exact h10, by show 0 < pl.length; rw [HPL.out]; exact hn0, HPV.out⟩ hx8
        have hR4 : RdAt w4 rb (.slice (some ⟨g, 0, none⟩) (us.length + 1) tc) ln bg := (HG4.out.grown.block rb (lt_blk HRd.out) (fun e => row_ne hfr HRd.out (by decide) e.symm)).trans HRd.out
        have hrt := row_grew HTb.out.row HG4.out (rows_ne HTb.out.row hfr (by decide))
        have hgrb : g ≠ rb := fun e => by subst e; exact row_ne HTb.out.row HRd.out (by decide) rfl
        have HRn : Hid (RdAt (w4.setCell ⟨g, us.length * 3 + 2, none⟩ (.slice (some ⟨g4, 0, none⟩) (t.xs.length + 1) cap4)) rb (.slice (some ⟨g, 0, none⟩) (us ++ [t]).length tc) ln bg) := by
          rw [hlen]
          exact (heap_setCell_other _ _ _ _ (fun e => hgrb (by simpa using e.symm))).trans hR4
        obtain ⟨cs4, hcs4⟩ := row_typed hrt g rfl
        have HFn : Hid (Fr B w1 (w4.setCell ⟨g, us.length * 3 + 2, none⟩ (.slice (some ⟨g4, 0, none⟩) (t.xs.length + 1) cap4))) :=
          HFr.out.trans ((Fr.grew hfr (Nat.le_refl _) hB23 HG4.out (by decide)).trans (Fr.set hcs4 (World.ownsRow.lt hrt g rfl).1 (by decide) _))
        have HTn : Hid (Tabs _ B _ _) := hTn
        clear hTn hR4 hrt hcs4 hfr
        go_wp2
        go_end0
        rw [HO.out]
        exact ⟨rfl, HFn.out, _, _, by rw [tbs_snoc]; simp [TV.tb], HRn.out, HTn.out⟩
end Go.Proofs.YtbpmahchinblhaaDoor
