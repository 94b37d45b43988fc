/- Layer 13 (journal): JournalBack, the walk. -/
import Derived.Test.YtmkohdepgfahnaaGreatDoorJLTells
import Derived.Test.YtmkohdepgfahnaaGreatDoorJEqU
import Derived.Test.YtmkohdepgfahnaaGreatDoorJSameE
import Derived.Deep.DeepAppendWide
namespace Go.Proofs.YtmkohdepgfahnaaGreatDoor
open Go.RowKit
set_option linter.unusedVariables false

/-- A frame cut short is told so. -/
theorem frame_cut {p : List UInt8} (hp : p.length ≤ 131072) {cut : Nat} (hc : cut < (frameB p).length) : payE ((frameB p).take cut) = 131 := by
  have hfl : (frameB p).length = p.length + 9 := by simp [frameB, big_length]; omega
  have hl : ((frameB p).take cut).length = cut := by rw [List.length_take]; omega
  unfold payE
  rw [hl]
  by_cases h0 : cut = 0
  · rw [if_pos h0]
  have h77 : ((frameB p).take cut).getD 0 0 = 77 := by
    obtain ⟨c, rfl⟩ : ∃ c, cut = c + 1 := ⟨cut - 1, by omega⟩
    simp [frameB]
  rw [if_neg h0, if_neg (by rw [h77]; simp)]
  by_cases h5 : cut < 5
  · rw [if_pos h5]
  have hlen : lenB ((frameB p).take cut) = p.length := by
    have e : lenB ((frameB p).take cut) = lenB (frameB p) := by
      unfold lenB
      rw [List.drop_take, List.take_take, Nat.min_eq_left (by omega)]
    rw [e]
    have := laidF_len (p := p) (S := big 4 (sumB p)) (more := []) hp
    rw [← frame_laid] at this
    simpa using this
  rw [if_neg h5, hlen, if_neg (by omega), if_pos (by omega)]
/-- append(s, x...), x anywhere, with the wide bound. -/
theorem append_srcW (W : World) {ops : Array Oper} {rest : List Oper} {o : Oper} {a : Act} {Q : Exit → Act → World → Prop} (hgd : o.guard = none) (s x : Operand) (t e : TypeId) (z : Value) (size bytes : Nat)
    (ht : Tryz.prog.underlying t = some (.slice e)) (hi : (Tryz.prog.info? e).map (fun i => (i.zero, i.size, i.bytes)) = some (some z, size, bytes)) (hzs : z.cells.size = size) (hsz : 0 < size)
    (ho : o.op = .call { callee := .builtin .append, args := #[s, x], argTypes := #[t, t] })
    (B : Nat) (v : Value) (n : Nat) (l : List Value) (hs : a.eval s = v) (hown : W.ownsRow B e size v n l) (ao : Option Addr) (m c : Nat) (news : List Value) (hx : a.eval x = .slice ao m c) (hl : news.length = m * size) (hc : CellsAt W ao news) (h1 : ∀ u ∈ news, u.oneCell' = true)
    (h63 : n + m ≤ maxLen) (hlen : ((n + m) + (n + m) / 4 + 192) * bytes ≤ 281474976710656) (hB : B ≤ W.heap.size)
    (h : ∀ v' w', w'.ownsRow B e size v' (n + m) (l ++ news) → W.grownBy w' v.ownBlock → wpList Tryz.prog ops Q rest (a.put o.dst v') w') : wpList Tryz.prog ops Q (o :: rest) a W := by
  obtain ⟨i0, hi0, hb⟩ := Option.map_eq_some_iff.1 hi
  simp only [Prod.mk.injEq] at hb
  obtain ⟨hz0, hz1, hz2⟩ := hb
  cases ao with
  | none =>
    have h0 : news = [] := by
      cases news with
      | nil => rfl
      | cons u us =>
        obtain ⟨b, off, e, _⟩ := hc (by simp)
        cases e
    subst h0
    have hm : m = 0 := by
      rcases Nat.eq_zero_or_pos m with h | h
      · exact h
      · have := Nat.mul_pos h hsz
        rw [← hl] at this
        exact absurd this (by simp)
    subst hm
    obtain ⟨vo, vc, rfl, _⟩ := row_forms hown
    have hnc : n ≤ vc := by
      rcases hown.2 with ⟨e, h0⟩ | ⟨g, cap, cur, e, _, _, hnc, _⟩
      · omega
      · simp only [Value.slice.injEq] at e
        obtain ⟨_, _, rfl⟩ := e
        exact hnc
    refine wpList_plain hgd fun K hK => ?_
    have hr := run_append_none t o.type e i0 ht hi0 W vo n vc c hnc
    unfold Oper.wp execOp
    simp only [ho, resolve, invoke, builtin, Sem.run_bind, Sem.run_pure, Result.andThen_ok, List.map_toArray, List.map_cons, List.map_nil, hs, hx, hr]
    exact hK _ _ (h _ W (by simpa using hown) ⟨rfl, rfl, rfl, Nat.le_refl _, fun k hk _ => rfl⟩)
  | some ad =>
    refine wpList_append_own_wide W hgd s x t ho B e i0 z size bytes ht hi0 hz0 hz1 hz2 hzs hsz v n l hs hown ad m c news hx hl ?_ h1 h63 hlen hB (fun v' w' h1 h2 _ => h v' w' h1 h2)
    intro j u hj
    obtain ⟨b, off, e, hcc⟩ := hc (by intro e; rw [e] at hj; simp at hj)
    obtain rfl := Option.some.inj e
    rw [Addr.add_lit]
    exact hcc j u hj
theorem cells_take {w : World} {ao : Option Addr} {l : List Value} (h : CellsAt w ao l) (k : Nat) : CellsAt w ao (l.take k) := by
  intro hne
  obtain ⟨b, off, e, hc⟩ := h (by intro e; rw [e] at hne; simp at hne)
  refine ⟨b, off, e, fun j u hj => hc j u ?_⟩
  have hj' : j < (l.take k).length := (List.getElem?_eq_some_iff.1 hj).1
  rw [List.length_take] at hj'
  rw [List.getElem?_take_of_lt (by omega)] at hj
  exact hj
/-- Decode of a frame with more behind it. -/
theorem decFrame_calls (i : Int) (l : List OV) (m : List UInt8) (a5 : Option Addr) (k5 : Nat) (w : World) (hv : Vs w) (h : EntOk i l) (hs : soundB (ops l) = true) (hm : m.length ≤ 140737488351232) (hcap : (frameB (payB i (ops l)) ++ m).length ≤ k5) (hb : BAt w a5 (frameB (payB i (ops l)) ++ m)) :
    Calls Tryz.prog 18 #[.slice a5 (frameB (payB i (ops l)) ++ m).length k5] w fun e w' => ∃ ao c l', e = .returned (.tuple #[.agg #[.int .u64 i, .slice ao l'.length c], .int .i64 ((frameB (payB i (ops l))).length : Nat), .int .i64 0]) ∧ ops l' = ops l ∧ OpsAt w' ao l' ∧ Below w.heap.size w w' := by
  have hpl : (payB i (ops l)).length ≤ 78793 := payB_le hs
  have hfl : (frameB (payB i (ops l))).length = (payB i (ops l)).length + 9 := by simp [frameB, big_length]; omega
  obtain ⟨r1, r2, r3⟩ := read_back h.i0 h.i1 hs (fun o ho => by
    obtain ⟨x, hx, rfl⟩ := List.mem_map.1 ho
    exact ⟨(h.rng x hx).w0, (h.rng x hx).w1⟩)
  have hpay : payP (frameB (payB i (ops l)) ++ m) = payB i (ops l) := frame_pay (by omega)
  refine (decode_ok a5 k5 (frameB (payB i (ops l)) ++ m) w hv (by rw [List.length_append]; omega) hcap hb (frame_err (by omega)) (by rw [hpay]; omega) (by rw [hpay]; exact r3)).mono ?_
  rintro e w' ⟨ao, c, l', rfl, e1, e2, e3⟩
  rw [hpay] at e1 ⊢
  rw [r1, ← hfl]
  exact ⟨ao, c, l', rfl, e1.trans r2, e2.at, e3⟩

set_option maxRecDepth 100000 in
set_option maxHeartbeats 4000000 in
theorem journalBack_calls (i : Int) (ao : Option Addr) (c : Nat) (l : List OV) (ma : Option Addr) (mc : Nat) (m : List UInt8) (cut : Int) (w : World) (hv : Vs w) (h : EntOk i l) (hat : OpsAt w ao l) (hm : m.length ≤ 140737488351232) (hmb : BAt w ma m) :
    Calls Tryz.prog 7 #[.agg #[.int .u64 i, .slice ao l.length c], .slice ma m.length mc, .int .i64 cut] w fun e w' => e = .returned (.bool true) ∧ Below w.heap.size w w' := by
  have HK : Hid (EntOk i l) := h
  have HV : Hid (Vs w) := hv
  have HAT : Hid (OpsAt w ao l) := hat
  have HMB : Hid (BAt w ma m) := hmb
  clear h hv hat hmb
  have HCP : Hid (∀ w', Below w.heap.size w w' → Calls Tryz.prog 13 #[.agg #[.int .u64 i, .slice ao l.length c]] w' fun e w'' => CopE w' i l e w'') := fun w' hb => copyE_calls i ao c l w' HK.out.len HK.out.tags (HAT.out.below hb)
  have HSE : Hid (∀ w' a6 c6 l6, Below w.heap.size w w' → ops l6 = ops l → OpsAt w' a6 l6 → Calls Tryz.prog 16 #[.agg #[.int .u64 i, .slice a6 l6.length c6], .agg #[.int .u64 i, .slice ao l.length c]] w' fun e w'' => e = .returned (.bool true) ∧ Below w'.heap.size w' w'') := fun w' a6 c6 l6 hb e h6 => by
    have hk := HK.out.copy e
    exact sameE_calls i a6 ao c6 c l6 l w' (by have := hk.len; omega) e.symm (fun x hx => (hk.ok x hx).len) h6 (HAT.out.below hb)
  obtain ⟨n, Hn⟩ : ∃ x, Hid (x = l.length) := ⟨_, rfl⟩
  rw [← Hn.out] at HCP HSE ⊢
  obtain ⟨ml, Hml⟩ : ∃ x, Hid (x = m.length) := ⟨_, rfl⟩
  rw [← Hml.out] at hm ⊢
  obtain ⟨wx, Hwx⟩ : ∃ x, Hid (x = w.alloc (.cells #[.int .u64 i, .slice ao n c] 31)) := ⟨_, rfl⟩
  have HX : Hid (Blk wx w.heap.size #[.int .u64 i, .slice ao n c] 31) := by rw [Hwx.out]; exact Blk.new _ _ _
  have HB : Hid (Below w.heap.size w wx) := by rw [Hwx.out]; exact below_new w _
  have HBX : Hid (w.heap.size < wx.heap.size) := by show _ < _; rw [Hwx.out, size_new]; omega
  go_enter Tryz.func7, Tryz.ntmps7
  go_upto_region 1 with fail
  rw [← Hwx.out]
  clear Hwx
  go_wp2_with fail
  refine (journalFixed_calls wx (HV.out.stay HB.out)).mono ?_
  rintro e w1 ⟨rfl, hb1⟩
  have HB1 : Hid (Below w.heap.size w w1) := HB.out.trans (hb1.mono HB.out.size)
  have HX1 : Hid (Blk w1 w.heap.size #[.int .u64 i, .slice ao n c] 31) := HX.out.below hb1
  clear hb1 HX HB HBX
  have c0 := HX1.out.cell 0 rfl
  have c1 := HX1.out.cell 1 rfl
  go_wp2_with fail
  refine (HCP.out w1 HB1.out).mono ?_
  rintro e w2 ⟨a2, k2, l2, rfl, ho2, hown2, hb2⟩
  have HB2 : Hid (Below w.heap.size w w2) := HB1.out.trans (hb2.mono HB1.out.size)
  have HX2 : Hid (Blk w2 w.heap.size #[.int .u64 i, .slice ao n c] 31) := HX1.out.below hb2
  have HEC : Hid (Calls Tryz.prog 15 #[.agg #[.int .u64 i, .slice a2 l2.length k2]] w2 fun e w' => ∃ v', e = .returned (.tuple #[v', .int .i64 (encE (ops l))]) ∧ Own w' w2.heap.size v' (encB i (ops l)) ∧ Below w2.heap.size w2 w') := encCopy_calls i l l2 a2 k2 w2 (HV.out.stay HB2.out) HK.out ho2 hown2.at
  obtain ⟨n2, Hn2⟩ : ∃ x, Hid (x = l2.length) := ⟨_, rfl⟩
  rw [← Hn2.out] at HEC ⊢
  clear ho2 hown2 hb2 Hn2 HX1 HB1 c0 c1 HCP
  go_wp2_with fail
  refine HEC.out.mono ?_
  rintro e w3 ⟨v3, rfl, ho3, hb3⟩
  have HB3 : Hid (Below w.heap.size w w3) := HB2.out.trans (hb3.mono HB2.out.size)
  have HX3 : Hid (Blk w3 w.heap.size #[.int .u64 i, .slice ao n c] 31) := HX2.out.below hb3
  clear hb3 HEC HX2
  cases hs : soundB (ops l) with
  | false =>
    have HE : Hid (encE (ops l) = 130 ∧ encB i (ops l) = []) := by unfold encE encB; rw [hs]; exact ⟨rfl, rfl⟩
    rw [HE.out.1]
    rw [HE.out.2] at ho3
    clear HE hs
    obtain ⟨a3, k3, rfl⟩ := ho3.shape
    go_wp2
    go_ret
    exact ⟨rfl, HB3.out⟩
  | true =>
    have HE : Hid (encE (ops l) = 0 ∧ encB i (ops l) = frameB (payB i (ops l))) := by unfold encE encB; rw [hs]; exact ⟨rfl, rfl⟩
    have HPL : Hid ((payB i (ops l)).length ≤ 78793) := payB_le hs
    have HDF : Hid (∀ (a5 : Option Addr) (k5 : Nat) (w : World), Vs w → (frameB (payB i (ops l)) ++ m).length ≤ k5 → BAt w a5 (frameB (payB i (ops l)) ++ m) → Calls Tryz.prog 18 #[.slice a5 (frameB (payB i (ops l)) ++ m).length k5] w fun e w' => ∃ ao c l', e = .returned (.tuple #[.agg #[.int .u64 i, .slice ao l'.length c], .int .i64 ((frameB (payB i (ops l))).length : Nat), .int .i64 0]) ∧ ops l' = ops l ∧ OpsAt w' ao l' ∧ Below w.heap.size w w') := fun a5 k5 w h1 h2 h3 => decFrame_calls i l m a5 k5 w h1 HK.out hs (by rw [← Hml.out]; exact hm) h2 h3
    rw [HE.out.1]
    rw [HE.out.2] at ho3
    clear HE hs
    obtain ⟨p, Hp⟩ : ∃ x, Hid (x = payB i (ops l)) := ⟨_, rfl⟩
    rw [← Hp.out] at ho3 HPL HDF
    clear Hp
    obtain ⟨F, HF⟩ : ∃ x, Hid (x = frameB p) := ⟨_, rfl⟩
    have hFl : F.length = p.length + 9 := by rw [HF.out]; simp [frameB, big_length]; omega
    rw [← HF.out] at ho3 HDF
    obtain ⟨a3, k3, rfl⟩ := ho3.shape
    obtain ⟨fl, Hfl⟩ : ∃ x, Hid (x = F.length) := ⟨_, rfl⟩
    rw [← Hfl.out] at hFl HDF
    have hpl := HPL.out
    have hflb : fl ≤ 78802 := by omega
    have hfl0 : 9 ≤ fl := by omega
    have HFL : Hid (p.length ≤ 78793) := hpl
    clear hFl hpl HPL
    have HO3 : Hid (Own w3 w2.heap.size (.slice a3 F.length k3) F) := ho3
    have hk3 : fl ≤ k3 := by rw [Hfl.out]; exact own_cap ho3
    obtain ⟨g, rfl⟩ : ∃ g, a3 = some ⟨g, 0, none⟩ := by
      obtain ⟨ao', cap', e1, e2⟩ := row_forms ho3
      obtain ⟨g, e3⟩ := e2 (by rw [← Hfl.out]; omega)
      simp only [Value.slice.injEq] at e1
      exact ⟨g, by rw [e1.1]; exact e3⟩
    clear ho3
    rw [← Hfl.out]
    have HNL : Hid ((bs F).length = fl * 1) := by show _ = _; rw [bs_length, ← Hfl.out, Nat.mul_one]
    have HNM : Hid ((bs m).length = ml * 1) := by show _ = _; rw [bs_length, ← Hml.out, Nat.mul_one]
    have HA3 : Hid (CellsAt (w3.alloc (.cells #[] 5)) (some ⟨g, 0, none⟩) (bs F)) := HO3.out.bytes.below (below_new _ _)
    go_wp2_with (at_builtin; refine append_src _ rfl (.tmp 30) (.tmp 31) 23 5 (.int .u8 0) 1 1 Tryz.underlying23 info_u8 rfl (by decide) rfl w3.heap.size _ 0 [] rfl (empty_own w3) (some ⟨g, 0, none⟩) fl k3 (bs F) rfl HNL.out HA3.out (bs_one F) (by unfold maxLen; omega) (by omega) (by simp) ?_)
    intro v4 w4 ho4' hg4
    have HO4 : Hid (w4.ownsRow w3.heap.size 5 1 v4 fl (bs F)) := by
      show World.ownsRow _ _ _ _ _ _ _
      simpa using ho4'
    have HG4 : Hid (Below w3.heap.size w3 w4) := ((Below.refl w3.heap.size w3).alloc (Nat.le_refl _) _).trans (hg4.toBelow (by simp) (fun q hq => by simp [Value.ownBlock] at hq; omega))
    clear ho4' hg4 HA3
    have HB4 : Hid (Below w.heap.size w w4) := HB3.out.trans (HG4.out.mono HB3.out.size)
    have HM4 : Hid (CellsAt w4 ma (bs m)) := (show CellsAt w ma (bs m) from HMB.out).below HB4.out
    go_wp2_with (at_builtin; refine append_srcW _ rfl (.tmp 32) (.tmp 33) 23 5 (.int .u8 0) 1 1 Tryz.underlying23 info_u8 rfl (by decide) rfl w3.heap.size _ fl (bs F) rfl HO4.out ma ml mc (bs m) rfl HNM.out HM4.out (bs_one m) (by unfold maxLen; omega) (by omega) HG4.out.size ?_)
    intro v5 w5 ho5' hg5
    have HG5 : Hid (Below w3.heap.size w3 w5) := HG4.out.grown hg5 HG4.out.size (fun q hq => (World.ownsRow.lt HO4.out q hq).1)
    have ho5 : Own w5 w3.heap.size v5 (F ++ m) := by
      unfold Own
      rw [List.length_append, ← Hfl.out, ← Hml.out, bs_append]
      exact ho5'
    clear ho5' hg5 HG4 HO4 HB4 HM4
    have HB5 : Hid (Below w.heap.size w w5) := HB3.out.trans (HG5.out.mono HB3.out.size)
    have HX5 : Hid (Blk w5 w.heap.size #[.int .u64 i, .slice ao n c] 31) := HX3.out.below HG5.out
    have HA5 : Hid (CellsAt w5 (some ⟨g, 0, none⟩) (bs F)) := HO3.out.bytes.below HG5.out
    obtain ⟨a5, k5, rfl⟩ := ho5.shape
    have HDC : Hid (Calls Tryz.prog 18 #[.slice a5 (F ++ m).length k5] w5 fun e w' => ∃ ao c l', e = .returned (.tuple #[.agg #[.int .u64 i, .slice ao l'.length c], .int .i64 (fl : Int), .int .i64 0]) ∧ ops l' = ops l ∧ OpsAt w' ao l' ∧ Below w5.heap.size w5 w') := HDF.out a5 k5 w5 (HV.out.stay HB5.out) (own_cap ho5) ho5.bytes
    clear ho5 HDF HX3 HG5
    obtain ⟨ln5, Hln5⟩ : ∃ x, Hid (x = (F ++ m).length) := ⟨_, rfl⟩
    rw [← Hln5.out] at HDC ⊢
    clear Hln5
    go_wp2_with fail
    refine HDC.out.mono ?_
    rintro e w6 ⟨a6, c6, l6, rfl, hops6, hat6, hb6⟩
    have HB6 : Hid (Below w.heap.size w w6) := HB5.out.trans (hb6.mono HB5.out.size)
    have HX6 : Hid (Blk w6 w.heap.size #[.int .u64 i, .slice ao n c] 31) := HX5.out.below hb6
    have HA6 : Hid (CellsAt w6 (some ⟨g, 0, none⟩) (bs F)) := HA5.out.below hb6
    have HOP : Hid (ops l6 = ops l) := hops6
    have HAT6 : Hid (OpsAt w6 a6 l6) := hat6
    clear hb6 HDC HX5 HA5 HB5 hops6 hat6
    obtain ⟨n6, Hn6⟩ : ∃ x, Hid (x = l6.length) := ⟨_, rfl⟩
    rw [← Hn6.out]
    obtain ⟨w7, Hw7⟩ : ∃ x, Hid (x = w6.alloc (.cells #[.int .u64 i, .slice a6 n6 c6] 31)) := ⟨_, rfl⟩
    have hz7 : Hid (w6.heap.size < w7.heap.size) := by show _ < _; rw [Hw7.out, size_new]; omega
    have HY7 : Hid (Blk w7 w6.heap.size #[.int .u64 i, .slice a6 n6 c6] 31) := by rw [Hw7.out]; exact Blk.new _ _ _
    have HX7 : Hid (Blk w7 w.heap.size #[.int .u64 i, .slice ao n c] 31) := by rw [Hw7.out]; exact HX6.out.alloc _
    have HA7 : Hid (CellsAt w7 (some ⟨g, 0, none⟩) (bs F)) := by rw [Hw7.out]; exact HA6.out.below (below_new _ _)
    have HB7 : Hid (Below w.heap.size w w7) := by rw [Hw7.out]; exact HB6.out.alloc HB6.out.size _
    have HSC : Hid (Calls Tryz.prog 16 #[.agg #[.int .u64 i, .slice a6 n6 c6], .agg #[.int .u64 i, .slice ao n c]] w7 fun e w'' => e = .returned (.bool true) ∧ Below w7.heap.size w7 w'') := by
      have := HSE.out w7 a6 c6 l6 HB7.out HOP.out (by rw [Hw7.out]; exact HAT6.out.below (below_new _ _))
      rw [← Hn6.out] at this
      exact this
    clear HSE HOP HAT6 Hn6 HA6 HX6
    go_upto_region 7 with fail
    rw [← Hw7.out]
    clear Hw7
    have x0 := HX7.out.cell 0 rfl
    have x1 := HX7.out.cell 1 rfl
    have y0 := HY7.out.cell 0 rfl
    have y1 := HY7.out.cell 1 rfl
    go_wp2_with fail
    refine HSC.out.mono ?_
    rintro e w8 ⟨rfl, hb8⟩
    have HB8 : Hid (Below w.heap.size w w8) := HB7.out.trans (hb8.mono HB7.out.size)
    have HA8 : Hid (CellsAt w8 (some ⟨g, 0, none⟩) (bs F)) := HA7.out.below hb8
    clear hb8 x0 x1 y0 y1 HSC HA7 HB7 HX7 HY7 hz7 HB6 HO3 HNL HNM
    by_cases hk0 : cut < 0
    · go_wp2
      go_ret
      exact ⟨rfl, HB8.out⟩
    by_cases hkn : (fl : Int) ≤ cut
    · have q1 : decide ((fl : Int) ≤ cut) = true := by simpa using hkn
      go_wp2
      go_ret
      exact ⟨rfl, HB8.out⟩
    have q1 : decide ((fl : Int) ≤ cut) = false := by simpa using hkn
    obtain ⟨j, rfl⟩ : ∃ j : Nat, cut = (j : Int) := ⟨cut.toNat, by omega⟩
    have hjn : j < fl := by omega
    have HPE : Hid (payE (F.take j) = 131) := by
      rw [HF.out]
      exact frame_cut (by have := HFL.out; omega) (by rw [← HF.out, ← Hfl.out]; exact hjn)
    have HTL : Hid ((F.take j).length = j) := by
      show _ = _
      rw [List.length_take, ← Hfl.out]
      omega
    have hrt : ∀ W, (Instr.slice 23 (.slice (some ⟨g, 0, none⟩) fl k3) none (some (.int .i64 (j : Int))) none).run Tryz.prog W = .ok (.slice (some ⟨g, 0, none⟩) j k3) W := fun W => by
      have := subTo_runI g 0 fl k3 j (by omega) hk3 W
      rw [this]
      unfold subV
      rw [if_neg (by omega)]
      simp
    have HNJ : Hid ((bs (F.take j)).length = j * 1) := by show _ = _; rw [bs_length, HTL.out, Nat.mul_one]
    have HA9 : Hid (CellsAt (w8.alloc (.cells #[] 5)) (some ⟨g, 0, none⟩) (bs (F.take j))) := by
      have := cells_take (HA8.out.below (below_new w8 (.cells #[] 5))) j
      unfold bs at this ⊢
      rw [← List.map_take] at this
      exact this
    obtain ⟨T, HT⟩ : ∃ x, Hid (x = F.take j) := ⟨_, rfl⟩
    rw [← HT.out] at HPE HTL HNJ HA9
    clear HT HF HFL HA8 hkn Hfl
    go_wp2_with (at_builtin; refine append_src _ rfl (.tmp 62) (.tmp 65) 23 5 (.int .u8 0) 1 1 Tryz.underlying23 info_u8 rfl (by decide) rfl w8.heap.size _ 0 [] rfl (empty_own w8) (some ⟨g, 0, none⟩) j k3 (bs T) rfl HNJ.out HA9.out (bs_one T) (by unfold maxLen; omega) (by omega) (by simp) ?_)
    intro v9 w9 ho9' hg9
    have ho9 : Own w9 w8.heap.size v9 T := by
      unfold Own
      rw [HTL.out]
      simpa using ho9'
    have HB9 : Hid (Below w.heap.size w w9) := HB8.out.trans ((((Below.refl w8.heap.size w8).alloc (Nat.le_refl _) _).trans (hg9.toBelow (by simp) (fun q hq => by simp [Value.ownBlock] at hq; omega))).mono HB8.out.size)
    clear ho9' hg9 HA9 HNJ
    obtain ⟨a9, k9, rfl⟩ := ho9.shape
    have HDC : Hid (Calls Tryz.prog 18 #[.slice a9 T.length k9] w9 fun e w' => e = .returned (.tuple #[.agg #[.int .u64 0, .slice none 0 0], .int .i64 0, .int .i64 131]) ∧ Below w9.heap.size w9 w') := by
      have := decode_bad a9 k9 T w9 (by rw [HTL.out]; omega) (own_cap ho9) ho9.bytes (by rw [HPE.out]; decide)
      rw [HPE.out] at this
      exact this
    clear ho9
    obtain ⟨tl, Htl⟩ : ∃ x, Hid (x = T.length) := ⟨_, rfl⟩
    rw [← Htl.out] at HDC ⊢
    clear Htl hrt
    go_wp2_with fail
    refine HDC.out.mono ?_
    rintro e w10 ⟨rfl, hb10⟩
    have HB10 : Hid (Below w.heap.size w w10) := HB9.out.trans (hb10.mono HB9.out.size)
    clear hb10 HDC
    go_wp2
    go_ret
    exact ⟨rfl, HB10.out⟩
end Go.Proofs.YtmkohdepgfahnaaGreatDoor
