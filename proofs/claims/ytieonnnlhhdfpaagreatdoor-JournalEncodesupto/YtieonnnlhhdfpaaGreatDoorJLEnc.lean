import Derived.Test.YtieonnnlhhdfpaaGreatDoorJReadW
import Derived.Test.YtieonnnlhhdfpaaGreatDoorJRPay
import Derived.Deep.DeepAppendWide
/- Layer 13 (journal): Decode of a frame that is taken. -/
namespace Go.Proofs.YtieonnnlhhdfpaaGreatDoor
open Go.RowKit
set_option linter.unusedVariables false

def DecA (w : World) (l : List UInt8) (e : Ending) (w' : World) : Prop := ∃ ao c l', e = .returned (.tuple #[.agg #[.int .u64 (readI (payP l) : Nat), .slice ao l'.length c], .int .i64 (((payP l).length + 9 : Nat) : Int), .int .i64 0]) ∧ ops l' = (readO (payP l)).1 ∧ OwnO w' w.heap.size (.slice ao l'.length c) l' ∧ Below w.heap.size w w'
set_option maxRecDepth 100000 in
set_option maxHeartbeats 2000000 in
theorem decode_ok (ao : Option Addr) (cap : Nat) (l : List UInt8) (w : World) (hv : Vs w) (hl : l.length ≤ 140737488455328) (hcap : l.length ≤ cap) (h : BAt w ao l) (he : payE l = 0) (hp : (payP l).length ≤ 131072) (hk : readOk (payP l) = true) :
    Calls Tryz.prog 13 #[.slice ao l.length cap] w fun e w' => DecA w l e w' := by
  obtain ⟨wx, Hwx⟩ : ∃ x, Hid (x = w.alloc (.cells #[.int .u64 0, .slice none 0 0] 25)) := ⟨_, rfl⟩
  have HB : Hid (Below w.heap.size w wx) := by rw [Hwx.out]; exact below_new w _
  have HX : Hid (Blk wx w.heap.size #[.int .u64 0, .slice none 0 0] 25) := by rw [Hwx.out]; exact Blk.new _ _ _
  have HC : Hid (Calls Tryz.prog 31 #[.slice ao l.length cap] wx fun e w' => PayA wx l e w') := payloadOf_calls ao cap l wx hl hcap (h.below HB.out)
  have HV : Hid (Vs w) := hv
  have HE : Hid (payE l = 0) := he
  have HK : Hid (readOk (payP l) = true) := hk
  clear h hv he hk
  obtain ⟨n, Hn⟩ : ∃ x, Hid (x = l.length) := ⟨_, rfl⟩
  rw [← Hn.out] at HC hl hcap ⊢
  go_enter Tryz.func13, Tryz.ntmps13
  go_upto_region 1 with fail
  rw [← Hwx.out]
  clear Hwx
  go_wp2_with fail
  refine HC.out.mono ?_
  rintro e w2 ⟨a2, n2, c2, rfl, hpay, hd⟩
  obtain ⟨hn2, hc2, hb2, x2, y2, rfl, hx2⟩ := hpay HE.out
  rw [HE.out]
  have hbd : Below wx.heap.size wx w2 := by obtain ⟨m, rfl⟩ := hd; exact below_draws _ _
  have HB2 : Hid (Below w.heap.size w w2) := HB.out.trans (hbd.mono HB.out.size)
  have HX2 : Hid (Blk w2 w.heap.size #[.int .u64 0, .slice none 0 0] 25) := HX.out.below hbd
  obtain ⟨p, Hp⟩ : ∃ x, Hid (x = payP l) := ⟨_, rfl⟩
  rw [← Hp.out] at hn2 hb2 hp HK
  subst hn2
  have HRC : Hid (Calls Tryz.prog 32 #[.slice (some ⟨x2, y2, none⟩) p.length c2] w2 fun e w' => ReadA w2 p e w') := readPayload_calls x2 y2 c2 p w2 (HV.out.stay HB2.out) hp hc2 hb2 (by have := hbd.size; omega)
  clear hd hbd HC HX HB hb2 hpay
  obtain ⟨pl, Hpl⟩ : ∃ x, Hid (x = p.length) := ⟨_, rfl⟩
  rw [← Hpl.out] at HRC hp hc2 ⊢
  go_wp2_with fail
  refine HRC.out.mono ?_
  rintro e w3 ⟨-, hok, hb3⟩
  obtain ⟨a3, k3, l3, rfl, hops, hown⟩ := hok HK.out
  have HB3 : Hid (Below w.heap.size w w3) := HB2.out.trans (hb3.mono HB2.out.size)
  have HX3 : Hid (Blk w3 w.heap.size #[.int .u64 0, .slice none 0 0] 25) := HX2.out.below hb3
  have HO3 : Hid (OwnO w3 w.heap.size (.slice a3 l3.length k3) l3) := ⟨row_weak HB2.out.size hown.row, fun x hx => row_weak HB2.out.size (hown.tags x hx)⟩
  have HOP : Hid (ops l3 = (readO p).1) := hops
  obtain ⟨i, Hi⟩ : ∃ x, Hid (x = readI p) := ⟨_, rfl⟩
  obtain ⟨n3, Hn3⟩ : ∃ x, Hid (x = l3.length) := ⟨_, rfl⟩
  rw [← Hi.out]
  rw [← Hn3.out] at HO3 ⊢
  clear hok hb3 hown hops HRC HX2
  have hsz3 : w.heap.size < w3.heap.size := HX3.out.lt
  obtain ⟨w4, Hw4⟩ : ∃ x, Hid (x = w3.alloc (.cells #[.int .u64 (i : Nat), .slice a3 n3 k3] 25)) := ⟨_, rfl⟩
  obtain ⟨g7, Hg7⟩ : ∃ x, Hid (x = w3.heap.size) := ⟨_, rfl⟩
  have HX4 : Hid (Blk w4 w.heap.size #[.int .u64 0, .slice none 0 0] 25) := by rw [Hw4.out]; exact HX3.out.alloc _
  have HE4 : Hid (Blk w4 g7 #[.int .u64 (i : Nat), .slice a3 n3 k3] 25) := by rw [Hw4.out, Hg7.out]; exact Blk.new _ _ _
  have HB4 : Hid (Below w.heap.size w w4) := by rw [Hw4.out]; exact HB3.out.alloc HB3.out.size _
  have HO4 : Hid (OwnO w4 w.heap.size (.slice a3 n3 k3) l3) := by rw [Hw4.out]; exact HO3.out.below (below_new _ _)
  go_upto_region 5 with fail
  rw [← Hw4.out, ← Hg7.out]
  clear Hw4 Hg7 HX3 HB3 HO3 hsz3
  have y0 := HX4.out.cell 0 rfl
  have y1 := HX4.out.cell 1 rfl
  have f0 := HX4.out.open 0
  have f1 := HX4.out.open 1
  have e0 := HE4.out.cell 0 rfl
  have e1 := HE4.out.cell 1 rfl
  obtain ⟨we, Hwe⟩ : ∃ x, Hid (x = putC w4 w.heap.size 0 [.int .u64 (i : Nat), .slice a3 n3 k3]) := ⟨_, rfl⟩
  have HY5 : Hid (Blk we w.heap.size #[.int .u64 (i : Nat), .slice a3 n3 k3] 25) := by rw [Hwe.out]; exact putC_all HX4.out rfl
  have HB5 : Hid (Below w.heap.size w we) := by rw [Hwe.out]; exact putC_below _ _ _ HB4.out (Nat.le_refl _)
  have HO5 : Hid (OwnO we w.heap.size (.slice a3 n3 k3) l3) := by
    rw [Hwe.out]
    exact ⟨row_putK HX4.out (by decide) HO4.out.row _ _, fun x hx => row_putK HX4.out (by decide) (HO4.out.tags x hx) _ _⟩
  have HLd : Hid ((loadVar 25 ⟨w.heap.size, 0, none⟩).run Tryz.prog we = .ok (.agg #[.int .u64 (i : Nat), .slice a3 n3 k3]) we) := load_ent HY5.out rfl
  have HFin : Hid (DecA w l (.returned (.tuple #[.agg #[.int .u64 (i : Nat), .slice a3 n3 k3], .int .i64 (5 + (pl : Int) + 4), .int .i64 0])) we) := by
    refine ⟨a3, k3, l3, ?_, by rw [← Hp.out]; exact HOP.out, by rw [← Hn3.out]; exact HO5.out, HB5.out⟩
    rw [← Hp.out, ← Hi.out, ← Hn3.out, ← Hpl.out]
    rw [show (5 + (pl : Int) + 4) = ((pl + 9 : Nat) : Int) by omega]
  go_wp2
  change bodyPost _ _ _ _ _ (putC w4 w.heap.size 0 [.int .u64 (i : Nat), .slice a3 n3 k3])
  rw [← Hwe.out]
  exact ret_box3 (g := w.heap.size) (w := we) rfl rfl rfl rfl rfl HLd.out HFin.out
end Go.Proofs.YtieonnnlhhdfpaaGreatDoor

/- Layer 13 (journal): JournalBack, the walk. -/
namespace Go.Proofs.YtieonnnlhhdfpaaGreatDoor
open Go.RowKit
set_option linter.unusedVariables false

/-- A frame cut short is told so. -/
theorem frame_cut {p : List UInt8} (hp : p.length ≤ 131072) {cut : Nat} (hc : cut < (frameB p).length) : payE ((frameB p).take cut) = 131 := by
  have hfl : (frameB p).length = p.length + 9 := by simp [frameB, big_length]; omega
  have hl : ((frameB p).take cut).length = cut := by rw [List.length_take]; omega
  unfold payE
  rw [hl]
  by_cases h0 : cut = 0
  · rw [if_pos h0]
  have h77 : ((frameB p).take cut).getD 0 0 = 77 := by
    obtain ⟨c, rfl⟩ : ∃ c, cut = c + 1 := ⟨cut - 1, by omega⟩
    simp [frameB]
  rw [if_neg h0, if_neg (by rw [h77]; simp)]
  by_cases h5 : cut < 5
  · rw [if_pos h5]
  have hlen : lenB ((frameB p).take cut) = p.length := by
    have e : lenB ((frameB p).take cut) = lenB (frameB p) := by
      unfold lenB
      rw [List.drop_take, List.take_take, Nat.min_eq_left (by omega)]
    rw [e]
    have := laidF_len (p := p) (S := big 4 (sumB p)) (more := []) hp
    rw [← frame_laid] at this
    simpa using this
  rw [if_neg h5, hlen, if_neg (by omega), if_pos (by omega)]
/-- append(s, x...), x anywhere, with the wide bound. -/
theorem append_srcW (W : World) {ops : Array Oper} {rest : List Oper} {o : Oper} {a : Act} {Q : Exit → Act → World → Prop} (hgd : o.guard = none) (s x : Operand) (t e : TypeId) (z : Value) (size bytes : Nat)
    (ht : Tryz.prog.underlying t = some (.slice e)) (hi : (Tryz.prog.info? e).map (fun i => (i.zero, i.size, i.bytes)) = some (some z, size, bytes)) (hzs : z.cells.size = size) (hsz : 0 < size)
    (ho : o.op = .call { callee := .builtin .append, args := #[s, x], argTypes := #[t, t] })
    (B : Nat) (v : Value) (n : Nat) (l : List Value) (hs : a.eval s = v) (hown : W.ownsRow B e size v n l) (ao : Option Addr) (m c : Nat) (news : List Value) (hx : a.eval x = .slice ao m c) (hl : news.length = m * size) (hc : CellsAt W ao news) (h1 : ∀ u ∈ news, u.oneCell' = true)
    (h63 : n + m ≤ maxLen) (hlen : ((n + m) + (n + m) / 4 + 192) * bytes ≤ 281474976710656) (hB : B ≤ W.heap.size)
    (h : ∀ v' w', w'.ownsRow B e size v' (n + m) (l ++ news) → W.grownBy w' v.ownBlock → wpList Tryz.prog ops Q rest (a.put o.dst v') w') : wpList Tryz.prog ops Q (o :: rest) a W := by
  obtain ⟨i0, hi0, hb⟩ := Option.map_eq_some_iff.1 hi
  simp only [Prod.mk.injEq] at hb
  obtain ⟨hz0, hz1, hz2⟩ := hb
  cases ao with
  | none =>
    have h0 : news = [] := by
      cases news with
      | nil => rfl
      | cons u us =>
        obtain ⟨b, off, e, _⟩ := hc (by simp)
        cases e
    subst h0
    have hm : m = 0 := by
      rcases Nat.eq_zero_or_pos m with h | h
      · exact h
      · have := Nat.mul_pos h hsz
        rw [← hl] at this
        exact absurd this (by simp)
    subst hm
    obtain ⟨vo, vc, rfl, _⟩ := row_forms hown
    have hnc : n ≤ vc := by
      rcases hown.2 with ⟨e, h0⟩ | ⟨g, cap, cur, e, _, _, hnc, _⟩
      · omega
      · simp only [Value.slice.injEq] at e
        obtain ⟨_, _, rfl⟩ := e
        exact hnc
    refine wpList_plain hgd fun K hK => ?_
    have hr := run_append_none t o.type e i0 ht hi0 W vo n vc c hnc
    unfold Oper.wp execOp
    simp only [ho, resolve, invoke, builtin, Sem.run_bind, Sem.run_pure, Result.andThen_ok, List.map_toArray, List.map_cons, List.map_nil, hs, hx, hr]
    exact hK _ _ (h _ W (by simpa using hown) ⟨rfl, rfl, rfl, Nat.le_refl _, fun k hk _ => rfl⟩)
  | some ad =>
    refine wpList_append_own_wide W hgd s x t ho B e i0 z size bytes ht hi0 hz0 hz1 hz2 hzs hsz v n l hs hown ad m c news hx hl ?_ h1 h63 hlen hB (fun v' w' h1 h2 _ => h v' w' h1 h2)
    intro j u hj
    obtain ⟨b, off, e, hcc⟩ := hc (by intro e; rw [e] at hj; simp at hj)
    obtain rfl := Option.some.inj e
    rw [Addr.add_lit]
    exact hcc j u hj
theorem cells_take {w : World} {ao : Option Addr} {l : List Value} (h : CellsAt w ao l) (k : Nat) : CellsAt w ao (l.take k) := by
  intro hne
  obtain ⟨b, off, e, hc⟩ := h (by intro e; rw [e] at hne; simp at hne)
  refine ⟨b, off, e, fun j u hj => hc j u ?_⟩
  have hj' : j < (l.take k).length := (List.getElem?_eq_some_iff.1 hj).1
  rw [List.length_take] at hj'
  rw [List.getElem?_take_of_lt (by omega)] at hj
  exact hj
/-- Decode of a frame with more behind it. -/
theorem decFrame_calls (i : Int) (l : List OV) (m : List UInt8) (a5 : Option Addr) (k5 : Nat) (w : World) (hv : Vs w) (h : EntOk i l) (hs : soundB (ops l) = true) (hm : m.length ≤ 140737488351232) (hcap : (frameB (payB i (ops l)) ++ m).length ≤ k5) (hb : BAt w a5 (frameB (payB i (ops l)) ++ m)) :
    Calls Tryz.prog 13 #[.slice a5 (frameB (payB i (ops l)) ++ m).length k5] w fun e w' => ∃ ao c l', e = .returned (.tuple #[.agg #[.int .u64 i, .slice ao l'.length c], .int .i64 ((frameB (payB i (ops l))).length : Nat), .int .i64 0]) ∧ ops l' = ops l ∧ OpsAt w' ao l' ∧ Below w.heap.size w w' := by
  have hpl : (payB i (ops l)).length ≤ 78793 := payB_le hs
  have hfl : (frameB (payB i (ops l))).length = (payB i (ops l)).length + 9 := by simp [frameB, big_length]; omega
  obtain ⟨r1, r2, r3⟩ := read_back h.i0 h.i1 hs (fun o ho => by
    obtain ⟨x, hx, rfl⟩ := List.mem_map.1 ho
    exact ⟨(h.rng x hx).w0, (h.rng x hx).w1⟩)
  have hpay : payP (frameB (payB i (ops l)) ++ m) = payB i (ops l) := frame_pay (by omega)
  refine (decode_ok a5 k5 (frameB (payB i (ops l)) ++ m) w hv (by rw [List.length_append]; omega) hcap hb (frame_err (by omega)) (by rw [hpay]; omega) (by rw [hpay]; exact r3)).mono ?_
  rintro e w' ⟨ao, c, l', rfl, e1, e2, e3⟩
  rw [hpay] at e1 ⊢
  rw [r1, ← hfl]
  exact ⟨ao, c, l', rfl, e1.trans r2, e2.at, e3⟩

end Go.Proofs.YtieonnnlhhdfpaaGreatDoor

/- Layer 13 (journal): JournalEncodes, the walk. -/
namespace Go.Proofs.YtieonnnlhhdfpaaGreatDoor
open Go.RowKit
set_option linter.unusedVariables false

theorem cells_grown {w w' : World} {row : Option Nat} (hg : w.grownBy w' row) {ao : Option Addr} {l : List Value} (h : CellsAt w ao l) (hne : ∀ b off, ao = some ⟨b, off, none⟩ → some b ≠ row) : CellsAt w' ao l := by
  intro hl
  obtain ⟨b, off, e, hc⟩ := h hl
  exact ⟨b, off, e, fun j u hj => hg.cell (hc j u hj) (hne b off e)⟩
set_option maxRecDepth 100000 in
set_option maxHeartbeats 4000000 in
theorem journalEncodes_calls (i : Int) (ao : Option Addr) (c : Nat) (l : List OV) (w : World) (hv : Vs w) (h : EntOk i l) (hna : ∀ x ∈ l, x.o.node.addr.size ≤ 1048576) (hat : OpsAt w ao l) :
    Calls Tryz.prog 3 #[.agg #[.int .u64 i, .slice ao l.length c]] w fun e w' => e = .returned (.bool true) ∧ Below w.heap.size w w' := by
  have HK : Hid (EntOk i l) := h
  have HV : Hid (Vs w) := hv
  have HAT : Hid (OpsAt w ao l) := hat
  have HRE : Hid (∀ w', Below w.heap.size w w' → Calls Tryz.prog 8 #[.agg #[.int .u64 i, .slice ao l.length c]] w' fun e w'' => ∃ v', e = .returned (.tuple #[v', .int .i64 (encE (ops l))]) ∧ Own w'' w'.heap.size v' (encB i (ops l)) ∧ Below w'.heap.size w' w'') := fun w' hb => rencode_calls i ao c l w' HK.out.i0 HK.out.i1 (by have := HK.out.len; omega) HK.out.ok hna HK.out.rng (HAT.out.below hb)
  clear h hv hat hna
  have HCP : Hid (∀ w', Below w.heap.size w w' → Calls Tryz.prog 7 #[.agg #[.int .u64 i, .slice ao l.length c]] w' fun e w'' => CopE w' i l e w'') := fun w' hb => copyE_calls i ao c l w' HK.out.len HK.out.tags (HAT.out.below hb)
  have HSE : Hid (∀ w' a6 c6 l6, Below w.heap.size w w' → ops l6 = ops l → OpsAt w' a6 l6 → Calls Tryz.prog 11 #[.agg #[.int .u64 i, .slice a6 l6.length c6], .agg #[.int .u64 i, .slice ao l.length c]] w' fun e w'' => e = .returned (.bool true) ∧ Below w'.heap.size w' w'') := fun w' a6 c6 l6 hb e h6 => by
    have hk := HK.out.copy e
    exact sameE_calls i a6 ao c6 c l6 l w' (by have := hk.len; omega) e.symm (fun x hx => (hk.ok x hx).len) h6 (HAT.out.below hb)
  have HZL : Hid ((encB i (ops l)).length ≤ 78802) := by
    show _ ≤ _
    unfold encB
    cases hs : soundB (ops l) with
    | false => simp
    | true =>
      have hpl : (payB i (ops l)).length ≤ 78793 := payB_le hs
      simp [frameB, big_length]
      omega
  have HEC : Hid (∀ a2 k2 l2 w2, Below w.heap.size w w2 → ops l2 = ops l → OpsAt w2 a2 l2 → Calls Tryz.prog 9 #[.agg #[.int .u64 i, .slice a2 l2.length k2]] w2 fun e w' => ∃ v', e = .returned (.tuple #[v', .int .i64 (encE (ops l))]) ∧ Own w' w2.heap.size v' (encB i (ops l)) ∧ Below w2.heap.size w2 w') := fun a2 k2 l2 w2 hb e h2 => encCopy_calls i l l2 a2 k2 w2 (HV.out.stay hb) HK.out e h2
  obtain ⟨E, HEE⟩ : ∃ x, Hid (x = encE (ops l)) := ⟨_, rfl⟩
  obtain ⟨Z, HZZ⟩ : ∃ x, Hid (x = encB i (ops l)) := ⟨_, rfl⟩
  rw [← HEE.out, ← HZZ.out] at HRE HEC
  rw [← HZZ.out] at HZL
  clear HEE HZZ
  obtain ⟨n, Hn⟩ : ∃ x, Hid (x = l.length) := ⟨_, rfl⟩
  rw [← Hn.out] at HCP HSE HRE ⊢
  obtain ⟨wx, Hwx⟩ : ∃ x, Hid (x = w.alloc (.cells #[.int .u64 i, .slice ao n c] 25)) := ⟨_, rfl⟩
  have HX : Hid (Blk wx w.heap.size #[.int .u64 i, .slice ao n c] 25) := by rw [Hwx.out]; exact Blk.new _ _ _
  have HB : Hid (Below w.heap.size w wx) := by rw [Hwx.out]; exact below_new w _
  go_enter Tryz.func3, Tryz.ntmps3
  go_upto_region 1 with fail
  rw [← Hwx.out]
  clear Hwx
  go_wp2_with fail
  refine (journalFixed_calls wx (HV.out.stay HB.out)).mono ?_
  rintro e w1 ⟨rfl, hb1⟩
  have HB1 : Hid (Below w.heap.size w w1) := HB.out.trans (hb1.mono HB.out.size)
  have HX1 : Hid (Blk w1 w.heap.size #[.int .u64 i, .slice ao n c] 25) := HX.out.below hb1
  clear hb1 HX HB
  have c0 := HX1.out.cell 0 rfl
  have c1 := HX1.out.cell 1 rfl
  go_wp2_with fail
  refine (HCP.out w1 HB1.out).mono ?_
  rintro e w2 ⟨a2, k2, l2, rfl, ho2, hown2, hb2⟩
  have HB2 : Hid (Below w.heap.size w w2) := HB1.out.trans (hb2.mono HB1.out.size)
  have HX2 : Hid (Blk w2 w.heap.size #[.int .u64 i, .slice ao n c] 25) := HX1.out.below hb2
  have HA2 : Hid (OpsAt w2 a2 l2) := hown2.at
  have HO2 : Hid (ops l2 = ops l) := ho2
  have HEC2 : Hid (∀ w', Below w.heap.size w w' → OpsAt w' a2 l2 → Calls Tryz.prog 9 #[.agg #[.int .u64 i, .slice a2 l2.length k2]] w' fun e w'' => ∃ v', e = .returned (.tuple #[v', .int .i64 E]) ∧ Own w'' w'.heap.size v' Z ∧ Below w'.heap.size w' w'') := fun w' hb h2 => HEC.out a2 k2 l2 w' hb HO2.out h2
  have HSE2 : Hid (∀ w', Below w.heap.size w w' → OpsAt w' a2 l2 → Calls Tryz.prog 11 #[.agg #[.int .u64 i, .slice a2 l2.length k2], .agg #[.int .u64 i, .slice ao n c]] w' fun e w'' => e = .returned (.bool true) ∧ Below w'.heap.size w' w'') := fun w' hb h2 => HSE.out w' a2 k2 l2 hb HO2.out h2
  obtain ⟨n2, Hn2⟩ : ∃ x, Hid (x = l2.length) := ⟨_, rfl⟩
  rw [← Hn2.out] at HEC2 HSE2 ⊢
  clear ho2 hown2 hb2 HX1 HB1 c0 c1 HCP HEC HSE HO2 Hn2
  obtain ⟨w3, Hw3⟩ : ∃ x, Hid (x = w2.alloc (.cells #[.int .u64 i, .slice a2 n2 k2] 25)) := ⟨_, rfl⟩
  have HY3 : Hid (Blk w3 w2.heap.size #[.int .u64 i, .slice a2 n2 k2] 25) := by rw [Hw3.out]; exact Blk.new _ _ _
  have HX3 : Hid (Blk w3 w.heap.size #[.int .u64 i, .slice ao n c] 25) := by rw [Hw3.out]; exact HX2.out.alloc _
  have HB3 : Hid (Below w.heap.size w w3) := by rw [Hw3.out]; exact HB2.out.alloc HB2.out.size _
  have HA3 : Hid (OpsAt w3 a2 l2) := by rw [Hw3.out]; exact HA2.out.below (below_new _ _)
  go_upto_region 4 with fail
  rw [← Hw3.out]
  clear Hw3 HX2 HA2
  have c0 := HX3.out.cell 0 rfl
  have c1 := HX3.out.cell 1 rfl
  go_wp2_with fail
  refine (HRE.out w3 HB3.out).mono ?_
  rintro e w4 ⟨v4, rfl, ho4, hb4⟩
  have HB4 : Hid (Below w.heap.size w w4) := HB3.out.trans (hb4.mono HB3.out.size)
  have HX4 : Hid (Blk w4 w.heap.size #[.int .u64 i, .slice ao n c] 25) := HX3.out.below hb4
  have HY4 : Hid (Blk w4 w2.heap.size #[.int .u64 i, .slice a2 n2 k2] 25) := HY3.out.below hb4
  have HA4 : Hid (OpsAt w4 a2 l2) := HA3.out.below hb4
  obtain ⟨a4, k4, rfl⟩ := ho4.shape
  have HO4 : Hid (Own w4 w.heap.size (.slice a4 Z.length k4) Z) := row_weak HB3.out.size ho4
  clear hb4 ho4 HX3 HY3 HA3 c0 c1 HRE
  have c0 := HY4.out.cell 0 rfl
  have c1 := HY4.out.cell 1 rfl
  go_wp2_with fail
  refine (HEC2.out w4 HB4.out HA4.out).mono ?_
  rintro e w5 ⟨v5, rfl, ho5, hb5⟩
  have HB5 : Hid (Below w.heap.size w w5) := HB4.out.trans (hb5.mono HB4.out.size)
  have HX5 : Hid (Blk w5 w.heap.size #[.int .u64 i, .slice ao n c] 25) := HX4.out.below hb5
  have HY5 : Hid (Blk w5 w2.heap.size #[.int .u64 i, .slice a2 n2 k2] 25) := HY4.out.below hb5
  have HA5 : Hid (OpsAt w5 a2 l2) := HA4.out.below hb5
  have HO5 : Hid (Own w5 w.heap.size (.slice a4 Z.length k4) Z) := HO4.out.below hb5
  have H45 : Hid (w4.heap.size ≤ w5.heap.size) := hb5.size
  obtain ⟨a5, k5, rfl⟩ := ho5.shape
  have HP5 : Hid (Own w5 w4.heap.size (.slice a5 Z.length k5) Z) := ho5
  clear hb5 ho5 HX4 HY4 HA4 c0 c1
  have c0 := HY5.out.cell 0 rfl
  have c1 := HY5.out.cell 1 rfl
  go_wp2_with fail
  refine (HEC2.out w5 HB5.out HA5.out).mono ?_
  rintro e w6 ⟨v6, rfl, ho6, hb6⟩
  have HB6 : Hid (Below w.heap.size w w6) := HB5.out.trans (hb6.mono HB5.out.size)
  have HX6 : Hid (Blk w6 w.heap.size #[.int .u64 i, .slice ao n c] 25) := HX5.out.below hb6
  have HY6 : Hid (Blk w6 w2.heap.size #[.int .u64 i, .slice a2 n2 k2] 25) := HY5.out.below hb6
  have HA6 : Hid (OpsAt w6 a2 l2) := HA5.out.below hb6
  have HO6 : Hid (Own w6 w.heap.size (.slice a4 Z.length k4) Z) := HO5.out.below hb6
  have HP6 : Hid (Own w6 w4.heap.size (.slice a5 Z.length k5) Z) := HP5.out.below hb6
  have H56 : Hid (w5.heap.size ≤ w6.heap.size) := hb6.size
  obtain ⟨a6, k6, rfl⟩ := ho6.shape
  have HQ6 : Hid (Own w6 w5.heap.size (.slice a6 Z.length k6) Z) := ho6
  clear hb6 ho6 HX5 HY5 HA5 c0 c1 HEC2
  have c0 := HX6.out.cell 0 rfl
  have c1 := HX6.out.cell 1 rfl
  have y0 := HY6.out.cell 0 rfl
  have y1 := HY6.out.cell 1 rfl
  have hzl := HZL.out
  have HSC : Hid (Calls Tryz.prog 10 #[.slice a5 Z.length k5, .slice a4 Z.length k4] w6 fun e w' => e = .returned (.bool true) ∧ ∃ n, w' = w6.drewN n) := by
    have := same_calls a5 a4 k5 k4 Z Z w6 (by omega) (by omega) HP6.out.bytes HO6.out.bytes
    simp only [decide_true] at this
    exact this
  obtain ⟨zl, Hzl⟩ : ∃ x, Hid (x = Z.length) := ⟨_, rfl⟩
  rw [← Hzl.out] at HSC hzl ⊢
  have qE : (E != E) = false := by simp
  go_wp2_with fail
  refine HSC.out.mono ?_
  rintro e w7 ⟨rfl, hd⟩
  have hb7 : Below w6.heap.size w6 w7 := by obtain ⟨m, rfl⟩ := hd; exact below_draws _ _
  have H67 : Hid (w6.heap.size ≤ w7.heap.size) := hb7.size
  have HB7 : Hid (Below w.heap.size w w7) := HB6.out.trans (hb7.mono HB6.out.size)
  have HX7 : Hid (Blk w7 w.heap.size #[.int .u64 i, .slice ao n c] 25) := HX6.out.below hb7
  have HY7 : Hid (Blk w7 w2.heap.size #[.int .u64 i, .slice a2 n2 k2] 25) := HY6.out.below hb7
  have HA7 : Hid (OpsAt w7 a2 l2) := HA6.out.below hb7
  have HO7 : Hid (Own w7 w.heap.size (.slice a4 Z.length k4) Z) := HO6.out.below hb7
  have HP7 : Hid (Own w7 w4.heap.size (.slice a5 Z.length k5) Z) := HP6.out.below hb7
  have HQ7 : Hid (Own w7 w5.heap.size (.slice a6 Z.length k6) Z) := HQ6.out.below hb7
  clear hd hb7 HX6 HY6 HA6 HO6 HP6 HQ6 HSC c0 c1 y0 y1
  have c0 := HX7.out.cell 0 rfl
  have c1 := HX7.out.cell 1 rfl
  have y0 := HY7.out.cell 0 rfl
  have y1 := HY7.out.cell 1 rfl
  go_wp2_with fail
  refine (HSE2.out w7 HB7.out HA7.out).mono ?_
  rintro e w8 ⟨rfl, hb8⟩
  have HB8 : Hid (Below w.heap.size w w8) := HB7.out.trans (hb8.mono HB7.out.size)
  have HO8 : Hid (CellsAt w8 a4 (bs Z)) := HO7.out.bytes.below hb8
  have HP8 : Hid (Own w8 w4.heap.size (.slice a5 Z.length k5) Z) := HP7.out.below hb8
  have HQ8 : Hid (CellsAt w8 a6 (bs Z)) := HQ7.out.bytes.below hb8
  obtain ⟨R, HR⟩ : ∃ x, Hid (x = (Value.slice a5 zl k5).ownBlock) := ⟨_, rfl⟩
  have HRB : Hid (∀ q, R = some q → w4.heap.size ≤ q ∧ q < w5.heap.size) := fun q hq => by
    rw [HR.out] at hq
    have := HP5.out.lt q (by rw [← Hzl.out]; exact hq)
    exact this
  have HN4 : Hid (∀ b off, a4 = some ⟨b, off, none⟩ → some b ≠ R) := fun b off e e2 => by
    subst e
    have h1 := (HO4.out.lt b rfl).2
    have h2 := (HRB.out b e2.symm).1
    omega
  have HN6 : Hid (∀ b off, a6 = some ⟨b, off, none⟩ → some b ≠ R) := fun b off e e2 => by
    subst e
    have h1 := (HQ7.out.lt b rfl).1
    have h2 := (HRB.out b e2.symm).2
    omega
  have HBG : Hid (∀ W, w8.grownBy W R → Below w.heap.size w W) := fun W hW => HB8.out.grown hW HB8.out.size fun q hq => Nat.le_trans HB4.out.size (HRB.out q hq).1
  have HSM : Hid (∀ W, w8.grownBy W R → Calls Tryz.prog 10 #[.slice a6 zl k6, .slice a4 zl k4] W fun e w' => e = .returned (.bool true) ∧ ∃ n, w' = W.drewN n) := fun W hW => by
    have := same_calls a6 a4 k6 k4 Z Z W (by rw [← Hzl.out]; omega) (by rw [← Hzl.out]; omega) (cells_grown hW HQ8.out HN6.out) (cells_grown hW HO8.out HN4.out)
    simp only [decide_true] at this
    rw [← Hzl.out] at this
    exact this
  have H48 : Hid (w4.heap.size ≤ w8.heap.size) := Nat.le_trans H45.out (Nat.le_trans H56.out (Nat.le_trans H67.out hb8.size))
  clear hb8 HX7 HY7 HA7 HO7 HP7 HQ7 c0 c1 y0 y1 HSE2 HN4 HN6 HO4 HO5 HP5
  go_wp2_with fail
  go_loopw [48] (fun i' wr => ∃ (k : Nat) (L : List UInt8), k ≤ zl ∧ i' = .int .i64 k ∧ Hid (L.length = zl) ∧ Hid (Own wr w4.heap.size (.slice a5 zl k5) L) ∧ Hid (w8.grownBy wr R)) (fun i' _ => zl - (intOf i').toNat)
  case atStart => exact ⟨0, Z, Nat.zero_le _, rfl, Hzl.out.symm, by rw [Hzl.out]; exact HP8, ⟨rfl, rfl, rfl, Nat.le_refl _, fun _ _ _ => rfl⟩⟩
  case round =>
    obtain ⟨k, L, hk, rfl, HL, HP, HG⟩ := hrel
    by_cases hlt : k < zl
    · obtain ⟨g, rfl⟩ : ∃ g, a5 = some ⟨g, 0, none⟩ := by
        obtain ⟨ao', cap', e1, e2⟩ := row_forms HP.out
        obtain ⟨g, e3⟩ := e2 (by rw [HL.out]; omega)
        simp only [Value.slice.injEq] at e1
        exact ⟨g, by rw [e1.1]; exact e3⟩
      obtain ⟨c0, f0⟩ := HP.out.at HL.out k hlt
      obtain ⟨ch, Hch⟩ : ∃ x, Hid (x = L.getD k 0) := ⟨_, rfl⟩
      rw [← Hch.out] at c0
      have hxo : bits .xor .u8 (ch.toNat : Int) 255 = ((ch ^^^ 255).toNat : Int) := flip_val ch 255
      obtain ⟨d, Hd⟩ : ∃ d, Hid (d = ch ^^^ 255) := ⟨_, rfl⟩
      rw [← Hd.out] at hxo
      have HP2 : Hid (Own (wr.setCell ⟨g, k, none⟩ (.int .u8 (d.toNat : Int))) w4.heap.size (.slice (some ⟨g, 0, none⟩) zl k5) (L.set k d)) := HP.out.stored HL.out k d
      have HG2 : Hid (w8.grownBy (wr.setCell ⟨g, k, none⟩ (.int .u8 (d.toNat : Int))) R) := by
        have hrow := HP.out
        unfold Own at hrow
        rw [HL.out] at hrow
        exact grownBy_trans HG.out (World.ownsRow.stored hrow k (.int .u8 (d.toNat : Int))).2 fun q e => .inl (by rw [HR.out]; exact e)
      clear Hd Hch HP
      go_wp2
      go_roundw
      case rel => exact ⟨k + 1, L.set k d, by omega, by go_num, by show _ = _; rw [List.length_set]; exact HL.out, HP2, HG2⟩
      case measure => simp [intOf]; omega
    · go_wp2_with fail
      go_loopw [6, 11] (fun x i' wq => ∃ (j : Nat) (M : List UInt8), j ≤ 40 ∧ i' = .int .i64 j ∧ Hid (M.length ≤ 78802 + j) ∧ Own wq w4.heap.size x M ∧ Hid (w8.grownBy wq R) ∧ Hid (∀ q, x.ownBlock = some q → R = some q ∨ w8.heap.size ≤ q)) (fun _ i' _ => 40 - (intOf i').toNat)
      case atStart => exact ⟨0, L, by omega, rfl, by show _ ≤ _; rw [HL.out]; omega, HP.out, HG, fun q hq => .inl (by rw [HR.out]; exact hq)⟩
      case round =>
        obtain ⟨j, M, hj, rfl, HM, ho, HGq, HPl⟩ := hrel
        by_cases hj40 : j < 40
        · have hM := HM.out
          have h48 : w4.heap.size ≤ wr.heap.size := Nat.le_trans H48.out HGq.out.size
          go_wp2_with (at_builtin; refine append_bytes _ rfl (.tmp 62) (.tmp 63) rfl w4.heap.size _ _ rfl (ho.alloc _) ⟨wr.heap.size, 0, none⟩ 1 1 [9] rfl rfl (by intro j u hj; exact cells_new _ [.int .u8 9] _ j u hj) (by omega) (by simp; omega) ?_)
          intro v1 w1q ho1 hg1'
          have hg1 := hg1'.ofAlloc
          have HG1 : Hid (w8.grownBy w1q R) := grownBy_trans HGq.out hg1.grown fun q e => HPl.out q e
          have HPl1 : Hid (∀ q, v1.ownBlock = some q → R = some q ∨ w8.heap.size ≤ q) := fun q e => (hg1.place q e).elim (HPl.out q) fun h => .inr (Nat.le_trans HGq.out.size h)
          have HM1 : Hid ((M ++ [9]).length ≤ 78802 + (j + 1)) := by show _ ≤ _; simp only [List.length_append, List.length_cons, List.length_nil]; omega
          clear hg1 hg1' ho
          go_wp2
          go_roundw
          case rel => exact ⟨j + 1, M ++ [9], by omega, by go_num, HM1, ho1, HG1, HPl1⟩
          case measure => simp [intOf]; omega
        · have hb := HBG.out _ HGq.out
          go_wp2_with fail
          refine (HSM.out _ HGq.out).mono ?_
          rintro e w9 ⟨rfl, hd⟩
          have HB9 : Hid (Below w.heap.size w w9) := by
            obtain ⟨m, rfl⟩ := hd
            exact hb.trans ((below_draws _ _).mono hb.size)
          clear hd hb
          go_wp2
          go_ret
          exact ⟨rfl, HB9.out⟩
end Go.Proofs.YtieonnnlhhdfpaaGreatDoor
