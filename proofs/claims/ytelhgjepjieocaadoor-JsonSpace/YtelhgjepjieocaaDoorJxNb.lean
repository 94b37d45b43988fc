/- Layer 18 (json): numbered. -/
import Derived.Test.YtelhgjepjieocaaDoorJxPU
namespace Go.Proofs.YtelhgjepjieocaaDoor
open Go.RowKit Go.Sort
set_option linter.unusedVariables false

section
variable {o : Oper} {a : Act} {W : World} {K : Act → World → Prop} {Q : Exit → Act → World → Prop}
theorem f_asg {x : Operand} {v : Value} (ho : o.op = .assign x) (hx : a.eval x = v) (h : K (a.put o.dst v) W) : o.wp Tryd.prog a W K Q :=
  wp_valF (v := v) (by unfold execOp; simp only [ho, hx]; simp [go_sem]) h
theorem f_mv {x : Operand} {v : Value} (ho : o.op = .move x) (hx : a.eval x = v) (h : K (a.put o.dst v) W) : o.wp Tryd.prog a W K Q :=
  wp_valF (v := v) (by unfold execOp; simp only [ho, hx]; simp [go_sem]) h
end
theorem map3 {f : Operand → Value} {x y z : Operand} {u v p : Value} (h : f x = u) (k : f y = v) (i : f z = p) : (#[x, y, z] : Array Operand).map f = #[u, v, p] := by simp [h, k, i]
theorem wrap4 (n : Nat) (h : n ≤ 1048576) : IntKind.i64.wrap ((n : Int) + 4) = (n : Int) + 4 := by
  simp [IntKind.wrap, IntKind.bits, IntKind.signed]
  omega
/-- What each operation of the region leaves that reads four digits. -/
def NbR (rb n : Nat) (s : ByteArray) (j : Nat) (v : Value) (W : World) : Prop :=
  match j with
  | 0 => v = Value.pointer (some ⟨rb, 0, none⟩)
  | 1 => v = Value.pointer (some ⟨rb, 0, none⟩)
  | 2 => v = Value.pointer (some ⟨rb, 0, none⟩)
  | 3 => v = Value.string s
  | 4 => v = Value.pointer (some ⟨rb, 0, none⟩)
  | 5 => v = Value.pointer (some ⟨rb, 0, none⟩)
  | 6 => v = Value.pointer (some ⟨rb, 1, none⟩)
  | 7 => v = Value.int .i64 (n : Int)
  | 8 => v = Value.pointer (some ⟨rb, 0, none⟩)
  | 9 => v = Value.pointer (some ⟨rb, 0, none⟩)
  | 10 => v = Value.pointer (some ⟨rb, 1, none⟩)
  | 11 => v = Value.int .i64 (n : Int)
  | 12 => v = Value.int .i64 ((n + 4 : Nat) : Int)
  | 13 => v = Value.string (s.extract n (n + 4))
  | 14 => PuV (s.extract n (n + 4)) v
  | 15 => PuV (s.extract n (n + 4)) v
  | 16 => ∃ u, v = .int .u64 u ∧ ∀ m : Nat, hexF 0 (s.extract n (n + 4)).data.toList = some m → u = m
  | 18 => ∃ u, v = .int .u64 u ∧ ∀ m : Nat, hexF 0 (s.extract n (n + 4)).data.toList = some m → u = m
  | 17 => EvR (hexF 0 (s.extract n (n + 4)).data.toList) v
  | 19 => EvR (hexF 0 (s.extract n (n + 4)).data.toList) v
  | _ => False

/-- Four hexadecimal digits of a number below 128. -/
def hex4P (l : List UInt8) : Option (Nat × List UInt8) := if 4 ≤ l.length then (hexF 0 (l.take 4)).map fun v => (v, l.drop 4) else none
/-- What a step of the reader answers that yields a byte. -/
def ByR (w : World) (rb : Nat) (s : ByteArray) (r : Option (Nat × List UInt8)) (e : Ending) (w' : World) : Prop :=
  match r with
  | some (c, l') => e = .returned (.tuple #[.int .u8 (c : Int), .bool true]) ∧ RdP w rb s l' w'
  | none => (∃ c, e = .returned (.tuple #[.int .u8 c, .bool false])) ∧ ∃ l', RdP w rb s l' w'
theorem hexF_le : ∀ (l : List UInt8) (v m : Nat), v ≤ 127 → hexF v l = some m → m ≤ 127
  | [], v, m, h, e => by cases e; exact h
  | c :: l, v, m, h, e => by
    unfold hexF at e
    split at e
    · split at e
      · exact hexF_le l _ m (by assumption) e
      · cases e
    · cases e
set_option maxRecDepth 100000 in
set_option maxHeartbeats 4000000 in
theorem numbered_calls (w0 w : World) (rb n : Nat) (s : ByteArray) (l : List UInt8) (hb : Bs w0 w rb) (h : Rd w rb s n l) :
    Calls Tryd.prog 83 #[.pointer (some ⟨rb, 0, none⟩)] w (ByR w rb s (hex4P l)) := by
  have hlen := h.len
  have hsz := h.sz
  have hle := h.le
  obtain ⟨c0, c1, -⟩ := h.cells
  have HR : Hid (Rd w rb s n l) := h
  have HBs : Hid (Bs w0 w rb) := hb
  by_cases h4 : 4 ≤ l.length
  · have hn4 : n + 4 ≤ s.size := by omega
    have HX : Hid ((s.extract n (n + 4)).data.toList = l.take 4) := by
      rw [Hid, extract_take, h.suf, show n + 4 - n = 4 by omega]
    have HXs : Hid ((s.extract n (n + 4)).size = 4) := by rw [Hid, ByteArray.size_extract]; omega
    have hn9 : n ≤ 1048576 := by omega
    have hsub : ¬ ((s.size : Int) - (n : Int) < 4) := by omega
    have HL : Hid (n + l.length = s.size) := hlen
    clear h hb hlen
    go_enter Tryd.func83, Tryd.ntmps83
    go_wp2_with fail
    go_quiet (fail)
    have HRd : Hid (Rd (w.drewN nq) rb s n l) := HR.out.below (below_drawsT _ _)
    have HF5 : Hid (Frm (fun k => k = rb) w (w.drewN nq)) := Frm.ofDraws _ _ _
    obtain ⟨W5, HW5⟩ : ∃ W5, Hid (W5 = w.drewN nq) := ⟨_, rfl⟩
    rw [← HW5.out] at HRd HF5 ⊢
    have HVs : Hid (Vs W5) := (HBs.out.frm HF5.out).now
    clear c0 c1 HW5
    go_upto_region 3 with fail
    refine wp_region_V 20 (fun _ _ W => Below W5.heap.size W5 W) (NbR rb n s) (by kernel_rfl) rfl (by kernel_rfl) (by kernel_rfl) [some 18, some 19, some 20, some 21, some 22, some 23, some 24, some 25, some 26, some 27, some 28, some 29, some 30, some 31, some 32, some 17, some 33, some 34, some 4, some 5] (by kernel_rfl) ?J0 ?hop ?tail
    case J0 => exact fun W vs hW => hW
    case hop =>
      intro i o hi ho a W ls vs hB hlf hs hd hall
      have hblk : W.heap[rb]? = some (.cells #[.string s, .int .i64 (n : Int)] 61) := (hB.block _ (lt_of_heapT HRd.out.blk)).trans HRd.out.blk
      have c0 : W.cell? ⟨rb, 0, none⟩ = some (.string s) := by rw [cell_blkT hblk]; rfl
      have c1 : W.cell? ⟨rb, 1, none⟩ = some (.int .i64 (n : Int)) := by rw [cell_blkT hblk]; rfl
      match i, hi, ho, hd with
      | 0, _, ho, hd =>
        obtain rfl := Option.some.inj ho
        refine ⟨.inl rfl, ?_⟩
        exact f_mv (x := .tmp 0) rfl ((hs 0 (notDst (by kernel_rfl))).trans rfl) ⟨_, rfl, rfl, hB, fun _ _ _ _ h => h⟩
      | 1, _, ho, hd =>
        obtain rfl := Option.some.inj ho
        refine ⟨.inl rfl, ?_⟩
        have e0 : a.eval (.tmp 18) = Value.pointer (some ⟨rb, 0, none⟩) := (hd 0 18 (by kernel_rfl) (by kernel_rfl)).1
        exact wp_valF (v := Value.pointer (some ⟨rb, 0, none⟩)) (by unfold execOp; dsimp only; simp only [e0]; go_simp) ⟨_, rfl, rfl, hB, fun _ _ _ _ h => h⟩
      | 2, _, ho, hd =>
        obtain rfl := Option.some.inj ho
        refine ⟨.inl rfl, ?_⟩
        have e0 : a.eval (.tmp 19) = Value.pointer (some ⟨rb, 0, none⟩) := (hd 1 19 (by kernel_rfl) (by kernel_rfl)).1
        exact wp_valF (v := Value.pointer (some ⟨rb, 0, none⟩)) (by unfold execOp; dsimp only; simp only [e0]; go_simp) ⟨_, rfl, rfl, hB, fun _ _ _ _ h => h⟩
      | 3, _, ho, hd =>
        obtain rfl := Option.some.inj ho
        refine ⟨.inl rfl, ?_⟩
        have e0 : a.eval (.tmp 20) = Value.pointer (some ⟨rb, 0, none⟩) := (hd 2 20 (by kernel_rfl) (by kernel_rfl)).1
        exact wp_valF (v := Value.string s) (by unfold execOp; dsimp only; simp only [e0]; simp [c0, go_sem]) ⟨_, rfl, rfl, hB, fun _ _ _ _ h => h⟩
      | 4, _, ho, hd =>
        obtain rfl := Option.some.inj ho
        refine ⟨.inl rfl, ?_⟩
        exact f_mv (x := .tmp 0) rfl ((hs 0 (notDst (by kernel_rfl))).trans rfl) ⟨_, rfl, rfl, hB, fun _ _ _ _ h => h⟩
      | 5, _, ho, hd =>
        obtain rfl := Option.some.inj ho
        refine ⟨.inl rfl, ?_⟩
        have e0 : a.eval (.tmp 22) = Value.pointer (some ⟨rb, 0, none⟩) := (hd 4 22 (by kernel_rfl) (by kernel_rfl)).1
        exact wp_valF (v := Value.pointer (some ⟨rb, 0, none⟩)) (by unfold execOp; dsimp only; simp only [e0]; go_simp) ⟨_, rfl, rfl, hB, fun _ _ _ _ h => h⟩
      | 6, _, ho, hd =>
        obtain rfl := Option.some.inj ho
        refine ⟨.inl rfl, ?_⟩
        have e0 : a.eval (.tmp 23) = Value.pointer (some ⟨rb, 0, none⟩) := (hd 5 23 (by kernel_rfl) (by kernel_rfl)).1
        exact wp_valF (v := Value.pointer (some ⟨rb, 1, none⟩)) (by unfold execOp; dsimp only; simp only [e0]; go_simp) ⟨_, rfl, rfl, hB, fun _ _ _ _ h => h⟩
      | 7, _, ho, hd =>
        obtain rfl := Option.some.inj ho
        refine ⟨.inl rfl, ?_⟩
        have e0 : a.eval (.tmp 24) = Value.pointer (some ⟨rb, 1, none⟩) := (hd 6 24 (by kernel_rfl) (by kernel_rfl)).1
        exact wp_valF (v := Value.int .i64 (n : Int)) (by unfold execOp; dsimp only; simp only [e0]; simp [c1, go_sem]) ⟨_, rfl, rfl, hB, fun _ _ _ _ h => h⟩
      | 8, _, ho, hd =>
        obtain rfl := Option.some.inj ho
        refine ⟨.inl rfl, ?_⟩
        exact f_mv (x := .tmp 0) rfl ((hs 0 (notDst (by kernel_rfl))).trans rfl) ⟨_, rfl, rfl, hB, fun _ _ _ _ h => h⟩
      | 9, _, ho, hd =>
        obtain rfl := Option.some.inj ho
        refine ⟨.inl rfl, ?_⟩
        have e0 : a.eval (.tmp 26) = Value.pointer (some ⟨rb, 0, none⟩) := (hd 8 26 (by kernel_rfl) (by kernel_rfl)).1
        exact wp_valF (v := Value.pointer (some ⟨rb, 0, none⟩)) (by unfold execOp; dsimp only; simp only [e0]; go_simp) ⟨_, rfl, rfl, hB, fun _ _ _ _ h => h⟩
      | 10, _, ho, hd =>
        obtain rfl := Option.some.inj ho
        refine ⟨.inl rfl, ?_⟩
        have e0 : a.eval (.tmp 27) = Value.pointer (some ⟨rb, 0, none⟩) := (hd 9 27 (by kernel_rfl) (by kernel_rfl)).1
        exact wp_valF (v := Value.pointer (some ⟨rb, 1, none⟩)) (by unfold execOp; dsimp only; simp only [e0]; go_simp) ⟨_, rfl, rfl, hB, fun _ _ _ _ h => h⟩
      | 11, _, ho, hd =>
        obtain rfl := Option.some.inj ho
        refine ⟨.inl rfl, ?_⟩
        have e0 : a.eval (.tmp 28) = Value.pointer (some ⟨rb, 1, none⟩) := (hd 10 28 (by kernel_rfl) (by kernel_rfl)).1
        exact wp_valF (v := Value.int .i64 (n : Int)) (by unfold execOp; dsimp only; simp only [e0]; simp [c1, go_sem]) ⟨_, rfl, rfl, hB, fun _ _ _ _ h => h⟩
      | 12, _, ho, hd =>
        obtain rfl := Option.some.inj ho
        refine ⟨.inl rfl, ?_⟩
        have e0 : a.eval (.tmp 29) = Value.int .i64 (n : Int) := (hd 11 29 (by kernel_rfl) (by kernel_rfl)).1
        exact wp_valF (v := Value.int .i64 ((n + 4 : Nat) : Int)) (by unfold execOp; dsimp only; simp only [e0]; have h4 : a.eval (.const (.int .i64 4)) = .int .i64 4 := rfl; rw [h4]; go_simp; have := wrap4 n hn9; simpa using this) ⟨_, rfl, rfl, hB, fun _ _ _ _ h => h⟩
      | 13, _, ho, hd =>
        obtain rfl := Option.some.inj ho
        refine ⟨.inl rfl, ?_⟩
        have e0 : a.eval (.tmp 21) = Value.string s := (hd 3 21 (by kernel_rfl) (by kernel_rfl)).1
        have e1 : a.eval (.tmp 25) = Value.int .i64 (n : Int) := (hd 7 25 (by kernel_rfl) (by kernel_rfl)).1
        have e2 : a.eval (.tmp 30) = Value.int .i64 ((n + 4 : Nat) : Int) := (hd 12 30 (by kernel_rfl) (by kernel_rfl)).1
        exact wp_valF (v := Value.string (s.extract n (n + 4))) (by unfold execOp; dsimp only; simp only [Option.map_some, Option.map_none, e0, e1, e2]; have i1 : (n : Int) ≤ ((n + 4 : Nat) : Int) := (by omega); go_simp; rw [if_pos (by omega), if_pos (by omega)]; rfl) ⟨_, rfl, rfl, hB, fun _ _ _ _ h => h⟩
      | 14, _, ho, hd =>
        obtain rfl := Option.some.inj ho
        refine ⟨.inl rfl, ?_⟩
        refine wp_callF (f := 96) (vals := #[.string (s.extract n (n + 4)), .int .i64 16, .int .i64 7]) rfl (map3 (hd 13 31 (by kernel_rfl) (by kernel_rfl)).1 rfl rfl) (by go_simp) ?_
        refine (parseUint_calls W _ HXs.out (HVs.out.stay hB)).mono ?_
        rintro e w' ⟨⟨v, rfl, hpv⟩, hbb⟩
        exact ⟨_, rfl, _, rfl, hpv, hB.trans (hbb.mono hB.size), fun j u _ _ h => h⟩
      | 15, _, ho, hd =>
        obtain rfl := Option.some.inj ho
        refine ⟨.inl rfl, ?_⟩
        exact f_mv (x := .tmp 32) rfl rfl ⟨_, rfl, (hd 14 32 (by kernel_rfl) (by kernel_rfl)).1, hB, fun _ _ _ _ h => h⟩
      | 16, _, ho, hd =>
        obtain rfl := Option.some.inj ho
        refine ⟨.inl rfl, ?_⟩
        obtain ⟨u, ev, h1, h2, h3⟩ := (hd 15 17 (by kernel_rfl) (by kernel_rfl)).1
        exact wp_valF (v := .int .u64 u) (by unfold execOp; dsimp only; simp only [h1]; go_simp) ⟨_, rfl, ⟨u, rfl, h2⟩, hB, fun _ _ _ _ h => h⟩
      | 17, _, ho, hd =>
        obtain rfl := Option.some.inj ho
        refine ⟨.inl rfl, ?_⟩
        obtain ⟨u, ev, h1, h2, h3⟩ := (hd 15 17 (by kernel_rfl) (by kernel_rfl)).1
        exact wp_valF (v := ev) (by unfold execOp; dsimp only; simp only [h1]; go_simp) ⟨_, rfl, h3, hB, fun _ _ _ _ h => h⟩
      | 18, _, ho, hd =>
        obtain rfl := Option.some.inj ho
        refine ⟨.inl rfl, ?_⟩
        exact f_asg (x := .tmp 33) rfl rfl ⟨_, rfl, (hd 16 33 (by kernel_rfl) (by kernel_rfl)).1, hB, fun _ _ _ _ h => h⟩
      | 19, _, ho, hd =>
        obtain rfl := Option.some.inj ho
        refine ⟨.inl rfl, ?_⟩
        exact f_asg (x := .tmp 34) rfl rfl ⟨_, rfl, (hd 17 34 (by kernel_rfl) (by kernel_rfl)).1, hB, fun _ _ _ _ h => h⟩
      | n + 20, hi, _, _ => exact absurd hi (by omega)
    case tail =>
      intro vs W ls _ hB hR
      have r0 : vs 0 = .pointer (some ⟨rb, 0, none⟩) := hR 0 (by decide)
      have r1 : vs 1 = .pointer (some ⟨rb, 0, none⟩) := hR 1 (by decide)
      have r2 : vs 2 = .pointer (some ⟨rb, 0, none⟩) := hR 2 (by decide)
      have r3 : vs 3 = .string s := hR 3 (by decide)
      have r4 : vs 4 = .pointer (some ⟨rb, 0, none⟩) := hR 4 (by decide)
      have r5 : vs 5 = .pointer (some ⟨rb, 0, none⟩) := hR 5 (by decide)
      have r6 : vs 6 = .pointer (some ⟨rb, 1, none⟩) := hR 6 (by decide)
      have r7 : vs 7 = .int .i64 (n : Int) := hR 7 (by decide)
      have r8 : vs 8 = .pointer (some ⟨rb, 0, none⟩) := hR 8 (by decide)
      have r9 : vs 9 = .pointer (some ⟨rb, 0, none⟩) := hR 9 (by decide)
      have r10 : vs 10 = .pointer (some ⟨rb, 1, none⟩) := hR 10 (by decide)
      have r11 : vs 11 = .int .i64 (n : Int) := hR 11 (by decide)
      have r12 : vs 12 = .int .i64 ((n + 4 : Nat) : Int) := hR 12 (by decide)
      have r13 : vs 13 = .string (s.extract n (n + 4)) := hR 13 (by decide)
      obtain ⟨u14, v14, r14, -⟩ := hR 14 (by decide)
      obtain ⟨u15, v15, r15, -⟩ := hR 15 (by decide)
      obtain ⟨u16, r16, -⟩ := hR 16 (by decide)
      have h17 : EvR (hexF 0 (s.extract n (n + 4)).data.toList) (vs 17) := hR 17 (by decide)
      obtain ⟨u, r18, hu⟩ := hR 18 (by decide)
      have h19 : EvR (hexF 0 (s.extract n (n + 4)).data.toList) (vs 19) := hR 19 (by decide)
      obtain ⟨ev7, r17⟩ : ∃ ev7, vs 17 = ev7 := ⟨_, rfl⟩
      obtain ⟨ev, r19⟩ : ∃ ev, vs 19 = ev := ⟨_, rfl⟩
      rw [r19, HX.out] at h19
      rw [HX.out] at hu
      have HRW : Hid (Rd W rb s n l) := HRd.out.below hB
      have HFW : Hid (Frm (fun k => k = rb) w W) := HF5.out.trans (Frm.ofBelow hB _)
      simp only [putL, put_lit, List.setIfInBounds_toArray, List.set_cons_succ, List.set_cons_zero]
      rw [r0, r1, r2, r3, r4, r5, r6, r7, r8, r9, r10, r11, r12, r13, r14, r15, r16, r17, r18, r19]
      clear r0 r1 r2 r3 r4 r5 r6 r7 r8 r9 r10 r11 r12 r13 r14 r15 r16 r17 r18 r19 h17 hR hB
      obtain ⟨-, c1, f1⟩ := HRW.out.cells
      have hset := HRW.out.set (m := n + 4) hn4
      rw [tl_drop, HRW.out.suf, show ((n + 4 : Nat) : Int) = (n : Int) + 4 by omega] at hset
      obtain ⟨W6, HW6⟩ : ∃ W6, Hid (W6 = W.setCell ⟨rb, 1, none⟩ (.int .i64 ((n : Int) + 4))) := ⟨_, rfl⟩
      have HP6 : Hid (∀ k, RdP w rb s (l.drop 4) (W6.drewN k)) := fun k => by
        rw [← HW6.out] at hset
        refine ⟨⟨n + 4, hset.below (below_drawsT _ _)⟩, ?_⟩
        rw [HW6.out]
        exact (HFW.out.trans (frm_set _ _ _ _)).trans (Frm.ofDraws _ _ _)
      clear hset
      go_upto_region 5 with fail
      rw [← HW6.out]
      clear HW6 HRW HFW c1 f1
      cases hr : hexF 0 (l.take 4) with
      | some m =>
        have HQ : Hid (hex4P l = some (m, l.drop 4)) := by rw [Hid, hex4P, if_pos h4, hr]; rfl
        have hm := hexF_le _ 0 m (by omega) hr
        have hu' : u = (m : Int) := hu m hr
        rw [hr] at h19
        obtain rfl : ev = .nilIface := h19
        subst hu'
        clear hu hr
        go_quiet (fail)
        go_wp2
        go_ret2
        rw [HQ.out]
        exact ⟨rfl, HP6.out _⟩
      | none =>
        have HQ : Hid (hex4P l = none) := by rw [Hid, hex4P, if_pos h4, hr]; rfl
        rw [hr] at h19
        obtain ⟨t, p, rfl⟩ := h19
        clear hu hr
        go_quiet (fail)
        go_wp2
        go_ret2
        rw [HQ.out]
        exact ⟨⟨_, rfl⟩, _, HP6.out _⟩
  · have HQ : Hid (hex4P l = none) := by rw [Hid, hex4P, if_neg h4]
    have hsub : ((s.size : Int) - (n : Int) < 4) := by omega
    clear h hb hlen
    go_enter Tryd.func83, Tryd.ntmps83
    go_wp2_with fail
    go_quiet (fail)
    go_wp2
    go_ret2
    rw [HQ.out]
    exact ⟨⟨_, rfl⟩, l, rdp_draws HR.out⟩
end Go.Proofs.YtelhgjepjieocaaDoor
