/- Layer 13 (journal): readPayload. -/
import Derived.Test.YtmkohdepgfahnaaGreatDoorJBackM
import Derived.Test.YtmkohdepgfahnaaGreatDoorJDecE
import Derived.Test.YtmkohdepgfahnaaGreatDoorJSum
import Derived.Test.YtmkohdepgfahnaaGreatDoorJEqT
import Derived.Deep.RegionHeldLaw
namespace Go.Proofs.YtmkohdepgfahnaaGreatDoor
open Go.RowKit
set_option linter.unusedVariables false

theorem step_slice_ov {ops : Array Oper} {o : Oper} {a : Act} {W : World} {K : Act → World → Prop} {Q : Exit → Act → World → Prop} {E : Prop} (x : Operand) (z : OV) (hgd : o.guard = none) (ho : o.op = .buildSlice 29 1 #[(0, x)]) (hx : a.eval x = .agg z.v) (h : K (a.put o.dst (.slice (some ⟨W.heap.size, 0, none⟩) 1 1)) (W.alloc (.cells z.v 55))) :
    if Region.wanted o (yielded ops a.tmps) = true then Oper.wp Tryz.prog o a W K Q else E := by
  have hw : Region.wanted o (yielded ops a.tmps) = true := by simp [Region.wanted, hgd]
  rw [if_pos hw]
  exact wp_slice_ov ho hx h
theorem step_append_ov {ops : Array Oper} {o : Oper} {a : Act} {W : World} {K : Act → World → Prop} {Q : Exit → Act → World → Prop} {E : Prop} (s x : Operand) (z : OV) {B n : Nat} {v : Value} {l : List Value} (W1 : World) (hW : W = W1.alloc (.cells z.v 55)) (hgd : o.guard = none) (ho : o.op = .call { callee := .builtin .append, args := #[s, x], argTypes := #[29, 29] })
    (hs : a.eval s = v) (hown : W1.ownsRow B 55 21 v n l) (hx : a.eval x = .slice (some ⟨W1.heap.size, 0, none⟩) 1 1) (hlen : (n + 1) * 256 ≤ 140737488355328) (hB : B ≤ W1.heap.size)
    (h : ∀ v' w', w'.ownsRow B 55 21 v' (n + 1) (l ++ z.v.toList) → Grew W1 w' v v' → K (a.put o.dst v') w') :
    if Region.wanted o (yielded ops a.tmps) = true then Oper.wp Tryz.prog o a W K Q else E := by
  subst hW
  have hw : Region.wanted o (yielded ops a.tmps) = true := by simp [Region.wanted, hgd]
  rw [if_pos hw]
  obtain ⟨i0, hi, hz0, hz1, hz2⟩ := info_parts info_opz
  obtain ⟨v', w', hr, h2, h3, _⟩ := run_append_grew (P := Tryz.prog) (W1.alloc (.cells z.v 55)) B 29 o.type 55 i0 _ 21 256 Tryz.underlying29 hi hz0 hz1 hz2 rfl (by decide) v n l (row_below hown (below_new _ _)) ⟨W1.heap.size, 0, none⟩ 1 1 z.v.toList rfl (fun j u hj => by
    rw [Addr.add_mid, Nat.zero_add, World.cell?_alloc_mark]
    simpa using hj) (ocs_one z) (by unfold maxLen; omega) (by omega) (by simp; omega)
  unfold Oper.wp execOp
  simp only [ho, resolve, invoke, builtin, Sem.run_bind, Sem.run_pure, Result.andThen_ok, List.map_toArray, List.map_cons, List.map_nil, hs, hx, hr]
  exact h v' w' h2 h3.ofAlloc

set_option maxRecDepth 100000 in
theorem ov_fold (z : OV) : Array.foldl (fun (cs : Array Value) (x : Value × Nat) => cs.setIfInBounds x.snd x.fst) #[Value.int IntKind.i64 0, Value.string { data := #[] }, Value.string { data := #[] },
                    Value.int IntKind.u64 0, Value.int IntKind.u64 0, Value.string { data := #[] },
                    Value.string { data := #[] }, Value.string { data := #[] }, Value.int IntKind.i64 0,
                    Value.slice none 0 0, Value.int IntKind.u64 0, Value.int IntKind.u64 0,
                    Value.string { data := #[] }, Value.string { data := #[] }, Value.string { data := #[] },
                    Value.int IntKind.i64 0, Value.string { data := #[] }, Value.int IntKind.u64 0,
                    Value.int IntKind.u64 0, Value.bool false, Value.int IntKind.u64 0] z.v.zipIdx 0 21 = z.v := by
  obtain ⟨⟨kd, ⟨nn, na, n3, n4⟩, ⟨sn, si, sm, sp, tg, s6, s7⟩, ⟨cn, ci, cs, ct, ce, c6, c7⟩, cas, wt⟩, ta, tc⟩ := z
  simp only [OV.v, Opp.v]
  generalize tg.length = tl
  first | kernel_rfl | simp
/-- What stands between two rounds of readPayload. -/
structure RpI (w W0 : World) (rb g2 ge : Nat) (i : Int) (v : Value) (m : List OV) (s : Rd) (W : World) : Prop where
  rd : Rdd W0 rb s W
  e : Blk W ge #[.int .u64 i, v] 31
  z : Blk W g2 #[.int .u64 0, .slice none 0 0] 31
  own : OwnO W W0.heap.size v m
  bl : Below w.heap.size w W
  len : s.1.length ≤ 140737488355328
structure RpG (w W0 : World) (rb g2 ge : Nat) : Prop where
  rb0 : w.heap.size ≤ rb
  rb1 : rb < W0.heap.size
  g20 : w.heap.size ≤ g2
  g21 : g2 < W0.heap.size
  g2r : g2 ≠ rb
  ge0 : W0.heap.size ≤ ge
  w0 : w.heap.size ≤ W0.heap.size
theorem drew_below (W : World) : Below W.heap.size W W.drew := ⟨rfl, rfl, rfl, Nat.le_refl _, fun _ _ => rfl⟩
theorem below_grown1 {B : Nat} {a b c : World} {r : Nat} (h : Below B a b) (hB : B ≤ a.heap.size) (hr : B ≤ r) (hg : b.grownBy c (some r)) : Below B a c :=
  ⟨hg.os.trans h.os, hg.tape.trans h.tape, hg.output.trans h.output, Nat.le_trans h.size hg.size, fun k hk => (hg.block k (by have := h.size; omega) (by simp; omega)).trans (h.block k hk)⟩
theorem RpI.read {w W0 : World} {rb g2 ge : Nat} {i : Int} {v : Value} {m : List OV} {s s' : Rd} {W W' : World} (G : RpG w W0 rb g2 ge) (h : RpI w W0 rb g2 ge i v m s W) (hl : s'.1.length ≤ s.1.length) (hr : Rdd W rb s' W') : RpI w W0 rb g2 ge i v m s' W' := by
  obtain ⟨cs, hb⟩ := h.rd.at'.blk
  exact ⟨h.rd.trans hr, h.e.grown hr.grown (by have := G.ge0; have := G.rb1; omega), h.z.grown hr.grown G.g2r, ⟨row_grown h.own.row hb (by decide) hr.grown, fun x hx => row_grown (h.own.tags x hx) hb (by decide) hr.grown⟩,
    below_grown1 h.bl (Nat.le_refl _) G.rb0 hr.grown, Nat.le_trans hl h.len⟩
theorem RpI.below {w W0 : World} {rb g2 ge : Nat} {i : Int} {v : Value} {m : List OV} {s : Rd} {W W' : World} (h : RpI w W0 rb g2 ge i v m s W) (hb : Below W.heap.size W W') : RpI w W0 rb g2 ge i v m s W' :=
  ⟨h.rd.below hb, h.e.below hb, h.z.below hb, h.own.below hb, h.bl.trans (hb.mono h.bl.size), h.len⟩
theorem RpI.push {w W0 : World} {rb g2 ge : Nat} {i : Int} {v v7 : Value} {m : List OV} {s : Rd} {W w7 : World} {z : OV} (G : RpG w W0 rb g2 ge) (h : RpI w W0 rb g2 ge i v m s W) (ht : TagO W W0.heap.size z) (ho : w7.ownsRow W0.heap.size 55 21 v7 (m.length + 1) (ocs m ++ z.v.toList)) (hg : Grew W w7 v v7) : RpI w W0 rb g2 ge i v7 (m ++ [z]) s (w7.setCell ⟨ge, 1, none⟩ v7) := by
  have hE : Blk w7 ge #[.int .u64 i, v] 31 := row_grewB h.e h.own.row hg (by decide)
  have hZ : Blk w7 g2 #[.int .u64 0, .slice none 0 0] 31 := row_grewB h.z h.own.row hg (by decide)
  have hO : OwnO w7 W0.heap.size v7 (m ++ [z]) := h.own.push ht ho hg
  have hR : Rdd W0 rb s w7 := h.rd.grow G.rb1 h.own.row (Nat.le_refl _) hg
  have hsz := h.bl.size
  have hB : Below w.heap.size w w7 := h.bl.trans (hg.toBelow hsz fun k hk => Nat.le_trans G.w0 (World.ownsRow.lt h.own.row k hk).1)
  refine ⟨hR.over G.rb1 ((Below.refl _ _).setCell (p := ⟨ge, 1, none⟩) G.ge0 _), ?_, hZ.off (a := ⟨ge, 1, none⟩) (by have := G.ge0; have := G.g21; simp; omega) _, ⟨rowN_set1 hE (by decide) hO.row _, fun x hx => rowN_set1 hE (by decide) (hO.tags x hx) _⟩, hB.setCell (p := ⟨ge, 1, none⟩) (by have := G.ge0; have := G.w0; simp; omega) _, h.len⟩
  have := hE.put 1 v7
  simpa using this
theorem RpI.pushK {w W0 : World} {rb g2 ge k : Nat} {i : Int} {v v7 : Value} {m : List OV} {s : Rd} {W w7 : World} {z : OV} (h : RpI w W0 rb g2 ge i v m s W) (hk : m.length = k) (G : RpG w W0 rb g2 ge) (ht : TagO W W0.heap.size z) (ho : w7.ownsRow W0.heap.size 55 21 v7 (k + 1) (ocs m ++ z.v.toList)) (hg : Grew W w7 v v7) : RpI w W0 rb g2 ge i v7 (m ++ [z]) s (w7.setCell ⟨ge, 1, none⟩ v7) := h.push G ht (by rw [hk]; exact ho) hg
theorem own_row {W : World} {B k : Nat} {v : Value} {m : List OV} (hk : m.length = k) (h : OwnO W B v m) : W.ownsRow B 55 21 v k (ocs m) := by
  have := h.row
  rw [hk] at this
  exact this
theorem tag_of {W : World} {B B' : Nat} {o : Opp} {ta : Option Addr} {tc : Nat} {z : OV} (hz : z = ⟨o, ta, tc⟩) (hB : B ≤ B') (h : W.ownsRow B' 9 1 (.slice ta o.svc.tags.length tc) o.svc.tags.length (o.svc.tags.map Value.string)) : TagO W B z := by
  subst hz
  exact row_weak hB h
theorem zo_of {o : Opp} {ta : Option Addr} {tc : Nat} {z : OV} (hz : z = ⟨o, ta, tc⟩) : z.o = o := by subst hz; rfl
theorem zv_of {o : Opp} {ta : Option Addr} {tc : Nat} {z : OV} (hz : z = ⟨o, ta, tc⟩) : o.v (.slice ta o.svc.tags.length tc) = z.v := by subst hz; rfl
/-- op's answer, by its parts. -/
def opQ (k : Nat) (cb : Bool) (cw : Nat) (a b d e f g : Rd) (ts : List ByteArray × Rd) (po st : Nat) : Opp × Rd :=
  if k = 1 then (⟨k, ⟨txt a, txt b, 0, 0⟩, svcZ, chkZ, cb, cw⟩, d)
  else if k = 2 then (⟨k, nodeZ, ⟨txt a, txt b, txt d, po, ts.1, 0, 0⟩, chkZ, cb, cw⟩, ts.2)
  else if k = 3 then (⟨k, nodeZ, svcZ, ⟨txt a, txt b, txt d, st, txt f, 0, 0⟩, cb, cw⟩, g)
  else if k = 4 then (⟨k, ⟨txt a, ⟨#[]⟩, 0, 0⟩, svcZ, chkZ, cb, cw⟩, b)
  else if k = 5 then (⟨k, nodeZ, ⟨txt a, txt b, ⟨#[]⟩, 0, [], 0, 0⟩, chkZ, cb, cw⟩, d)
  else if k = 6 then (⟨k, nodeZ, svcZ, ⟨txt a, txt b, ⟨#[]⟩, 0, ⟨#[]⟩, 0, 0⟩, cb, cw⟩, d)
  else (⟨k, nodeZ, svcZ, chkZ, cb, cw⟩, a)
theorem opP_Q (s : Rd) : opP s = opQ (smlB s) (casP (tkS 1 s)).1.1 (casP (tkS 1 s)).1.2 (casP (tkS 1 s)).2 (txS (casP (tkS 1 s)).2) (txS (txS (casP (tkS 1 s)).2)) (txS (txS (txS (casP (tkS 1 s)).2))) (tkS 1 (txS (txS (txS (casP (tkS 1 s)).2)))) (txS (tkS 1 (txS (txS (txS (casP (tkS 1 s)).2))))) (textsP (tkS 2 (txS (txS (txS (casP (tkS 1 s)).2))))) (unbig (tkB 2 (txS (txS (txS (casP (tkS 1 s)).2))))) (smlB (txS (txS (txS (casP (tkS 1 s)).2)))) := by
  unfold opP opQ
  rfl
theorem opQ_len {k : Nat} {cb : Bool} {cw : Nat} {a b d e f g : Rd} {ts : List ByteArray × Rd} {po st N : Nat} (ha : a.1.length ≤ N) (hb : b.1.length ≤ N) (hd : d.1.length ≤ N) (hg : g.1.length ≤ N) (ht : ts.2.1.length ≤ N) : (opQ k cb cw a b d e f g ts po st).2.1.length ≤ N := by
  unfold opQ
  repeat' split
  all_goals assumption
theorem opP_len (s : Rd) : (opP s).2.1.length ≤ s.1.length := by
  have a := Nat.le_trans (casP_len (tkS 1 s)) (tkS_len 1 s)
  have t := Nat.le_trans (txS_len (casP (tkS 1 s)).2) a
  have t2 := Nat.le_trans (txS_len (txS (casP (tkS 1 s)).2)) t
  have t3 := Nat.le_trans (txS_len (txS (txS (casP (tkS 1 s)).2))) t2
  have t4 := Nat.le_trans (tkS_len 2 (txS (txS (txS (casP (tkS 1 s)).2)))) t3
  have t5 := Nat.le_trans (textsP_len (tkS 2 (txS (txS (txS (casP (tkS 1 s)).2))))) t4
  have t6 := Nat.le_trans (tkS_len 1 (txS (txS (txS (casP (tkS 1 s)).2)))) t3
  have t7 := Nat.le_trans (txS_len (tkS 1 (txS (txS (txS (casP (tkS 1 s)).2))))) t6
  rw [opP_Q]
  exact opQ_len a t t2 t7 t5
theorem txt_le (s : Rd) : (txt s).size ≤ 255 := by
  have h1 := tkB_len (smlB s) (tkS 1 s)
  have h2 := smlB_lt s
  show (txB s).toArray.size ≤ 255
  simp only [List.size_toArray]
  unfold txB
  omega
theorem txsP_le : ∀ (n : Nat) (s : Rd), ∀ t ∈ (txsP n s).1, t.size ≤ 255
  | 0, s, t, h => by simp [txsP] at h
  | n + 1, s, t, h => by
    simp only [txsP, List.mem_append, List.mem_singleton] at h
    rcases h with h | rfl
    · exact txsP_le n s t h
    · exact txt_le _
theorem unbigK_le (k : Nat) (s : Rd) : (unbig (tkB k s) : Nat) < 256 ^ k := unbig_le _ k (tkB_len k s)
theorem casP_le (s : Rd) : (casP s).1.2 ≤ 18446744073709551615 := by
  unfold casP
  split
  · exact Nat.zero_le _
  split
  · have := unbigK_le 8 (tkS 1 s)
    show unbig (tkB 8 (tkS 1 s)) ≤ _
    omega
  · exact Nat.zero_le _
theorem opQ_ok {k : Nat} {cb : Bool} {cw : Nat} {a b d e f g : Rd} {ts : List ByteArray × Rd} {po st : Nat} (hc : cw ≤ 18446744073709551615) (hl : ts.1.length ≤ 255) (ht : ∀ t ∈ ts.1, t.size ≤ 255) : (opQ k cb cw a b d e f g ts po st).1.small ∧ (opQ k cb cw a b d e f g ts po st).1.svc.tags.length ≤ 255 ∧ (opQ k cb cw a b d e f g ts po st).1.rng := by
  have tl : ∀ x : Rd, (txt x).size ≤ 140737488351296 := fun x => Nat.le_trans (txt_le x) (by decide)
  have z : (⟨#[]⟩ : ByteArray).size ≤ 140737488351296 := Nat.zero_le _
  have hrng : ∀ (k : Int) (n : Nd) (v : Sp) (c : Ck), (⟨k, n, v, c, cb, (cw : Nat)⟩ : Opp).rng := fun k n v c => ⟨by show (0 : Int) ≤ (cw : Nat); omega, by show ((cw : Nat) : Int) ≤ _; omega⟩
  have ht2 : ∀ t ∈ ts.1, t.size ≤ 140737488351296 := fun t h => Nat.le_trans (ht t h) (by decide)
  have sZ : svcZ.small := ⟨by decide, by decide, by decide, by decide, fun x hx => by cases hx⟩
  have cZ : chkZ.small := ⟨by decide, by decide, by decide, by decide⟩
  unfold opQ
  split
  · exact ⟨⟨tl _, tl _, sZ, cZ⟩, Nat.zero_le _, hrng _ _ _ _⟩
  split
  · exact ⟨⟨z, z, ⟨tl _, tl _, tl _, Nat.le_trans hl (by decide), ht2⟩, cZ⟩, hl, hrng _ _ _ _⟩
  split
  · exact ⟨⟨z, z, sZ, ⟨tl _, tl _, tl _, tl _⟩⟩, Nat.zero_le _, hrng _ _ _ _⟩
  split
  · exact ⟨⟨tl _, z, sZ, cZ⟩, Nat.zero_le _, hrng _ _ _ _⟩
  split
  · exact ⟨⟨z, z, ⟨tl _, tl _, z, Nat.zero_le _, fun x hx => by cases hx⟩, cZ⟩, Nat.zero_le _, hrng _ _ _ _⟩
  split
  · exact ⟨⟨z, z, sZ, ⟨tl _, tl _, z, z⟩⟩, Nat.zero_le _, hrng _ _ _ _⟩
  · exact ⟨⟨z, z, sZ, cZ⟩, Nat.zero_le _, hrng _ _ _ _⟩
theorem textsP_le (x : Rd) : (textsP x).1.length ≤ 255 ∧ ∀ t ∈ (textsP x).1, t.size ≤ 255 := by
  have h1 := (txsP_len (smlB x) (tkS 1 x)).1
  have h2 := smlB_lt x
  exact ⟨by unfold textsP; omega, txsP_le _ _⟩
theorem opP_ok (s : Rd) : (opP s).1.small ∧ (opP s).1.svc.tags.length ≤ 255 ∧ (opP s).1.rng := by
  rw [opP_Q]
  exact opQ_ok (casP_le _) (textsP_le _).1 (textsP_le _).2
theorem opsP_ok : ∀ (n : Nat) (s : Rd), (∀ o ∈ (opsP n s).1, o.small ∧ o.svc.tags.length ≤ 255 ∧ o.rng) ∧ (opsP n s).1.length = n ∧ (opsP n s).2.1.length ≤ s.1.length
  | 0, s => ⟨fun o h => by simp [opsP] at h, rfl, Nat.le_refl _⟩
  | n + 1, s => by
    obtain ⟨h1, h2, h3⟩ := opsP_ok n s
    refine ⟨fun o h => ?_, by simp [opsP, h2], Nat.le_trans (opP_len _) h3⟩
    simp only [opsP, List.mem_append, List.mem_singleton] at h
    rcases h with h | rfl
    · exact h1 o h
    · exact opP_ok _
end Go.Proofs.YtmkohdepgfahnaaGreatDoor
