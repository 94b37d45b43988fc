/- Layer 13 (journal): the law's since. -/
import Derived.Test.YthgcnmilaifkoaaGreatDoorJRopH
import Derived.Test.YthgcnmilaifkoaaGreatDoorJREnc
import Derived.Test.YthgcnmilaifkoaaGreatDoorJRPay
namespace Go.Proofs.YthgcnmilaifkoaaGreatDoor
open Go.RowKit
set_option linter.unusedVariables false

section
variable {o : Oper} {a : Act} {W : World} {K : Act → World → Prop} {Q : Exit → Act → World → Prop}
theorem f_loadEnt {x : Operand} {b off n c : Nat} {i : Int} {s : Option Addr} (ho : o.op = .load 31 x) (hx : a.eval x = .pointer (some ⟨b, off, none⟩)) (hc : W.rangeAt b off [.int .u64 i, .slice s n c]) (h : K (a.put o.dst (.agg #[.int .u64 i, .slice s n c])) W) : o.wp Tryz.prog a W K Q :=
  wp_load_mid 31 x ho b off hx [.int .u64 i, .slice s n c] _ hc Tryz.underlying31 rfl (by kernel_rfl) h
theorem f_idxEnt {x y : Operand} {g off n c b : Nat} (ho : o.op = .indexAddr 28 x y) (hx : a.eval x = .slice (some ⟨g, off, none⟩) n c) (hy : a.eval y = .int .i64 (b : Int)) (hb : b < n) (h : K (a.put o.dst (.pointer (some ⟨g, off + b * 2, none⟩))) W) : o.wp Tryz.prog a W K Q :=
  wp_valF (v := .pointer (some ⟨g, off + b * 2, none⟩)) (by
    have h1 : (0 : Int) ≤ (b : Int) := by omega
    have h2 : (b : Int) < (n : Int) := by omega
    unfold execOp; simp only [ho, hx, hy]; go_simp) h
theorem f_lenEnt {x : Operand} {s : Option Addr} {n c : Nat} (ho : o.op = .call { callee := .builtin .len, args := #[x], argTypes := #[28] }) (hx : a.eval x = .slice s n c) (h : K (a.put o.dst (.int .i64 (n : Int))) W) : o.wp Tryz.prog a W K Q :=
  wp_valF (v := .int .i64 (n : Int)) (by unfold execOp; simp only [ho, resolve, invoke, builtin, Sem.run_bind, Sem.run_pure, Result.andThen_ok, List.map_toArray, List.map_cons, List.map_nil, hx]; go_simp) h
theorem f_geq {x y : Operand} {p q : Nat} (ho : o.op = .binOp .geq 3 x y 3) (hx : a.eval x = .int .i64 (p : Int)) (hy : a.eval y = .int .i64 (q : Int)) (hlt : p < q) (h : K (a.put o.dst (.bool false)) W) : o.wp Tryz.prog a W K Q :=
  wp_valF (v := .bool false) (by
    have h1 : decide ((q : Int) ≤ (p : Int)) = false := decide_eq_false (by omega)
    unfold execOp; simp only [ho, hx, hy]; go_simp) h
theorem f_notJ {x : Operand} {T : TypeId} {b : Bool} (ho : o.op = .unOp .not T x) (hx : a.eval x = .bool b) (h : K (a.put o.dst (.bool (!b))) W) : o.wp Tryz.prog a W K Q :=
  wp_valF (v := .bool (!b)) (by unfold execOp; simp only [ho, hx]; rfl) h
end

/-- Entries to read: their cells, each one's operations. -/
structure HeldAt (w : World) (ao : Option Addr) (hs : List EV) : Prop where
  cells : CellsAt w ao (ecs hs)
  ops : ∀ x ∈ hs, OpsAt w x.a x.l
theorem HeldAt.below {w w' : World} {ao : Option Addr} {hs : List EV} (h : HeldAt w ao hs) (hb : Below w.heap.size w w') : HeldAt w' ao hs := ⟨h.cells.below hb, fun x hx => (h.ops x hx).below hb⟩
theorem cells_evJ {w : World} {ao : Option Addr} {hs : List EV} (h : CellsAt w ao (ecs hs)) (k : Nat) (hk : k < hs.length) : ∃ b off, ao = some ⟨b, off, none⟩ ∧ w.rangeAt b (off + k * 2) [.int .u64 hs[k].i, .slice hs[k].a hs[k].l.length hs[k].c] := by
  obtain ⟨b, off, ha, hc⟩ := h (flat_ne _ 2 (fun _ => rfl) (by decide) hk)
  refine ⟨b, off, ha, fun j u hj => ?_⟩
  have hj2 : j < 2 := (List.getElem?_eq_some_iff.1 hj).1
  have := hc (k * 2 + j) u (by
    unfold ecs
    rw [flat_at (fun x : EV => x.cs) 2 (fun _ => rfl) hs k j hs[k] (by simp [hk]) hj2]
    exact hj)
  rw [show off + k * 2 + j = off + (k * 2 + j) by omega]
  exact this
theorem snd_small {o : Opp} (h : Snd o) : o.small ∧ o.svc.tags.length ≤ 16 ∧ o.node.addr.size ≤ 1048576 := by
  cases h with
  | node n a b x hx h1 h2 => exact ⟨⟨by show n.size ≤ _; omega, by show a.size ≤ _; omega, ⟨Nat.zero_le _, Nat.zero_le _, Nat.zero_le _, Nat.zero_le _, fun x hx => by cases hx⟩, ⟨Nat.zero_le _, Nat.zero_le _, Nat.zero_le _, Nat.zero_le _⟩⟩, Nat.zero_le _, by show a.size ≤ _; omega⟩
  | svc n i m p t b x hx h1 h2 h3 h4 h5 h6 h7 => exact ⟨⟨Nat.zero_le _, Nat.zero_le _, ⟨by show n.size ≤ _; omega, by show i.size ≤ _; omega, by show m.size ≤ _; omega, by show t.length ≤ _; omega, fun y hy => by have := h7 y hy; omega⟩, ⟨Nat.zero_le _, Nat.zero_le _, Nat.zero_le _, Nat.zero_le _⟩⟩, h6, Nat.zero_le _⟩
  | chk n i m p t b x hx h1 h2 h3 h4 h5 h6 => exact ⟨⟨Nat.zero_le _, Nat.zero_le _, ⟨Nat.zero_le _, Nat.zero_le _, Nat.zero_le _, Nat.zero_le _, fun x hx => by cases hx⟩, ⟨by show n.size ≤ _; omega, by show i.size ≤ _; omega, by show m.size ≤ _; omega, by show t.size ≤ _; omega⟩⟩, Nat.zero_le _, Nat.zero_le _⟩
  | dnode n b x hx h1 => exact ⟨⟨by show n.size ≤ _; omega, Nat.zero_le _, ⟨Nat.zero_le _, Nat.zero_le _, Nat.zero_le _, Nat.zero_le _, fun x hx => by cases hx⟩, ⟨Nat.zero_le _, Nat.zero_le _, Nat.zero_le _, Nat.zero_le _⟩⟩, Nat.zero_le _, Nat.zero_le _⟩
  | dsvc n i b x hx h1 h2 => exact ⟨⟨Nat.zero_le _, Nat.zero_le _, ⟨by show n.size ≤ _; omega, by show i.size ≤ _; omega, Nat.zero_le _, Nat.zero_le _, fun x hx => by cases hx⟩, ⟨Nat.zero_le _, Nat.zero_le _, Nat.zero_le _, Nat.zero_le _⟩⟩, Nat.zero_le _, Nat.zero_le _⟩
  | dchk n i b x hx h1 h2 => exact ⟨⟨Nat.zero_le _, Nat.zero_le _, ⟨Nat.zero_le _, Nat.zero_le _, Nat.zero_le _, Nat.zero_le _, fun x hx => by cases hx⟩, ⟨by show n.size ≤ _; omega, by show i.size ≤ _; omega, Nat.zero_le _, Nat.zero_le _⟩⟩, Nat.zero_le _, Nat.zero_le _⟩
/-- What the document's Encode asks of an entry that a journal may hold. -/
theorem rencodeP_calls (x : EV) (w : World) (hp : PeOk x.p) (hat : OpsAt w x.a x.l) :
    Calls Tryz.prog 20 #[.agg #[.int .u64 x.i, .slice x.a x.l.length x.c]] w fun e w' => ∃ v', e = .returned (.tuple #[v', .int .i64 0]) ∧ Own w' w.heap.size v' (frmP x.p) ∧ Below w.heap.size w w' := by
  obtain ⟨h1, h2, h3⟩ := soundB_all hp.snd
  have hmem : ∀ y ∈ x.l, y.o ∈ x.p.2 := fun y hy => List.mem_map.2 ⟨y, hy, rfl⟩
  have hlen : x.l.length ≤ 64 := by have : (ops x.l).length = x.l.length := by simp [ops]
                                    have h9 : (ops x.l).length ≤ 64 := h2
                                    omega
  refine (rencode_calls x.i x.a x.c x.l w hp.lo hp.hi (by omega) (fun y hy => ⟨(snd_small (h3 _ (hmem y hy))).1, by have := (snd_small (h3 _ (hmem y hy))).2.1; omega⟩) (fun y hy => (snd_small (h3 _ (hmem y hy))).2.2) (fun y hy => ⟨(hp.want _ (hmem y hy)).1, (hp.want _ (hmem y hy)).2⟩) hat).mono ?_
  rintro e w' ⟨v', rfl, ho, hb⟩
  have e1 : encE (ops x.l) = 0 := encE_ok hp.snd
  have e2 : encB x.i (ops x.l) = frmP x.p := encB_ok hp.snd
  rw [e1]
  rw [e2] at ho
  exact ⟨v', rfl, ho, hb⟩
theorem same_ent (x y : EV) (w : World) (hp : PeOk y.p) (he : x.p = y.p) (hx : OpsAt w x.a x.l) (hy : OpsAt w y.a y.l) :
    Calls Tryz.prog 10 #[.agg #[.int .u64 x.i, .slice x.a x.l.length x.c], .agg #[.int .u64 y.i, .slice y.a y.l.length y.c]] w fun e w' => e = .returned (.bool true) ∧ Below w.heap.size w w' := by
  obtain ⟨h1, h2, h3⟩ := soundB_all hp.snd
  have hi : x.i = y.i := congrArg Prod.fst he
  have ho : ops x.l = ops y.l := congrArg Prod.snd he
  have hlen : x.l.length ≤ 64 := by have h8 : (ops x.l).length = x.l.length := by simp [ops]
                                    have h9 : (ops y.l).length ≤ 64 := h2
                                    rw [ho] at h8
                                    omega
  rw [hi]
  refine sameE_calls y.i x.a y.a x.c y.c x.l y.l w (by omega) ho.symm (fun z hz => ?_) hx hy
  have hm : z.o ∈ ops y.l := by rw [← ho]; exact List.mem_map.2 ⟨z, hz, rfl⟩
  have := (snd_small (h3 _ hm)).2.1
  omega

/-- All that stands ahead of a round of since's loop. -/
structure SI (w wr : World) (v8 v9 : Value) (es : List EV) (at' M : Nat) (bb : List UInt8) : Prop where
  bl : Below w.heap.size w wr
  row : wr.ownsRow w.heap.size 31 2 v8 es.length (ecs es)
  up : Up wr M (es.drop at')
  low : w.heap.size ≤ M
  by_ : Own wr w.heap.size v9 bb
theorem SI.below {w wr wr' : World} {v8 v9 : Value} {es : List EV} {at' M : Nat} {bb : List UInt8} (h : SI w wr v8 v9 es at' M bb) (hb : Below wr.heap.size wr wr') : SI w wr' v8 v9 es at' M bb :=
  ⟨h.bl.trans (hb.mono h.bl.size), row_below h.row hb, h.up.below hb, h.low, row_below h.by_ hb⟩
theorem drop_take_snoc {α β : Type} (ps : List α) (f : α → List β) (d q : Nat) (hq : q < ps.length) (hd : d ≤ q) : ((ps.take (q + 1)).drop d).flatMap f = ((ps.take q).drop d).flatMap f ++ f ps[q] := by
  rw [List.take_succ_eq_append_getElem hq, List.drop_append_of_le_length (by rw [List.length_take]; omega), List.flatMap_append]
  simp
theorem drop_take_low {α β : Type} (ps : List α) (f : α → List β) (d q : Nat) (hd : q ≤ d) : ((ps.take q).drop d).flatMap f = [] := by
  rw [List.drop_of_length_le (by rw [List.length_take]; omega)]
  rfl

set_option maxRecDepth 100000 in
set_option maxHeartbeats 8000000 in
theorem sinceL_calls (B jb : Nat) (first index : Int) (v : Value) (fs : List FV) (ps : List (Int × List Opp)) (hao : Option Addr) (hc : Nat) (hs : List EV) (w : World) (h0 : 0 ≤ first) (h1 : first ≤ 18446744073709551615) (hi0 : 0 ≤ index) (hi1 : index ≤ 18446744073709551615) (hn : fs.length ≤ 8388608) (hv : Vs w) (hJ : JAt w B jb first v fs) (hf : FrsOf fs ps) (hh : HeldAt w hao hs) (hp : hs.map EV.p = ps) (hcons : ∀ k (h : k < ps.length), ps[k].1 = first + 1 + k) :
    Calls Tryz.prog 11 #[.pointer (some ⟨jb, 0, none⟩), .slice hao hs.length hc, .int .u64 index] w fun e w' => e = .returned (.bool true) ∧ Below w.heap.size w w' := by
  have hnl : hs.length = ps.length := by rw [← hp, List.length_map]
  have hnf : ps.length ≤ 8388608 := by rw [← hf.len]; exact hn
  obtain ⟨d, Hd⟩ : ∃ d, Hid (d = (index - first).toNat) := ⟨_, rfl⟩
  have HS1 : Hid (Calls Tryz.prog 18 #[.pointer (some ⟨jb, 0, none⟩), .int .u64 index] w (SinA w (ps.drop d))) := by
    rw [Hd.out]
    exact since_calls B jb first index v fs ps w h0 h1 hi0 hi1 (by omega) hv hJ hf
  have HS2 : Hid (∀ w', Below w.heap.size w w' → Calls Tryz.prog 19 #[.pointer (some ⟨jb, 0, none⟩), .int .u64 index] w' fun e w'' => ∃ v', e = .returned v' ∧ Own w'' w'.heap.size v' ((ps.drop d).flatMap frmP) ∧ Below w'.heap.size w' w'') := fun w' hb => by
    rw [Hd.out]
    exact bytesJ_calls B jb first index v fs ps w' h0 h1 hi0 hi1 hn (hJ.below hb) hf
  have HLe : Hid (((ps.drop d).flatMap frmP).length ≤ 1099511627776) := by
    show _ ≤ _
    have h5 := flat_frm_le (ps.drop d) fun p hp => hf.ok p (List.mem_of_mem_drop hp)
    have h6 : (ps.drop d).length * 78802 ≤ 8388608 * 78802 := Nat.mul_le_mul_right _ (by rw [List.length_drop]; omega)
    omega
  have HOk : Hid (∀ p ∈ ps, PeOk p) := hf.ok
  have HH : Hid (HeldAt w hao hs) := hh
  have HCmp : Hid (∀ q (h : q < ps.length), (ps[q].1 ≤ index ↔ q < d)) := fun q hq => by
    rw [hcons q hq, Hd.out]
    omega
  have HPk : Hid (∀ q (h : q < hs.length) (h2 : q < ps.length), (hs[q]'h).p = ps[q]'h2) := fun q h h2 => by
    have : ps[q]'h2 = (hs.map EV.p)[q]'(by rw [List.length_map]; exact h) := by simp only [hp]
    rw [this, List.getElem_map]
  clear hv hJ hf hh hcons Hd
  obtain ⟨n, Hn⟩ : ∃ x, Hid (x = hs.length) := ⟨_, rfl⟩
  have HNP : Hid (ps.length = n) := by rw [Hn.out]; exact hnl.symm
  have hn8 : n ≤ 8388608 := by rw [← HNP.out]; exact hnf
  rw [← Hn.out]
  clear hnf hnl hp hn
  go_enter Tryz.func11, Tryz.ntmps11
  go_wp2_with fail
  refine HS1.out.mono ?_
  clear HS1
  rintro e w1 ⟨v8, es, rfl, hep, hrow, hup, hb1⟩
  have HEP : Hid (es.map EV.p = ps.drop d) := hep
  have HR1 : Hid (w1.ownsRow w.heap.size 31 2 v8 es.length (ecs es)) := hrow
  have HU1 : Hid (Up w1 w.heap.size es) := hup
  have HB1 : Hid (Below w.heap.size w w1) := hb1
  clear hep hrow hup hb1
  go_wp2_with fail
  refine (HS2.out w1 HB1.out).mono ?_
  clear HS2
  rintro e w2 ⟨v9, rfl, ho9, hb2⟩
  obtain ⟨bb, Hbb⟩ : ∃ x, Hid (x = (ps.drop d).flatMap frmP) := ⟨_, rfl⟩
  rw [← Hbb.out] at ho9 HLe
  have HSI : Hid (SI w w2 v8 v9 es 0 w.heap.size bb) := ⟨HB1.out.trans (hb2.mono HB1.out.size), row_below HR1.out hb2, HU1.out.below hb2, Nat.le_refl _, row_weak HB1.out.size ho9⟩
  clear ho9 hb2 HR1 HU1 HB1
  obtain ⟨a8, lc, hv8, hz8⟩ := row_forms HSI.out.row
  obtain ⟨a9, c9, hv9⟩ := HSI.out.by_.shape
  subst hv8 hv9
  obtain ⟨L, HL⟩ : ∃ x, Hid (x = es.length) := ⟨_, rfl⟩
  have HLn : Hid (L = n - d) := by
    show _ = _
    have := congrArg List.length HEP.out
    rw [List.length_map, List.length_drop, HNP.out] at this
    rw [HL.out, this]
  obtain ⟨bl, Hbl⟩ : ∃ x, Hid (x = bb.length) := ⟨_, rfl⟩
  rw [← HL.out, ← Hbl.out] at HSI
  rw [← HL.out] at hz8
  rw [← Hbl.out] at HLe
  rw [← HL.out, ← Hbl.out]
  obtain ⟨w3, Hw3⟩ : ∃ x, Hid (x = w2.alloc (.cells #[] 5)) := ⟨_, rfl⟩
  have HSI3 : Hid (SI w w3 (.slice a8 L lc) (.slice a9 bl c9) es 0 w.heap.size bb) := HSI.out.below (by rw [Hw3.out]; exact below_new _ _)
  have HO3 : Hid (Own w3 w2.heap.size (.slice (some ⟨w2.heap.size, 0, none⟩) 0 0) []) := by rw [Hw3.out]; exact empty_own w2
  have HK9 : Hid (∀ k, (Value.slice a9 bl c9).ownBlock = some k → k < w2.heap.size) := fun k hk => (World.ownsRow.lt HSI.out.by_ k hk).2
  have HG3 : Hid (w.heap.size ≤ w2.heap.size ∧ w2.heap.size ≤ w3.heap.size) := ⟨HSI.out.bl.size, by rw [Hw3.out, size_new]; omega⟩
  go_upto_region 5 with fail
  rw [← Hw3.out]
  obtain ⟨g3, Hg3⟩ : ∃ x, Hid (x = w2.heap.size) := ⟨_, rfl⟩
  rw [← Hg3.out] at HO3 HK9 HG3 ⊢
  clear Hw3 HSI Hg3
  go_wp2
  go_loopw [7, 10, 26] (fun s7 s10 s26 wr => ∃ (q M : Nat) (v10 : Value), v10 = s10 ∧ q ≤ n ∧ s26 = .int .i64 q ∧ s7 = .int .i64 ((q - d : Nat) : Int) ∧ Hid (Own wr g3 s10 (((ps.take q).drop d).flatMap frmP)) ∧ Hid (g3 ≤ wr.heap.size) ∧ Hid (SI w wr (.slice a8 L lc) (.slice a9 bl c9) es (q - d) M bb)) (fun _ _ i _ => n - (intOf i).toNat)
  case atStart => exact ⟨0, w.heap.size, _, rfl, Nat.zero_le _, rfl, by rw [Nat.zero_sub]; rfl, by rw [drop_take_low _ _ _ _ (Nat.zero_le _)]; exact HO3, HG3.out.2, by rw [Nat.zero_sub]; exact HSI3⟩
  case round =>
    obtain ⟨q, M, v10, rfl, hq, rfl, rfl, HO, HGw, HI⟩ := hrel
    clear HO3 HSI3
    by_cases hlt : q < n
    · have hqs : q < hs.length := by rw [← Hn.out]; exact hlt
      have hqp : q < ps.length := by rw [HNP.out]; exact hlt
      obtain ⟨b, off, rfl, hrg⟩ := cells_evJ (HH.out.below HI.out.bl).cells q hqs
      obtain ⟨x, Hx⟩ : ∃ x, Hid (x = hs[q]'hqs) := ⟨_, rfl⟩
      have HXp : Hid (x.p = ps[q]'hqp) := by rw [Hx.out]; exact HPk.out q hqs hqp
      have HXk : Hid (PeOk x.p) := by rw [HXp.out]; exact HOk.out _ (List.getElem_mem hqp)
      have HXa : Hid (∀ W, Below w.heap.size w W → OpsAt W x.a x.l) := fun W hW => by rw [Hx.out]; exact (HH.out.ops _ (List.getElem_mem hqs)).below hW
      have HXc : Hid (x.i ≤ index ↔ q < d) := by
        have h9 := HCmp.out q hqp
        rw [← HXp.out] at h9
        exact h9
      rw [← Hx.out] at hrg
      clear Hx
      have r0 : wr.cell? ⟨b, off + q * 2, none⟩ = some (.int .u64 x.i) := hrg 0 _ rfl
      have r1 : wr.cell? ⟨b, off + q * 2 + 1, none⟩ = some (.slice x.a x.l.length x.c) := hrg 1 _ rfl
      clear hrg
      obtain ⟨xn, Hxn⟩ : ∃ y, Hid (y = x.l.length) := ⟨_, rfl⟩
      rw [← Hxn.out] at r1
      obtain ⟨w4, Hw4⟩ : ∃ y, Hid (y = wr.alloc (.cells #[.int .u64 x.i, .slice x.a xn x.c] 31)) := ⟨_, rfl⟩
      have hb4 : Below wr.heap.size wr w4 := by rw [Hw4.out]; exact below_new _ _
      have HI4 : Hid (SI w w4 (.slice a8 L lc) (.slice a9 bl c9) es (q - d) M bb) := HI.out.below hb4
      have HGw4 : Hid (g3 ≤ w4.heap.size) := Nat.le_trans HGw.out hb4.size
      have HO4 : Hid (Own w4 g3 v10 (((ps.take q).drop d).flatMap frmP)) := row_below HO.out hb4
      have HX4 : Hid (Blk w4 wr.heap.size #[.int .u64 x.i, .slice x.a xn x.c] 31) := by rw [Hw4.out]; exact Blk.new _ _ _
      go_upto_region 8 with fail
      rw [← Hw4.out]
      obtain ⟨g4, Hg4⟩ : ∃ y, Hid (y = wr.heap.size) := ⟨_, rfl⟩
      rw [← Hg4.out] at HX4 ⊢
      clear Hw4 Hg4 hb4 HI HO HGw r0 r1
      have y0 : w4.cell? ⟨g4, 0, none⟩ = some (.int .u64 x.i) := HX4.out.cell 0 rfl
      by_cases hqd : q < d
      · have hle : x.i ≤ index := HXc.out.2 hqd
        have e1 : q + 1 - d = q - d := by omega
        have HO5 : Hid (Own w4 g3 v10 (((ps.take (q + 1)).drop d).flatMap frmP)) := by
          rw [drop_take_low _ _ _ _ (by omega)]
          rw [drop_take_low _ _ _ _ (by omega)] at HO4
          exact HO4
        have HI5 : Hid (SI w w4 (.slice a8 L lc) (.slice a9 bl c9) es (q + 1 - d) M bb) := by rw [e1]; exact HI4
        clear HO4 HI4
        go_wp2
        go_roundw
        case rel => exact ⟨q + 1, M, v10, rfl, by omega, by go_num, by rw [e1], HO5, HGw4, HI5⟩
        case measure => simp [intOf]; omega
      · have hle : ¬ x.i ≤ index := fun h => hqd (HXc.out.1 h)
        have HO5 : Hid (((ps.take (q + 1)).drop d).flatMap frmP = ((ps.take q).drop d).flatMap frmP ++ frmP x.p) := by
          show _ = _
          rw [HXp.out]
          exact drop_take_snoc ps frmP d q hqp (by omega)
        obtain ⟨A, HA⟩ : ∃ A, Hid (A = q - d) := ⟨_, rfl⟩
        have hAL : A < L := by rw [HA.out, HLn.out]; omega
        have hAe : A < es.length := by rw [← HL.out]; exact hAL
        have HA1 : Hid (q + 1 - d = A + 1) := by show _ = _; rw [HA.out]; omega
        obtain ⟨eb, rfl⟩ := hz8 (by omega)
        rw [← HA.out] at HI4 ⊢
        obtain ⟨y, Hy⟩ : ∃ y, Hid (y = es[A]'hAe) := ⟨_, rfl⟩
        have HYp : Hid (y.p = x.p) := by
          show _ = _
          have h7 : (es.map EV.p)[A]'(by rw [List.length_map]; exact hAe) = ps[q]'hqp := by
            simp only [HEP.out]
            rw [List.getElem_drop]
            congr 1
            rw [HA.out]
            omega
          rw [List.getElem_map] at h7
          rw [HXp.out, Hy.out, h7]
        have HEC : Hid (∀ W : World, W.ownsRow w.heap.size 31 2 (.slice (some ⟨eb, 0, none⟩) L lc) es.length (ecs es) → W.rangeAt eb (0 + A * 2) [.int .u64 y.i, .slice y.a y.l.length y.c]) := fun W hW => by
          rw [HL.out] at hW
          obtain ⟨b', off', e', hr'⟩ := cells_evJ (row_cells hW) A hAe
          simp only [Option.some.injEq, Addr.mk.injEq] at e'
          obtain ⟨rfl, rfl, _⟩ := e'
          rw [Hy.out]
          exact hr'
        have hdr : es.drop A = y :: es.drop (A + 1) := by rw [Hy.out]; exact List.drop_eq_getElem_cons hAe
        obtain ⟨M', hMM, hyo, hyl, hyu⟩ : ∃ M', M ≤ M' ∧ OwnO w4 M (.slice y.a y.l.length y.c) y.l ∧ LtO M' (.slice y.a y.l.length y.c) y.l ∧ Up w4 M' (es.drop (A + 1)) := by
          have := HI4.out.up
          rw [hdr] at this
          exact this
        have HYi : Hid (y.i = x.i) := congrArg Prod.fst HYp.out
        have hy1 : 1 ≤ y.l.length := by
          have h8 : ops y.l = ops x.l := congrArg Prod.snd HYp.out
          have h9 := (soundB_all HXk.out.snd).1
          have h10 : (ops y.l).length = y.l.length := by simp [ops]
          have h11 : 1 ≤ (ops x.l).length := h9
          rw [h8] at h10
          omega
        obtain ⟨yb, hya⟩ : ∃ yb, y.a = some ⟨yb, 0, none⟩ := by
          obtain ⟨ao, cap, e, hz⟩ := row_forms hyo.row
          simp only [Value.slice.injEq] at e
          obtain ⟨g, hg⟩ := hz (by omega)
          exact ⟨g, e.1.trans hg⟩
        have HSE : Hid (∀ W, Below w4.heap.size w4 W → Calls Tryz.prog 10 #[.agg #[.int .u64 x.i, .slice (some ⟨yb, 0, none⟩) y.l.length y.c], .agg #[.int .u64 x.i, .slice x.a xn x.c]] W fun e w' => e = .returned (.bool true) ∧ Below W.heap.size W w') := fun W hW => by
          have := same_ent y x W HXk.out HYp.out (hyo.at.below hW) (HXa.out W (HI4.out.bl.trans (hW.mono HI4.out.bl.size)))
          rw [HYi.out, ← Hxn.out, hya] at this
          exact this
        have HYO : Hid (OwnO w4 M (.slice (some ⟨yb, 0, none⟩) y.l.length y.c) y.l) := by rw [← hya]; exact hyo
        have HYL : Hid (LtO M' (.slice (some ⟨yb, 0, none⟩) y.l.length y.c) y.l) := by rw [← hya]; exact hyl
        have HYU : Hid (Up w4 M' (es.drop (A + 1))) := hyu
        have HYR : Hid (∀ W : World, Below w4.heap.size w4 W → W.rangeAt eb (0 + A * 2) [.int .u64 x.i, .slice (some ⟨yb, 0, none⟩) y.l.length y.c]) := fun W hW => by
          have := HEC.out W (row_below HI4.out.row hW)
          rw [HYi.out, hya] at this
          exact this
        have HXR : Hid (∀ W : World, Below w4.heap.size w4 W → W.rangeAt g4 0 [.int .u64 x.i, .slice x.a xn x.c]) := fun W hW j u hj => by
          rw [Nat.zero_add]
          exact (HX4.out.below hW).cell j (by simpa using hj)
        rw [hya, HYi.out] at HEC
        clear hyo hyl hyu hdr hya
        obtain ⟨yn, Hyn⟩ : ∃ z, Hid (z = y.l.length) := ⟨_, rfl⟩
        rw [← Hyn.out] at HSE HYR HEC hy1
        have hy64 : yn ≤ 64 := by
          have h8 : ops y.l = ops x.l := congrArg Prod.snd HYp.out
          have h9 : (ops x.l).length ≤ 64 := (soundB_all HXk.out.snd).2.1
          have h10 : (ops y.l).length = y.l.length := by simp [ops]
          rw [h8, ← Hyn.out] at h10
          omega
        clear Hy HXp hqp hqs
        go_upto_region 9 with fail
        clear y0
        refine wp_region_invG 12 (fun j v W => match j with
          | 0 => v = .int .i64 (A : Int)
          | 1 => v = .slice (some ⟨eb, 0, none⟩) L lc
          | 2 => v = .int .i64 (L : Int)
          | 3 => v = .bool false
          | 4 => v = .bool false
          | 5 => v = .slice (some ⟨eb, 0, none⟩) L lc
          | 6 => v = .int .i64 (A : Int)
          | 7 => v = .pointer (some ⟨eb, 0 + A * 2, none⟩)
          | 8 => v = .agg #[.int .u64 x.i, .slice (some ⟨yb, 0, none⟩) yn y.c]
          | 9 => v = .agg #[.int .u64 x.i, .slice x.a xn x.c]
          | 10 => v = .bool true
          | 11 => v = .bool false
          | _ => False) (fun _ => false) (by kernel_rfl) (by kernel_rfl) (by kernel_rfl) [some 34, some 35, some 36, some 37, some 38, some 39, some 40, some 41, some 42, some 43, some 44, some 45] (by kernel_rfl) ?mono9 ?hop9 ?tail9
        case mono9 =>
          intro j v W W' h hb
          match j, h with
          | 0, h => exact h
          | 1, h => exact h
          | 2, h => exact h
          | 3, h => exact h
          | 4, h => exact h
          | 5, h => exact h
          | 6, h => exact h
          | 7, h => exact h
          | 8, h => exact h
          | 9, h => exact h
          | 10, h => exact h
          | 11, h => exact h
          | k + 12, h => exact h.elim
        case hop9 =>
          intro j o hi ho a W hB hs hd
          match j, hi, ho, hd with
          | 0, _, ho, hd =>
            obtain rfl := Option.some.inj ho
            refine ⟨.inl rfl, ?_⟩
            exact f_mv (x := .tmp 7) rfl ((hs 7 (by kernel_rfl)).trans rfl) ⟨_, rfl, rfl, Below.refl _ _, fun e => by cases e⟩
          | 1, _, ho, hd =>
            obtain rfl := Option.some.inj ho
            refine ⟨.inl rfl, ?_⟩
            exact f_mv (x := .tmp 8) rfl ((hs 8 (by kernel_rfl)).trans rfl) ⟨_, rfl, rfl, Below.refl _ _, fun e => by cases e⟩
          | 2, _, ho, hd =>
            obtain rfl := Option.some.inj ho
            refine ⟨.inl rfl, ?_⟩
            exact f_lenEnt (x := .tmp 35) rfl (hd 1 35 (by kernel_rfl) (by kernel_rfl)) ⟨_, rfl, rfl, Below.refl _ _, fun e => by cases e⟩
          | 3, _, ho, hd =>
            obtain rfl := Option.some.inj ho
            refine ⟨.inl rfl, ?_⟩
            exact f_geq (x := .tmp 34) (y := .tmp 36) rfl (hd 0 34 (by kernel_rfl) (by kernel_rfl)) (hd 2 36 (by kernel_rfl) (by kernel_rfl)) hAL ⟨_, rfl, rfl, Below.refl _ _, fun e => by cases e⟩
          | 4, _, ho, hd =>
            obtain rfl := Option.some.inj ho
            refine ⟨.inl rfl, ?_⟩
            exact f_mv (x := .tmp 37) rfl (hd 3 37 (by kernel_rfl) (by kernel_rfl)) ⟨_, rfl, rfl, Below.refl _ _, fun e => by cases e⟩
          | 5, _, ho, hd =>
            obtain rfl := Option.some.inj ho
            have hg : a.eval (.tmp 38) = .bool false := hd 4 38 (by kernel_rfl) (by kernel_rfl)
            refine ⟨.inr ⟨4, false, 38, rfl, by kernel_rfl, hg⟩, ?_⟩
            exact f_mv (x := .tmp 8) rfl ((hs 8 (by kernel_rfl)).trans rfl) ⟨_, rfl, rfl, Below.refl _ _, fun e => by cases e⟩
          | 6, _, ho, hd =>
            obtain rfl := Option.some.inj ho
            have hg : a.eval (.tmp 38) = .bool false := hd 4 38 (by kernel_rfl) (by kernel_rfl)
            refine ⟨.inr ⟨4, false, 38, rfl, by kernel_rfl, hg⟩, ?_⟩
            exact f_mv (x := .tmp 7) rfl ((hs 7 (by kernel_rfl)).trans rfl) ⟨_, rfl, rfl, Below.refl _ _, fun e => by cases e⟩
          | 7, _, ho, hd =>
            obtain rfl := Option.some.inj ho
            have hg : a.eval (.tmp 38) = .bool false := hd 4 38 (by kernel_rfl) (by kernel_rfl)
            refine ⟨.inr ⟨4, false, 38, rfl, by kernel_rfl, hg⟩, ?_⟩
            exact f_idxEnt (x := .tmp 39) (y := .tmp 40) rfl (hd 5 39 (by kernel_rfl) (by kernel_rfl)) (hd 6 40 (by kernel_rfl) (by kernel_rfl)) hAL ⟨_, rfl, rfl, Below.refl _ _, fun e => by cases e⟩
          | 8, _, ho, hd =>
            obtain rfl := Option.some.inj ho
            have hg : a.eval (.tmp 38) = .bool false := hd 4 38 (by kernel_rfl) (by kernel_rfl)
            refine ⟨.inr ⟨4, false, 38, rfl, by kernel_rfl, hg⟩, ?_⟩
            exact f_loadEnt (x := .tmp 41) rfl (hd 7 41 (by kernel_rfl) (by kernel_rfl)) (HYR.out W hB) ⟨_, rfl, rfl, Below.refl _ _, fun e => by cases e⟩
          | 9, _, ho, hd =>
            obtain rfl := Option.some.inj ho
            have hg : a.eval (.tmp 38) = .bool false := hd 4 38 (by kernel_rfl) (by kernel_rfl)
            refine ⟨.inr ⟨4, false, 38, rfl, by kernel_rfl, hg⟩, ?_⟩
            exact f_loadEnt (x := .tmp 12) rfl ((hs 12 (by kernel_rfl)).trans rfl) (HXR.out W hB) ⟨_, rfl, rfl, Below.refl _ _, fun e => by cases e⟩
          | 10, _, ho, hd =>
            obtain rfl := Option.some.inj ho
            have hg : a.eval (.tmp 38) = .bool false := hd 4 38 (by kernel_rfl) (by kernel_rfl)
            refine ⟨.inr ⟨4, false, 38, rfl, by kernel_rfl, hg⟩, ?_⟩
            have e0 : a.eval (.tmp 42) = .agg #[.int .u64 x.i, .slice (some ⟨yb, 0, none⟩) yn y.c] := hd 8 42 (by kernel_rfl) (by kernel_rfl)
            have e1 : a.eval (.tmp 43) = .agg #[.int .u64 x.i, .slice x.a xn x.c] := hd 9 43 (by kernel_rfl) (by kernel_rfl)
            refine wp_callF (f := 10) (vals := #[.agg #[.int .u64 x.i, .slice (some ⟨yb, 0, none⟩) yn y.c], .agg #[.int .u64 x.i, .slice x.a xn x.c]]) rfl (map2 e0 e1) (by go_simp) ?_
            exact (HSE.out W hB).mono fun e w' ⟨he, hb⟩ => ⟨_, he, _, rfl, rfl, hb, fun e => by cases e⟩
          | 11, _, ho, hd =>
            obtain rfl := Option.some.inj ho
            have hg : a.eval (.tmp 38) = .bool false := hd 4 38 (by kernel_rfl) (by kernel_rfl)
            refine ⟨.inr ⟨4, false, 38, rfl, by kernel_rfl, hg⟩, ?_⟩
            exact f_notJ (x := .tmp 44) rfl (hd 10 44 (by kernel_rfl) (by kernel_rfl)) ⟨_, rfl, rfl, Below.refl _ _, fun e => by cases e⟩
          | k + 12, hi, _, _ => exact absurd hi (by omega)
        case tail9 =>
          intro vs w5 hB5 hR hF
          have r0 : vs 0 = .int .i64 (A : Int) := hR 0 (by decide)
          have r1 : vs 1 = .slice (some ⟨eb, 0, none⟩) L lc := hR 1 (by decide)
          have r2 : vs 2 = .int .i64 (L : Int) := hR 2 (by decide)
          have r3 : vs 3 = .bool false := hR 3 (by decide)
          have r4 : vs 4 = .bool false := hR 4 (by decide)
          have r5 : vs 5 = .slice (some ⟨eb, 0, none⟩) L lc := hR 5 (by decide)
          have r6 : vs 6 = .int .i64 (A : Int) := hR 6 (by decide)
          have r7 : vs 7 = .pointer (some ⟨eb, 0 + A * 2, none⟩) := hR 7 (by decide)
          have r8 : vs 8 = .agg #[.int .u64 x.i, .slice (some ⟨yb, 0, none⟩) yn y.c] := hR 8 (by decide)
          have r9 : vs 9 = .agg #[.int .u64 x.i, .slice x.a xn x.c] := hR 9 (by decide)
          have r10 : vs 10 = .bool true := hR 10 (by decide)
          have r11 : vs 11 = .bool false := hR 11 (by decide)
          clear hR hF
          simp only [putL, put_lit, List.setIfInBounds_toArray, List.set_cons_succ, List.set_cons_zero, List.drop_succ_cons, List.drop_zero]
          rw [r0, r1, r2, r3, r4, r5, r6, r7, r8, r9, r10, r11]
          clear r0 r1 r2 r3 r4 r5 r6 r7 r8 r9 r10 r11
          have HI5 : Hid (SI w w5 (.slice (some ⟨eb, 0, none⟩) L lc) (.slice a9 bl c9) es A M bb) := HI4.out.below hB5
          have HO5a : Hid (Own w5 g3 v10 (((ps.take q).drop d).flatMap frmP)) := row_below HO4.out hB5
          have HYO5 : Hid (OwnO w5 M (.slice (some ⟨yb, 0, none⟩) y.l.length y.c) y.l) := HYO.out.below hB5
          have HYU5 : Hid (Up w5 M' (es.drop (A + 1))) := HYU.out.below hB5
          have HX5 : Hid (Blk w5 g4 #[.int .u64 x.i, .slice x.a xn x.c] 31) := HX4.out.below hB5
          have HGw5 : Hid (g3 ≤ w5.heap.size) := Nat.le_trans HGw4.out hB5.size
          clear HI4 HO4 HYO HYU HX4 HGw4 hB5 HSE HYR HXR
          obtain ⟨S, HS⟩ : ∃ S, Hid (S = WrS w5 M M') := ⟨_, rfl⟩
          have HT : Hid (Tys w5 S (fun t => t = 47 ∨ t = 9)) := by rw [HS.out]; exact wrS_tys _ _ _
          have HSb : Hid (∀ k, S k → M ≤ k ∧ k < M') := fun k hk => by rw [HS.out] at hk; exact ⟨hk.1, hk.2.1⟩
          have HMk : Hid (Mk w5 w5 S yb yn) := ⟨by rw [HS.out, Hyn.out]; exact Shp.ofOwn HYO5.out HYL.out, Frm.refl _ _⟩
          have HEw : Hid (∀ W : World, Frm S w5 W → W.cell? ⟨eb, A * 2 + 1, none⟩ = some (.slice (some ⟨yb, 0, none⟩) yn y.c)) := fun W hW => by
            have := HEC.out W (HT.out.row hW HI5.out.row (by decide)) 1 _ rfl
            rw [Nat.zero_add] at this
            exact this
          clear HS HYL HYO5
          have c1 := HEw.out w5 (Frm.refl _ _)
          go_wp2
          clear c1
          go_loopw [53] (fun i wm => ∃ k : Nat, k ≤ yn ∧ i = .int .i64 k ∧ Hid (Mk w5 wm S yb yn)) (fun i _ => yn - (intOf i).toNat)
          case atStart => exact ⟨0, Nat.zero_le _, rfl, HMk⟩
          case round =>
            obtain ⟨k, hk, rfl, HM⟩ := hrel
            clear HMk
            by_cases hkl : k < yn
            · obtain ⟨ta, tn, tc, ct, hts⟩ := HM.out.shp.tag hkl
              have c1 := HEw.out wr HM.out.frm
              have HTS : Hid (TagS wr S ta tn) := hts
              have HCT : Hid (wr.cell? ⟨yb, k * 21 + 9, none⟩ = some (.slice ta tn tc)) := ct
              clear hts
              go_wp2
              clear c1 ct
              go_loopw [67] (fun i wt => ∃ t : Nat, t ≤ tn ∧ i = .int .i64 t ∧ Hid (Mk w5 wt S yb yn) ∧ Hid (wt.cell? ⟨yb, k * 21 + 9, none⟩ = some (.slice ta tn tc)) ∧ Hid (TagS wt S ta tn)) (fun i _ => tn - (intOf i).toNat)
              case atStart => exact ⟨0, Nat.zero_le _, rfl, HM, HCT, HTS⟩
              case round =>
                clear HM HCT HTS
                obtain ⟨t, ht, rfl, HM, HCT, HTS⟩ := hrel
                have c1 := HEw.out _ HM.out.frm
                have ct := HCT.out
                by_cases htl : t < tn
                · obtain ⟨g, ts, rfl, hsg, hbg, hts, hmx⟩ := HTS.out.resolve_left (by omega)
                  obtain ⟨cv, cg⟩ : ∃ cv, wr.cell? ⟨g, t, none⟩ = some cv := ⟨_, hbg.cell t (Array.getElem?_eq_getElem (by omega))⟩
                  have fg := hbg.open t
                  have HM2 : Hid (Mk w5 (wr.setCell ⟨g, t, none⟩ (.string ⟨#[109, 97, 114, 107]⟩)) S yb yn) := HM.out.tag hsg hbg _
                  have HC2 : Hid (World.cell? (wr.setCell ⟨g, t, none⟩ (.string ⟨#[109, 97, 114, 107]⟩)) ⟨yb, k * 21 + 9, none⟩ = some (.slice (some ⟨g, 0, none⟩) tn tc)) := by
                    show _ = _
                    obtain ⟨cs, hcs, _, _⟩ := HM.out.shp.blk
                    rw [World.cell?_setCell_other _ _ _ _ (fun e => by
                      injection e with e
                      subst e
                      have := blk_type hbg hcs
                      revert this
                      decide)]
                    exact ct
                  have HT2 : Hid (TagS (wr.setCell ⟨g, t, none⟩ (.string ⟨#[109, 97, 114, 107]⟩)) S (some ⟨g, 0, none⟩) tn) := HTS.out.setTag hbg _
                  clear hbg hts hsg HTS HM HCT
                  go_wp2
                  go_roundw
                  case rel => exact ⟨t + 1, by omega, by go_num, HM2, HC2, HT2⟩
                  case measure => simp [intOf]; omega
                · obtain ⟨⟨u, cu⟩, fu⟩ := HM.out.shp.kind hkl
                  have HM2 : Hid (Mk w5 (wr.setCell ⟨yb, k * 21, none⟩ (.int .i64 99)) S yb yn) := HM.out.kind k _
                  clear HTS HCT HM
                  go_wp2
                  go_roundw
                  case rel => exact ⟨k + 1, by omega, by go_num, HM2⟩
                  case measure => simp [intOf]; omega
            · have hA8 : A ≤ 8388608 := by rw [HA.out]; omega
              have HB6 : Hid (Below w.heap.size w wr) := HI5.out.bl.trans (HM.out.frm.toBelow HI5.out.bl.size fun k hk => Nat.le_trans HI5.out.low (HSb.out k hk).1)
              have HX6 : Hid (Blk wr g4 #[.int .u64 x.i, .slice x.a xn x.c] 31) := HT.out.blk HM.out.frm HX5.out (by decide)
              have HO6 : Hid (Own wr g3 v10 (((ps.take q).drop d).flatMap frmP)) := HT.out.row HM.out.frm HO5a.out (by decide)
              have HI6 : Hid (SI w wr (.slice (some ⟨eb, 0, none⟩) L lc) (.slice a9 bl c9) es (A + 1) M' bb) :=
                ⟨HB6.out, HT.out.row HM.out.frm HI5.out.row (by decide), HYU5.out.frm HM.out.frm (fun k hk _ hs => by have := (HSb.out k hs).2; omega), Nat.le_trans HI5.out.low hMM, HT.out.row HM.out.frm HI5.out.by_ (by decide)⟩
              have HE6 : Hid (Calls Tryz.prog 20 #[.agg #[.int .u64 x.i, .slice x.a xn x.c]] wr fun e w' => ∃ v', e = .returned (.tuple #[v', .int .i64 0]) ∧ Own w' wr.heap.size v' (frmP x.p) ∧ Below wr.heap.size wr w') := by
                rw [Hxn.out]
                exact rencodeP_calls x wr HXk.out (HXa.out wr HB6.out)
              have HG6 : Hid (g3 ≤ wr.heap.size) := Nat.le_trans HGw5.out HM.out.frm.size
              have y0 : wr.cell? ⟨g4, 0, none⟩ = some (.int .u64 x.i) := HX6.out.cell 0 rfl
              have y1 : wr.cell? ⟨g4, 1, none⟩ = some (.slice x.a xn x.c) := HX6.out.cell 1 rfl
              clear HI5 HO5a HYU5 HX5 HGw5 HM HEw HB6
              go_wp2_with fail
              refine HE6.out.mono ?_
              clear HE6 y0 y1
              rintro e w7 ⟨v7, rfl, ho7, hb7⟩
              have HI7 : Hid (SI w w7 (.slice (some ⟨eb, 0, none⟩) L lc) (.slice a9 bl c9) es (A + 1) M' bb) := HI6.out.below hb7
              have HO7 : Hid (Own w7 g3 v10 (((ps.take q).drop d).flatMap frmP)) := row_below HO6.out hb7
              have hG7 : g3 ≤ w7.heap.size := Nat.le_trans HG6.out hb7.size
              obtain ⟨a7, c7, rfl⟩ := ho7.shape
              have HF7 : Hid (BAt w7 a7 (frmP x.p)) := ho7.bytes
              have hfl := frmP_le HXk.out
              clear ho7 hb7 HI6 HO6 HG6 HX6
              obtain ⟨fl, Hfl⟩ : ∃ z, Hid (z = (frmP x.p).length) := ⟨_, rfl⟩
              rw [← Hfl.out] at hfl ⊢
              obtain ⟨acc, Hacc⟩ : ∃ z, Hid (z = ((ps.take q).drop d).flatMap frmP) := ⟨_, rfl⟩
              rw [← Hacc.out] at HO7 HO5
              have hal : acc.length ≤ 1099511627776 := by
                rw [Hacc.out]
                have h5 := flat_frm_le ((ps.take q).drop d) fun p hp => HOk.out p (List.mem_of_mem_take (List.mem_of_mem_drop hp))
                have h6 : ((ps.take q).drop d).length * 78802 ≤ 8388608 * 78802 := Nat.mul_le_mul_right _ (by rw [List.length_drop, List.length_take]; omega)
                omega
              obtain ⟨al, Hal⟩ : ∃ z, Hid (z = acc.length) := ⟨_, rfl⟩
              rw [← Hal.out] at hal
              have HOr : Hid (w7.ownsRow g3 5 1 v10 al (bs acc)) := by rw [Hal.out]; exact HO7.out
              have HFb : Hid ((bs (frmP x.p)).length = fl * 1) := by show _ = _; rw [bs_length, Hfl.out, Nat.mul_one]
              clear Hacc
              go_wp2_with (at_builtin; refine append_src _ rfl (.tmp 99) (.tmp 100) 50 5 (.int .u8 0) 1 1 Tryz.underlying50 infoU8j rfl (by decide) rfl g3 _ al (bs acc) rfl HOr.out a7 fl c7 (bs (frmP x.p)) rfl HFb.out HF7.out (bs_one _) (by unfold maxLen; omega) (by omega) hG7 ?_)
              intro v11 w8 ho8 hg8
              have hT8 : Tys w7 (fun k => v10.ownBlock = some k) (fun t => t = 5) := fun k hk => by
                obtain ⟨cs, hc⟩ := row_typed HOr.out k hk
                exact ⟨cs, _, hc, rfl⟩
              have hF8 := Frm.ofGrew hg8
              have HO8 : Hid (Own w8 g3 v11 (((ps.take (q + 1)).drop d).flatMap frmP)) := by
                show Own _ _ _ _
                rw [HO5.out]
                unfold Own
                rw [List.length_append, bs_append, ← Hal.out, ← Hfl.out]
                exact ho8
              have hlo : ∀ k, v10.ownBlock = some k → g3 ≤ k := fun k hk => (World.ownsRow.lt HOr.out k hk).1
              have HI8 : Hid (SI w w8 (.slice (some ⟨eb, 0, none⟩) L lc) (.slice a9 bl c9) es (q + 1 - d) M' bb) := by
                rw [HA1.out]
                exact ⟨HI7.out.bl.trans (hF8.toBelow HI7.out.bl.size fun k hk => Nat.le_trans HG3.out.1 (hlo k hk)), hT8.row hF8 HI7.out.row (by decide), HI7.out.up.tys hT8 hF8 (by decide) (by decide), HI7.out.low, row_grew HI7.out.by_ hg8 fun k hk e => by
                  have h1 := hlo k hk
                  have h2 := HK9.out k e
                  omega⟩
              have HG8 : Hid (g3 ≤ w8.heap.size) := Nat.le_trans hG7 hg8.size
              clear ho8 hg8 hT8 hF8 HO7 HOr HI7 HF7 HFb hlo
              go_wp2
              go_roundw
              case rel => exact ⟨q + 1, M', v11, rfl, by omega, by go_num, by rw [HA1.out]; go_num, HO8, HG8, HI8⟩
              case measure => simp [intOf]; omega
    · have hqn : q = n := by omega
      have HBB : Hid (((ps.take q).drop d).flatMap frmP = bb) := by
        show _ = _
        rw [Hbb.out, List.take_of_length_le (by rw [HNP.out]; omega)]
      rw [HBB.out] at HO
      have HQ : Hid (q - d = L) := by show _ = _; rw [hqn, HLn.out]
      rw [HQ.out]
      obtain ⟨a10, c10, rfl⟩ := HO.out.shape
      have HSm : Hid (Calls Tryz.prog 21 #[.slice a9 bl c9, .slice a10 bl c10] wr fun e w' => e = .returned (.bool true) ∧ ∃ m, w' = wr.drewN m) := by
        have hle := HLe.out
        have h9 : Own wr w.heap.size (.slice a9 bb.length c9) bb := by rw [← Hbl.out]; exact HI.out.by_
        have := same_calls a9 a10 c9 c10 bb bb wr (by rw [← Hbl.out]; omega) (by rw [← Hbl.out]; omega) h9.bytes HO.out.bytes
        rw [← Hbl.out] at this
        simp only [decide_true] at this
        exact this
      rw [← Hbl.out]
      have HBL : Hid (Below w.heap.size w wr) := HI.out.bl
      clear HO HI HBB
      go_wp2_with fail
      refine HSm.out.mono ?_
      rintro e w9 ⟨rfl, m, hm⟩
      have HB9 : Hid (Below w.heap.size w w9) := HBL.out.trans ((hm ▸ below_draws _ m : Below wr.heap.size wr w9).mono HBL.out.size)
      clear hm HBL HSm
      go_wp2
      go_ret
      exact ⟨rfl, HB9.out⟩
end Go.Proofs.YthgcnmilaifkoaaGreatDoor
