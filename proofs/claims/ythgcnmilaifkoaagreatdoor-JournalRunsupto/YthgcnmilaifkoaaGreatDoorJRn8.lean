/- Layer 13 (journal): JournalRuns: the law's own memory. -/
import Derived.Test.YthgcnmilaifkoaaGreatDoorJRn7
namespace Go.Proofs.YthgcnmilaifkoaaGreatDoor
open Go.RowKit
set_option linter.unusedVariables false

/-- A step of the script: its kind, its entry, its index. -/
structure SV where
 kind : Int
 e : EV
 ix : Int
def SV.cs (x : SV) : List Value := [.int .i64 x.kind, .int .u64 x.e.i, .slice x.e.a x.e.l.length x.e.c, .int .u64 x.ix]
def scs (ss : List SV) : List Value := ss.flatMap SV.cs
structure ScAt (w : World) (ao : Option Addr) (ss : List SV) : Prop where
 cells : CellsAt w ao (scs ss)
 ops : ∀ x ∈ ss, OpsAt w x.e.a x.e.l
theorem ScAt.below {w w' : World} {ao : Option Addr} {ss : List SV} (h : ScAt w ao ss) (hb : Below w.heap.size w w') : ScAt w' ao ss := ⟨h.cells.below hb, fun x hx => (h.ops x hx).below hb⟩
theorem cells_sv {w : World} {ao : Option Addr} {ss : List SV} (h : CellsAt w ao (scs ss)) (k : Nat) (hk : k < ss.length) : ∃ b off, ao = some ⟨b, off, none⟩ ∧ w.rangeAt b (off + k * 4) ss[k].cs := by
 obtain ⟨b, off, ha, hc⟩ := h (flat_ne _ 4 (fun _ => rfl) (by decide) hk)
 refine ⟨b, off, ha, fun j u hj => ?_⟩
 have hj2 : j < 4 := (List.getElem?_eq_some_iff.1 hj).1
 have := hc (k * 4 + j) u (by
  unfold scs
  rw [flat_at (fun x : SV => x.cs) 4 (fun _ => rfl) ss k j ss[k] (by simp [hk]) hj2]
  exact hj)
 rw [show off + k * 4 + j = off + (k * 4 + j) by omega]
 exact this
/-- What is asked of a step's entry: sizes. -/
structure EvOk (x : EV) : Prop where
 lo : 0 ≤ x.i
 hi : x.i ≤ 18446744073709551615
 len : x.l.length ≤ 1048576
 ok : ∀ y ∈ x.l, y.ok
 addr : ∀ y ∈ x.l, y.o.node.addr.size ≤ 1048576
 rng : ∀ y ∈ x.l, y.o.rng
 tags : ∀ y ∈ x.l, y.o.svc.tags.length ≤ 1048576
theorem ops_memJ {l l' : List OV} (h : ops l' = ops l) {y : OV} (hy : y ∈ l') : ∃ z ∈ l, z.o = y.o := by
 have : y.o ∈ ops l := by rw [← h]; exact List.mem_map.2 ⟨y, hy, rfl⟩
 obtain ⟨z, hz, e⟩ := List.mem_map.1 this
 exact ⟨z, hz, e⟩
theorem ops_len {l l' : List OV} (h : ops l' = ops l) : l'.length = l.length := by
 have := congrArg List.length h
 simpa [ops] using this
/-- A copy of such an entry is such an entry. -/
theorem EvOk.copy {x y : EV} (h : EvOk x) (hi : y.i = x.i) (ho : ops y.l = ops x.l) : EvOk y := by
 refine ⟨by rw [hi]; exact h.lo, by rw [hi]; exact h.hi, by rw [ops_len ho]; exact h.len, fun z hz => ?_, fun z hz => ?_, fun z hz => ?_, fun z hz => ?_⟩ <;> obtain ⟨u, hu, e⟩ := ops_memJ ho hz
 ·exact ⟨by rw [← e]; exact (h.ok u hu).small, by rw [← e]; exact (h.ok u hu).len⟩
 ·rw [← e]; exact h.addr u hu
 ·rw [← e]; exact h.rng u hu
 ·rw [← e]; exact h.tags u hu
theorem EvOk.peOk {x : EV} (h : EvOk x) (hs : soundB (ops x.l) = true) : PeOk x.p :=
 ⟨h.lo, h.hi, hs, fun o ho => by
  obtain ⟨y, hy, rfl⟩ := List.mem_map.1 ho
  exact ⟨(h.rng y hy).w0, (h.rng y hy).w1⟩⟩
theorem same_evs (x y : EV) (w : World) (h : EvOk x) (he : x.p = y.p) (hx : OpsAt w x.a x.l) (hy : OpsAt w y.a y.l) :
  Calls Tryz.prog 10 #[.agg #[.int .u64 x.i, .slice x.a x.l.length x.c], .agg #[.int .u64 y.i, .slice y.a y.l.length y.c]] w fun e w' => e = .returned (.bool true) ∧ Below w.heap.size w w' := by
 have hi : x.i = y.i := congrArg Prod.fst he
 have ho : ops x.l = ops y.l := congrArg Prod.snd he
 rw [hi]
 exact sameE_calls y.i x.a y.a x.c y.c x.l y.l w (by have := h.len; omega) ho.symm (fun z hz => by have := h.tags z hz; omega) hx hy

/-- All that stands ahead of a step of the script. -/
structure RI (w wr : World) (jb : Nat) (first : Int) (vj : Value) (fs : List FV) (vh : Value) (hs : List EV) (ps : List (Int × List Opp)) : Prop where
 bl : Below w.heap.size w wr
 j : JAt wr w.heap.size jb first vj fs
 fr : FrsOf fs ps
 hr : wr.ownsRow w.heap.size 31 2 vh hs.length (ecs hs)
 ho : ∀ x ∈ hs, OwnO wr w.heap.size (.slice x.a x.l.length x.c) x.l
 hp : hs.map EV.p = ps
 cons : ∀ k (h : k < ps.length), ps[k].1 = first + 1 + k
 top : first + ps.length ≤ 18446744073709551615
theorem RI.below {w wr wr' : World} {jb : Nat} {first : Int} {vj : Value} {fs : List FV} {vh : Value} {hs : List EV} {ps : List (Int × List Opp)} (h : RI w wr jb first vj fs vh hs ps) (hb : Below wr.heap.size wr wr') : RI w wr' jb first vj fs vh hs ps :=
 ⟨h.bl.trans (hb.mono h.bl.size), h.j.below hb, h.fr, row_below h.hr hb, fun x hx => (h.ho x hx).below hb, h.hp, h.cons, h.top⟩
theorem RI.held {w wr : World} {jb : Nat} {first : Int} {vj : Value} {fs : List FV} {ao : Option Addr} {n c : Nat} {hs : List EV} {ps : List (Int × List Opp)} (h : RI w wr jb first vj fs (.slice ao n c) hs ps) : HeldAt wr ao hs := by
 have hr := h.hr
 obtain ⟨ao', c', e, -⟩ := row_forms hr
 simp only [Value.slice.injEq] at e
 obtain ⟨rfl, rfl, rfl⟩ := e
 exact ⟨row_cells hr, fun x hx => (h.ho x hx).at⟩
theorem RI.len {w wr : World} {jb : Nat} {first : Int} {vj : Value} {fs : List FV} {vh : Value} {hs : List EV} {ps : List (Int × List Opp)} (h : RI w wr jb first vj fs vh hs ps) : hs.length = ps.length ∧ fs.length = ps.length := ⟨by rw [← h.hp, List.length_map], h.fr.len⟩
theorem JAt.tys {S : Nat → Prop} {P : TypeId → Prop} {w w' : World} {B jb : Nat} {first : Int} {v : Value} {fs : List FV} (h : JAt w B jb first v fs) (ht : Tys w S P) (hf : Frm S w w') (h1 : ¬ P 57) (h2 : ¬ P 50) (h3 : ¬ P 5) : JAt w' B jb first v fs :=
 ⟨ht.blk hf h.blk h1, ht.row hf h.row h2, fun x hx => ht.row hf (h.own x hx) h3, h.low⟩
theorem OwnO.frmLt {S : Nat → Prop} {w w' : World} {B M : Nat} {v : Value} {l : List OV} (h : OwnO w B v l) (hf : Frm S w w') (hl : LtO M v l) (hS : ∀ k, S k → M ≤ k) : OwnO w' B v l :=
 ⟨hf.row h.row fun k hk hs => by have := hl.row k hk; have := hS k hs; omega, fun x hx => hf.row (h.tags x hx) fun k hk hs => by have := hl.tags x hx k hk; have := hS k hs; omega⟩
/-- An entry's own copy is written over. -/
theorem RI.spoil {w wr wr' : World} {jb : Nat} {first : Int} {vj : Value} {fs : List FV} {vh : Value} {hs : List EV} {ps : List (Int × List Opp)} {M M' : Nat} (h : RI w wr jb first vj fs vh hs ps) (hM : w.heap.size ≤ M) (hf : Frm (WrS wr M M') wr wr') (hx : ∀ x ∈ hs, LtO M (.slice x.a x.l.length x.c) x.l ∨ OwnO wr M' (.slice x.a x.l.length x.c) x.l) (hMM : w.heap.size ≤ M') : RI w wr' jb first vj fs vh hs ps := by
 have ht := wrS_tys wr M M'
 refine ⟨h.bl.trans (hf.toBelow h.bl.size fun k hk => Nat.le_trans hM hk.1), h.j.tys ht hf (by decide) (by decide) (by decide), h.fr, ht.row hf h.hr (by decide), fun x hx' => ?_, h.hp, h.cons, h.top⟩
 rcases hx x hx' with hl | ho
 ·exact (h.ho x hx').frmLt hf hl fun k hk => hk.1
 ·exact (ho.frm hf fun k hk _ hs => by have := hs.2.1; omega).weak hMM
/-- The journal has grown by one frame. -/
theorem frm_jtys {w : World} {B jb : Nat} {first : Int} {v : Value} {fs : List FV} (h : JAt w B jb first v fs) : Tys w (fun k => k = jb ∨ v.ownBlock = some k) (fun t => t = 57 ∨ t = 50) := fun k hk => by
 rcases hk with rfl | hk
 ·exact ⟨_, _, h.blk, .inl rfl⟩
 ·obtain ⟨cs, hc⟩ := row_typed h.row k hk
  exact ⟨cs, _, hc, .inr rfl⟩
theorem cons_snoc {ps : List (Int × List Opp)} {first : Int} {p : Int × List Opp} (h : ∀ k (h : k < ps.length), ps[k].1 = first + 1 + k) (hp : p.1 = first + ps.length + 1) : ∀ k (h : k < (ps ++ [p]).length), (ps ++ [p])[k].1 = first + 1 + k := fun k hk => by
 rcases Nat.lt_or_ge k ps.length with hl | hl
 ·rw [List.getElem_append_left hl]
  exact h k hl
 ·have : k = ps.length := by simp at hk; omega
  subst this
  rw [List.getElem_append_right (Nat.le_refl _)]
  simp [hp]
  omega
/-- What is written over: from a world w0 on, in blocks of S. -/
structure Mq (w0 w : World) (S : Nat → Prop) (a : Option Addr) (n : Nat) : Prop where
 frm : Frm S w0 w
 shp : 0 < n → ∃ b, a = some ⟨b, 0, none⟩ ∧ Shp w S b n
theorem Mq.ofOwn {w : World} {B E c : Nat} {a : Option Addr} {l : List OV} (h : OwnO w B (.slice a l.length c) l) (hE : LtO E (.slice a l.length c) l) : Mq w w (WrS w B E) a l.length :=
 ⟨Frm.refl _ _, fun hn => by
  obtain ⟨ao, cap, e, hz⟩ := row_forms h.row
  simp only [Value.slice.injEq] at e
  obtain ⟨b, hb⟩ := hz hn
  obtain rfl : a = some ⟨b, 0, none⟩ := e.1.trans hb
  exact ⟨b, rfl, Shp.ofOwn h hE⟩⟩
theorem Mk.mq {w0 w : World} {S : Nat → Prop} {b n : Nat} (h : Mk w0 w S b n) : Mq w0 w S (some ⟨b, 0, none⟩) n := ⟨h.frm, fun _ => ⟨b, rfl, h.shp⟩⟩
end Go.Proofs.YthgcnmilaifkoaaGreatDoor
