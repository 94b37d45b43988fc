import Derived.Test.YthgcnmilaifkoaaGreatDoorJRn1
import Derived.Lib.MinMax
import Derived.Test.YthgcnmilaifkoaaGreatDoorRcCopyS
import Derived.Test.YthgcnmilaifkoaaGreatDoorJPay
import Derived.Test.YthgcnmilaifkoaaGreatDoorJSum
import Derived.BigQuiet
import Derived.Deep.QuietTactic
/- Layer 13 (journal): a journal in memory: New, Last, isNext, above. -/
namespace Go.Proofs.YthgcnmilaifkoaaGreatDoor
open Go.RowKit
set_option linter.unusedVariables false

/-- A journal: its block, its first index, its slice of frames (of the call's own), the frames. -/
structure JAt (w : World) (B jb : Nat) (first : Int) (v : Value) (fs : List FV) : Prop where
 blk : Blk w jb #[.int .u64 first, v] 57
 row : w.ownsRow B 50 1 v fs.length (fs.map FV.v)
 own : ∀ x ∈ fs, Own w B x.v x.l
 low : B ≤ jb
theorem JAt.below {w w' : World} {B jb : Nat} {first : Int} {v : Value} {fs : List FV} (h : JAt w B jb first v fs) (hb : Below w.heap.size w w') : JAt w' B jb first v fs :=
 ⟨h.blk.below hb, row_below h.row hb, fun x hx => row_below (h.own x hx) hb, h.low⟩
theorem JAt.frs {w : World} {B jb : Nat} {first : Int} {v : Value} {fs : List FV} (h : JAt w B jb first v fs) : ∀ x ∈ fs, FV.At w x := fun x hx => (h.own x hx).fv

theorem newJ_calls (first : Int) (w : World) :
  Calls Tryz.prog 5 #[.int .u64 first] w fun e w' => e = .returned (.pointer (some ⟨w.heap.size, 0, none⟩)) ∧ w' = w.alloc (.cells #[.int .u64 first, .slice none 0 0] 57) := by
 go_enter Tryz.func5, Tryz.ntmps5
 go_wp2
 go_ret
 exact ⟨rfl, rfl⟩

theorem isNext_calls (a b : Int) (w : World) (ha : 0 ≤ a) (ha2 : a ≤ 18446744073709551615) (hb : 0 ≤ b) (hb2 : b ≤ 18446744073709551615) :
  Calls Tryz.prog 17 #[.int .u64 a, .int .u64 b] w fun e w' => e = .returned (.bool (decide (a = b + 1))) ∧ w' = w := by
 by_cases h : b < a
 ·have h1 : (a - b == 1) = decide (a = b + 1) := by rw [show (a - b == 1) = decide (a - b = 1) from rfl]; exact decide_eq_decide.2 ⟨fun e => by omega, fun e => by omega⟩
  have h2 : IntKind.u64.wrap (a - b) = a - b := by show (a - b) % 18446744073709551616 = _; omega
  go_enter Tryz.func17, Tryz.ntmps17
  go_wp2
  go_ret
  exact ⟨by rw [← h1]; rfl, rfl⟩
 ·have h1 : decide (a = b + 1) = false := decide_eq_false (by omega)
  rw [h1]
  go_enter Tryz.func17, Tryz.ntmps17
  go_wp2
  go_ret
  exact ⟨rfl, rfl⟩

set_option maxRecDepth 100000 in
theorem lastJ_calls (jb : Nat) (first : Int) (ao : Option Addr) (n cap : Nat) (w : World) (h0 : 0 ≤ first) (h1 : first + n ≤ 18446744073709551615) (hn : n ≤ 1099511627776) (h : Blk w jb #[.int .u64 first, .slice ao n cap] 57) :
  Calls Tryz.prog 6 #[.pointer (some ⟨jb, 0, none⟩)] w fun e w' => e = .returned (.int .u64 (first + n)) ∧ ∃ m, w' = w.drewN m := by
 have c0 : w.cell? ⟨jb, 0, none⟩ = some (.int .u64 first) := h.cell 0 rfl
 have c1 : w.cell? ⟨jb, 1, none⟩ = some (.slice ao n cap) := h.cell 1 rfl
 have e1 : IntKind.u64.wrap (n : Int) = n := by show (n : Int) % 18446744073709551616 = _; omega
 have e2 : IntKind.u64.wrap (first + n) = first + n := by show (first + (n : Int)) % 18446744073709551616 = _; omega
 clear h
 go_enter Tryz.func6, Tryz.ntmps6
 go_wp2_with fail
 go_quiet (fail)
 go_wp2
 go_ret
 exact ⟨rfl, _, rfl⟩

/-- What lies behind the first k of a slice of frames. -/
theorem from_run (g n cap k : Nat) (hk : k ≤ n) (hn : n ≤ cap) (hcap : cap ≤ maxLen) : ∃ ao' c', (∀ W, (Instr.slice 55 (.slice (some ⟨g, 0, none⟩) n cap) (some (.int .u64 k)) none none).run Tryz.prog W = .ok (.slice ao' (n - k) c') W) ∧ (k < n → ao' = some ⟨g, k, none⟩) := by
 unfold maxLen at hcap
 have h1 : (k : Int) ≤ (n : Int) := by omega
 have h2 : (n : Int) ≤ (cap : Int) := by omega
 have h3 : (k : Int) ≤ (cap : Int) := by omega
 have h5 : ((n : Int) - (k : Int)).toNat = n - k := by omega
 have h6 : ((cap : Int) - (k : Int)).toNat = cap - k := by omega
 by_cases hc : cap = k
 ·subst hc
  obtain rfl : n = cap := by omega
  refine ⟨some ⟨g, 0, none⟩, 0, fun W => ?_, fun h => by omega⟩
  rw [Nat.sub_self]
  go_simp
 ·refine ⟨some ⟨g, k, none⟩, cap - k, fun W => ?_, fun h => rfl⟩
  go_simp

/-- The frames above an index: a part of the slice. -/
def AboA (w : World) (S : List FV) (e : Ending) (w' : World) : Prop := ∃ ao c, e = .returned (.slice ao S.length c) ∧ CellsAt w ao (S.map FV.v) ∧ ∃ m, w' = w.drewN m
theorem rest_at {w : World} {g : Nat} {ao' : Option Addr} {k : Nat} {fs : List FV} (h : CellsAt w (some ⟨g, 0, none⟩) (fs.map FV.v)) (he : k < fs.length → ao' = some ⟨g, k, none⟩) : CellsAt w ao' ((fs.drop k).map FV.v) := by
 intro hne
 have hk : k < fs.length := by
  rcases Nat.lt_or_ge k fs.length with h' | h'
  ·exact h'
  ·rw [List.drop_of_length_le h'] at hne; exact absurd rfl hne
 rw [he hk, List.map_drop]
 have := CellsAt.drop k h
 rw [Nat.zero_add] at this
 exact this (by rw [← List.map_drop]; exact hne)
set_option maxRecDepth 100000 in
set_option maxHeartbeats 2000000 in
theorem above_calls (B jb : Nat) (first index : Int) (v : Value) (fs : List FV) (w : World) (h0 : 0 ≤ first) (h1 : first ≤ 18446744073709551615) (hi0 : 0 ≤ index) (hi1 : index ≤ 18446744073709551615) (hn : fs.length ≤ 1099511627776) (h : JAt w B jb first v fs) :
  Calls Tryz.prog 32 #[.pointer (some ⟨jb, 0, none⟩), .int .u64 index] w (AboA w (fs.drop (index - first).toNat)) := by
 have c0 : w.cell? ⟨jb, 0, none⟩ = some (.int .u64 first) := h.blk.cell 0 rfl
 have c1 : w.cell? ⟨jb, 1, none⟩ = some v := h.blk.cell 1 rfl
 by_cases hle : index ≤ first
 ·have e0 : (index - first).toNat = 0 := by omega
  rw [e0, List.drop_zero]
  obtain ⟨ao, cap, rfl, -⟩ := row_forms h.row
  have HF : Hid (AboA w fs (.returned (.slice ao fs.length cap)) w) := ⟨_, _, rfl, row_cells h.row, 0, rfl⟩
  clear h e0
  generalize fs.length = n at *
  go_enter Tryz.func32, Tryz.ntmps32
  go_wp2
  go_ret
  exact HF.out
 ·obtain ⟨k, Hk⟩ : ∃ k : Nat, Hid ((k : Int) = min (index - first) fs.length) := ⟨(min (index - first) fs.length).toNat, by show _ = _; omega⟩
  have hkn : k ≤ fs.length := by have := Hk.out; omega
  have HD : Hid (fs.drop (index - first).toNat = fs.drop k) := by
   show _ = _
   have := Hk.out
   by_cases h9 : index - first ≤ fs.length
   ·rw [show (index - first).toNat = k by omega]
   ·rw [List.drop_of_length_le (by omega), List.drop_of_length_le (by omega)]
  rw [HD.out]
  have e2 : IntKind.u64.wrap (index - first) = index - first := by show (index - first) % 18446744073709551616 = _; omega
  have e3 : IntKind.u64.wrap (fs.length : Int) = fs.length := by show (fs.length : Int) % 18446744073709551616 = _; omega
  obtain ⟨ao, c, hsl, HF⟩ : ∃ ao c, (∀ W, (Instr.slice 55 v (some (.int .u64 k)) none none).run Tryz.prog W = .ok (.slice ao (fs.drop k).length c) W) ∧ Hid (∀ m, AboA w (fs.drop k) (.returned (.slice ao (fs.drop k).length c)) (w.drewN m)) := by
   rcases h.row.2 with ⟨hv, hz⟩ | ⟨g, cap, cur, hv, hb, hg, hnc, hcm, r⟩
   ·obtain rfl : k = 0 := by omega
    have : fs = [] := List.length_eq_zero_iff.1 hz
    subst this
    subst hv
    exact ⟨none, 0, fun W => by go_simp, fun m => ⟨_, _, rfl, fun h => absurd rfl h, m, rfl⟩⟩
   ·subst hv
    obtain ⟨ao, c, hr, he⟩ := from_run g fs.length cap k hkn hnc hcm
    rw [← List.length_drop] at hr
    exact ⟨ao, c, hr, fun m => ⟨_, _, rfl, rest_at (row_cells h.row) he, m, rfl⟩⟩
  have hv : ∃ ao2 c2, v = .slice ao2 fs.length c2 := by
   obtain ⟨ao, cap, e, -⟩ := row_forms h.row
   exact ⟨ao, cap, e⟩
  obtain ⟨ao2, c2, rfl⟩ := hv
  have hmin : min (index - first) (fs.length : Int) = (k : Int) := Hk.out.symm
  obtain ⟨dl, Hdl⟩ : ∃ x, Hid (x = (fs.drop k).length) := ⟨_, rfl⟩
  rw [← Hdl.out] at hsl HF
  clear h HD Hk Hdl
  generalize fs.length = n at *
  go_enter Tryz.func32, Tryz.ntmps32
  go_wp2_with fail
  go_region
  go_wp2
  go_ret
  exact HF.out _
end Go.Proofs.YthgcnmilaifkoaaGreatDoor

/- From one world to another no old block was written but some. -/
namespace Go.Proofs.YthgcnmilaifkoaaGreatDoor
open Go.RowKit
set_option linter.unusedVariables false

/-- From w to w' no old block was written but those of S. -/
structure Frm (S : Nat → Prop) (w w' : World) : Prop where
 os : w'.os = w.os
 tape : w'.tape = w.tape
 output : w'.output = w.output
 size : w.heap.size ≤ w'.heap.size
 block : ∀ k, k < w.heap.size → ¬ S k → w'.heap[k]? = w.heap[k]?

variable {S S' : Nat → Prop}
theorem Frm.refl (S : Nat → Prop) (w : World) : Frm S w w := ⟨rfl, rfl, rfl, Nat.le_refl _, fun _ _ _ => rfl⟩
theorem Frm.trans {a b c : World} (h : Frm S a b) (k : Frm S b c) : Frm S a c :=
 ⟨k.os.trans h.os, k.tape.trans h.tape, k.output.trans h.output, Nat.le_trans h.size k.size, fun i hi hl => (k.block i (Nat.lt_of_lt_of_le hi h.size) hl).trans (h.block i hi hl)⟩
theorem Frm.setCell {a b : World} (h : Frm S a b) (p : Addr) (v : Value) (hp : S p.block ∨ a.heap.size ≤ p.block) : Frm S a (b.setCell p v) :=
 ⟨h.os, h.tape, h.output, by simpa using h.size, fun k hk hl => by
  rw [heap_setCell_other _ _ _ _ (fun e => by subst e; rcases hp with hp | hp; exact hl hp; omega)]
  exact h.block k hk hl⟩
theorem Frm.weaken {a b : World} (h : Frm S a b) (hl : ∀ k, k < a.heap.size → S k → S' k) : Frm S' a b := ⟨h.os, h.tape, h.output, h.size, fun k hk hm => h.block k hk (fun x => hm (hl k hk x))⟩
theorem Frm.toBelow {a b : World} (h : Frm S a b) {B : Nat} (hB : B ≤ a.heap.size) (hl : ∀ k, S k → B ≤ k) : Below B a b :=
 ⟨h.os, h.tape, h.output, h.size, fun k hk => h.block k (by omega) (fun hm => by have := hl k hm; omega)⟩
theorem Frm.ofBelow {a b : World} (h : Below a.heap.size a b) (S : Nat → Prop) : Frm S a b := ⟨h.os, h.tape, h.output, h.size, fun k hk _ => h.block k hk⟩
theorem Frm.ofGrew {a b : World} {u v : Value} (h : Grew a b u v) : Frm (fun k => u.ownBlock = some k) a b :=
 ⟨h.grown.os, h.grown.tape, h.grown.output, h.grown.size, fun k hk hn => h.grown.block k hk (fun e => hn e.symm)⟩
theorem Frm.blk {a b : World} (h : Frm S a b) {g : Nat} {cs : Array Value} {T : TypeId} (hg : Blk a g cs T) (hn : ¬ S g) : Blk b g cs T := (h.block g hg.lt hn).trans hg
theorem Frm.row {a b : World} (h : Frm S a b) {B : Nat} {e : TypeId} {size : Nat} {v : Value} {n : Nat} {l : List Value} (hr : a.ownsRow B e size v n l) (hn : ∀ k, v.ownBlock = some k → ¬ S k) : b.ownsRow B e size v n l := by
 refine ⟨hr.1, ?_⟩
 rcases hr.2 with h0 | ⟨g, cap, cur, rfl, hb, hg, r⟩
 ·exact .inl h0
 ·exact .inr ⟨g, cap, cur, rfl, hb, h.blk hg (hn g rfl), r⟩
/-- What is written is of types that a row's are not. -/
def Tys (w : World) (S : Nat → Prop) (P : TypeId → Prop) : Prop := ∀ k, S k → ∃ cs T, Blk w k cs T ∧ P T
theorem Tys.not {w : World} {P : TypeId → Prop} (h : Tys w S P) {g : Nat} {cs : Array Value} {T : TypeId} (hg : Blk w g cs T) (hn : ¬ P T) : ¬ S g := fun hs => by
 obtain ⟨cs', T', hb, hp⟩ := h g hs
 have : some (Obj.cells cs T) = some (.cells cs' T') := Eq.trans (Eq.symm hg) hb
 simp only [Option.some.injEq, Obj.cells.injEq] at this
 exact hn (this.2.1 ▸ hp)
theorem Tys.row {w w' : World} {P : TypeId → Prop} (h : Tys w S P) (hf : Frm S w w') {B : Nat} {e : TypeId} {size : Nat} {v : Value} {n : Nat} {l : List Value} (hr : w.ownsRow B e size v n l) (hn : ¬ P e) : w'.ownsRow B e size v n l :=
 hf.row hr fun k hk => by
  obtain ⟨cs, hc⟩ := row_typed hr k hk
  exact h.not hc hn
theorem Tys.blk {w w' : World} {P : TypeId → Prop} (h : Tys w S P) (hf : Frm S w w') {g : Nat} {cs : Array Value} {T : TypeId} (hg : Blk w g cs T) (hn : ¬ P T) : Blk w' g cs T := hf.blk hg (h.not hg hn)
end Go.Proofs.YthgcnmilaifkoaaGreatDoor

/- Layer 13 (journal): payloadOf. -/
namespace Go.Proofs.YthgcnmilaifkoaaGreatDoor
open Go.RowKit
set_option linter.unusedVariables false

/-- b[lo:hi] -/
def subV (b off lo hi cap : Nat) : Value := if cap = lo then .slice (some ⟨b, off, none⟩) (hi - lo) 0 else .slice (some ⟨b, off + lo, none⟩) (hi - lo) (cap - lo)
theorem subV_form {w : World} {b off lo hi cap : Nat} {l : List UInt8} (hb : BAt w (some ⟨b, off, none⟩) l) (h1 : lo ≤ hi) (h2 : hi ≤ l.length) (h3 : l.length ≤ cap) :
  ∃ ao c, subV b off lo hi cap = .slice ao (hi - lo) c ∧ BAt w ao ((l.drop lo).take (hi - lo)) ∧ hi - lo ≤ c := by
 unfold subV
 by_cases hc : cap = lo
 ·rw [if_pos hc]
  have e : hi - lo = 0 := by omega
  refine ⟨_, _, rfl, ?_, by omega⟩
  rw [e, List.take_zero]
  exact BAt.nil _ _
 ·rw [if_neg hc]
  refine ⟨_, _, rfl, ?_, by omega⟩
  intro hne
  refine ⟨b, off + lo, rfl, fun j u hj => ?_⟩
  obtain ⟨b', off', e1, hcs⟩ := hb (fun e => hne (by
   have hl : l = [] := by
    cases l with
    | nil => rfl
    | cons c l => simp [bs] at e
   subst hl
   simp [bs]))
  injection e1 with e1
  injection e1 with e2 e3
  subst e2 e3
  have hj2 : j < hi - lo := by have := (List.getElem?_eq_some_iff.1 hj).1; simp [bs] at this; omega
  rw [show off + lo + j = off + (lo + j) by omega]
  refine hcs (lo + j) u ?_
  simp only [bs, List.getElem?_map] at hj ⊢
  rw [List.getElem?_take, if_pos hj2, List.getElem?_drop] at hj
  exact hj
theorem subV_formS {w : World} {b off lo hi cap : Nat} {l : List UInt8} (hb : BAt w (some ⟨b, off, none⟩) l) (h1 : lo ≤ hi) (h2 : hi ≤ l.length) (h3 : l.length ≤ cap) :
  ∃ ao c, subV b off lo hi cap = .slice ao (hi - lo) c ∧ BAt w ao ((l.drop lo).take (hi - lo)) ∧ hi - lo ≤ c ∧ ∃ y, ao = some ⟨b, y, none⟩ := by
 obtain ⟨ao, c, e, h4, h5⟩ := subV_form hb h1 h2 h3
 refine ⟨ao, c, e, h4, h5, ?_⟩
 unfold subV at e
 split at e
 ·simp only [Value.slice.injEq] at e
  exact ⟨off, e.1.symm⟩
 ·simp only [Value.slice.injEq] at e
  exact ⟨off + lo, e.1.symm⟩
theorem sub15_run (b off n cap : Nat) (h : 5 ≤ n) (hn : n ≤ cap) (W : World) : (Instr.slice 50 (.slice (some ⟨b, off, none⟩) n cap) (some (.int .i64 1)) (some (.int .i64 5)) none).run Tryz.prog W = .ok (subV b off 1 5 cap) W := by
 unfold subV
 rw [if_neg (by omega)]
 have h1 : (5 : Int) ≤ (cap : Int) := by omega
 go_simp
 omega
theorem sub5_run (b off n cap : Nat) (h : 5 ≤ n) (hn : n ≤ cap) (W : World) : (Instr.slice 50 (.slice (some ⟨b, off, none⟩) n cap) (some (.int .i64 5)) none none).run Tryz.prog W = .ok (subV b off 5 n cap) W := by
 unfold subV
 have h1 : (5 : Int) ≤ (n : Int) := by omega
 have h2 : (n : Int) ≤ (cap : Int) := by omega
 by_cases hc : cap = 5
 ·subst hc
  obtain rfl : n = 5 := by omega
  go_simp
 ·rw [if_neg hc]
  go_simp
theorem subTo_run (b off n cap m : Nat) (h : m ≤ n) (hn : n ≤ cap) (W : World) : (Instr.slice 50 (.slice (some ⟨b, off, none⟩) n cap) none (some (.int .u64 (m : Int))) none).run Tryz.prog W = .ok (subV b off 0 m cap) W := by
 unfold subV
 have h1 : (m : Int) ≤ (n : Int) := by omega
 have h2 : (m : Int) ≤ (cap : Int) := by omega
 by_cases hc : cap = 0
 ·subst hc
  obtain rfl : n = 0 := by omega
  obtain rfl : m = 0 := by omega
  go_simp
 ·rw [if_neg hc]
  go_simp
theorem subFrom_run (b off n cap m : Nat) (h : m + 4 ≤ n) (hn : n ≤ cap) (W : World) : (Instr.slice 50 (.slice (some ⟨b, off, none⟩) n cap) (some (.int .u64 (m : Int))) (some (.int .u64 ((m : Int) + 4))) none).run Tryz.prog W = .ok (subV b off m (m + 4) cap) W := by
 unfold subV
 have h1 : (m : Int) ≤ (n : Int) := by omega
 have h2 : (m : Int) + 4 ≤ (cap : Int) := by omega
 have h3 : ((m : Int) + 4).toNat = m + 4 := by omega
 rw [if_neg (by omega)]
 go_simp
 rw [if_pos (by omega), if_neg (by omega)]

def lenB (l : List UInt8) : Nat := unbig ((l.drop 1).take 4)
def payP (l : List UInt8) : List UInt8 := (l.drop 5).take (lenB l)
def payS (l : List UInt8) : List UInt8 := ((l.drop 5).drop (lenB l)).take 4
/-- What payloadOf says. -/
def payE (l : List UInt8) : Int :=
 if l.length = 0 then 131 else if l.getD 0 0 ≠ 77 then 132 else if l.length < 5 then 131 else if 131072 < lenB l then 132 else
 if l.length - 5 < lenB l + 4 then 131 else if unbig (payS l) ≠ sumB (payP l) then 132 else 0
/-- The payload is answered, a piece of the bytes. -/
def PayA (w : World) (l : List UInt8) (e : Ending) (w' : World) : Prop := ∃ ao n c, e = .returned (.tuple #[.slice ao n c, .int .i64 (payE l)]) ∧ (payE l = 0 → n = (payP l).length ∧ n ≤ c ∧ BAt w' ao (payP l) ∧ ∃ x y, ao = some ⟨x, y, none⟩ ∧ x < w.heap.size) ∧ ∃ m, w' = w.drewN m
theorem payA_no {w w' : World} {l : List UInt8} {x : Int} (hx : payE l = x) (h0 : x ≠ 0) (hd : ∃ m, w' = w.drewN m) : PayA w l (.returned (.tuple #[.slice none 0 0, .int .i64 x])) w' :=
 ⟨none, 0, 0, by rw [hx], fun h => absurd (hx.symm.trans h) h0, hd⟩

set_option maxRecDepth 100000 in
set_option maxHeartbeats 2000000 in
theorem payloadOf_calls (ao : Option Addr) (cap : Nat) (l : List UInt8) (w : World) (hl : l.length ≤ 140737488455328) (hcap : l.length ≤ cap) (h : BAt w ao l) :
  Calls Tryz.prog 45 #[.slice ao l.length cap] w fun e w' => PayA w l e w' := by
 obtain ⟨n, Hn⟩ : ∃ n, Hid (n = l.length) := ⟨_, rfl⟩
 by_cases h0 : l.length = 0
 ·have HE : Hid (payE l = 131) := by show _ = _; unfold payE; rw [if_pos h0]
  rw [← Hn.out] at hl hcap h0 ⊢
  subst h0
  go_enter Tryz.func45, Tryz.ntmps45
  go_wp2
  go_ret2
  exact payA_no HE.out (by decide) ⟨0, rfl⟩
 have q0 : ((l.length : Int) == 0) = false := by simp; intro e; exact h0 (by simp [e])
 obtain ⟨b, off, rfl, c0⟩ := h.at 0 (by omega)
 have hp : 0 < l.length := by omega
 obtain ⟨c, Hc⟩ : ∃ c, Hid (c = l[0]'hp) := ⟨l[0]'hp, rfl⟩
 rw [← Hc.out, Nat.add_zero] at c0
 have hgd : l.getD 0 0 = c := by rw [Hc.out]; simp [hp]
 by_cases h77' : ¬ c = 77
 ·have h77 := h77'
  have HE : Hid (payE l = 132) := by show _ = _; unfold payE; rw [if_neg h0, hgd, if_pos h77]
  have q1 : ((c.toNat : Int) != 77) = true := by
   simp
   intro e
   exact h77 (UInt8.toNat_inj.1 (by show c.toNat = 77; omega))
  clear hgd Hc h77 h77'
  rw [← Hn.out] at hl hcap q0 hp ⊢
  go_enter Tryz.func45, Tryz.ntmps45
  go_wp2
  go_ret2
  exact payA_no HE.out (by decide) ⟨0, rfl⟩
 have h77 : c = 77 := Classical.not_not.1 h77'
 clear h77'
 subst h77
 have c0 : w.cell? ⟨b, off, none⟩ = some (.int .u8 77) := c0
 by_cases h5 : l.length < 5
 ·have HE : Hid (payE l = 131) := by show _ = _; unfold payE; rw [if_neg h0, hgd, if_neg (by decide), if_pos h5]
  clear hgd Hc
  rw [← Hn.out] at hl hcap q0 h5 hp ⊢
  go_enter Tryz.func45, Tryz.ntmps45
  go_wp2
  go_ret2
  exact payA_no HE.out (by decide) ⟨0, rfl⟩
 have HE0 : Hid (payE l = if 131072 < lenB l then 132 else if l.length - 5 < lenB l + 4 then 131 else if unbig (payS l) ≠ sumB (payP l) then 132 else 0) := by show _ = _; unfold payE; rw [if_neg h0, hgd, if_neg (by decide), if_neg h5]
 clear hgd Hc
 obtain ⟨a1, k1, e1, hb1, -⟩ := subV_form h (lo := 1) (hi := 5) (by omega) (by omega) hcap
 obtain ⟨a5, k5, e5, hb5, hk5⟩ := subV_form h (lo := 5) (hi := l.length) (by omega) (Nat.le_refl _) hcap
 have hr1 := fun W => sub15_run b off l.length cap (by omega) hcap W
 have hr5 := fun W => sub5_run b off l.length cap (by omega) hcap W
 rw [e1] at hr1
 rw [e5] at hr5
 have hlen1 : ((l.drop 1).take (5 - 1)).length = 4 := by simp; omega
 have HC1 : Hid (∀ m, Calls Tryz.prog 61 #[.slice a1 4 k1] (w.drewN m) fun e w' => e = .returned (.int .u64 (lenB l : Nat)) ∧ w' = w.drewN m) := fun m => by
  have := readNumber_calls a1 k1 ((l.drop 1).take (5 - 1)) (w.drewN m) (by omega) (hb1.below (below_draws w m))
  rw [hlen1] at this
  exact this
 have e55 : (l.drop 5).take (l.length - 5) = l.drop 5 := List.take_of_length_le (by simp)
 rw [e55] at hb5
 have HB5 : Hid (BAt w a5 (l.drop 5)) := hb5
 have hlb : lenB l < 4294967296 := by
  have := unbig_lt 4 ((l.drop 1).take 4) hlen1
  exact Nat.lt_of_lt_of_le this (by decide)
 clear hlen1 e55 hb1 hb5 e1 e5 h
 rw [show (5 : Nat) - 1 = 4 from rfl] at hr1
 obtain ⟨n5, Hn5⟩ : ∃ x, Hid (x = l.length - 5) := ⟨_, rfl⟩
 have hn5 : n5 ≤ 140737488455328 := by rw [Hn5.out]; omega
 rw [← Hn5.out] at hr5 hk5 HE0
 obtain ⟨pl, Hpl⟩ : ∃ x, Hid (x = lenB l) := ⟨_, rfl⟩
 rw [← Hpl.out] at HC1 hlb HE0
 rw [← Hn.out] at hl hcap q0 h5 hp hr1 hr5 ⊢
 go_enter Tryz.func45, Tryz.ntmps45
 go_upto_region 7 with fail
 go_quiet ((go_at_call 61; exact Calls.quiet_of_same (HC1.out _)))
 clear hr1 hr5 HC1
 by_cases hbig : 131072 < pl
 ·have HE : Hid (payE l = 132) := by show _ = _; rw [HE0.out, if_pos hbig]
  have q2 : (131072 : Int) < (pl : Int) := by omega
  go_wp2
  go_ret2
  exact payA_no HE.out (by decide) ⟨_, rfl⟩
 by_cases hsh : n5 < pl + 4
 ·have HE : Hid (payE l = 131) := by show _ = _; rw [HE0.out, if_neg hbig, if_pos hsh]
  have q2 : ¬ (131072 : Int) < (pl : Int) := by omega
  have q3 : (n5 : Int) < (pl : Int) + 4 := by omega
  go_wp2
  go_ret2
  exact payA_no HE.out (by decide) ⟨_, rfl⟩
 have HE1 : Hid (payE l = if unbig (payS l) ≠ sumB (payP l) then 132 else 0) := by show _ = _; rw [HE0.out, if_neg hbig, if_neg hsh]
 have q2 : ¬ (131072 : Int) < (pl : Int) := by omega
 have q3 : ¬ (n5 : Int) < (pl : Int) + 4 := by omega
 have hd5 : (l.drop 5).length = n5 := by rw [Hn5.out]; simp
 obtain ⟨b5, off5, rfl, hc5⟩ := HB5.out.at 0 (by omega)
 have hb5lt : b5 < w.heap.size := World.block_lt_of_cell? w _ hc5
 clear hc5
 obtain ⟨ap, kp, ep, hbp, hkp, hap⟩ := subV_formS HB5.out (lo := 0) (hi := pl) (cap := k5) (by omega) (by omega) (by omega)
 obtain ⟨az, ks, es, hbs, -⟩ := subV_form HB5.out (lo := pl) (hi := pl + 4) (cap := k5) (by omega) (by omega) (by omega)
 have hrp := fun W => subTo_run b5 off5 n5 k5 pl (by omega) hk5 W
 have hrs := fun W => subFrom_run b5 off5 n5 k5 pl (by omega) hk5 W
 rw [ep] at hrp
 rw [es] at hrs
 rw [Nat.sub_zero] at hrp hbp hkp
 rw [Nat.add_sub_cancel_left] at hrs hbs
 rw [List.drop_zero] at hbp
 have hlp : ((l.drop 5).take pl).length = pl := by rw [List.length_take, hd5]; omega
 have hls : (((l.drop 5).drop pl).take 4).length = 4 := by rw [List.length_take, List.length_drop, hd5]; omega
 have HP : Hid (payP l = (l.drop 5).take pl) := by show _ = _; unfold payP; rw [← Hpl.out]
 have HS : Hid (payS l = ((l.drop 5).drop pl).take 4) := by show _ = _; unfold payS; rw [← Hpl.out]
 have HC2 : Hid (∀ m, Calls Tryz.prog 61 #[.slice az 4 ks] (w.drewN m) fun e w' => e = .returned (.int .u64 (unbig (payS l) : Nat)) ∧ w' = w.drewN m) := fun m => by
  have := readNumber_calls az ks (((l.drop 5).drop pl).take 4) (w.drewN m) (by omega) (hbs.below (below_draws w m))
  rw [hls, ← HS.out] at this
  exact this
 have HC3 : Hid (∀ m, Calls Tryz.prog 13 #[.slice ap pl kp] (w.drewN m) fun e w' => e = .returned (.int .u32 (sumB (payP l) : Nat)) ∧ w' = w.drewN m) := fun m => by
  have := sum_calls ap kp ((l.drop 5).take pl) (w.drewN m) (by omega) (hbp.below (below_draws w m))
  rw [hlp, ← HP.out] at this
  exact this
 have HAP : Hid (∃ x y, ap = some ⟨x, y, none⟩ ∧ x < w.heap.size) := by obtain ⟨y, hy⟩ := hap; exact ⟨b5, y, hy, hb5lt⟩
 clear hap
 have HBP : Hid (BAt w ap (payP l)) := by show BAt _ _ _; rw [HP.out]; exact hbp
 have HLP : Hid ((payP l).length = pl) := by show _ = _; rw [HP.out]; exact hlp
 have hsu : sumB (payP l) < 4294967296 := sumB_lt _
 have hrd : unbig (payS l) < 4294967296 := by rw [HS.out]; exact Nat.lt_of_lt_of_le (unbig_lt 4 _ hls) (by decide)
 clear hbs hbp hlp hls HS HP ep es HB5 hd5
 obtain ⟨S, HS⟩ : ∃ x, Hid (x = sumB (payP l)) := ⟨_, rfl⟩
 obtain ⟨U, HU⟩ : ∃ x, Hid (x = unbig (payS l)) := ⟨_, rfl⟩
 rw [← HS.out] at HC3 hsu HE1
 rw [← HU.out] at HC2 hrd HE1
 go_upto_region 12 with fail
 go_quiet (fail)
 go_upto_region 13 with fail
 rw [World.drewN_drewN]
 clear hrp hrs
 go_wp2_with fail
 refine (HC2.out _).mono ?_
 rintro e w3 ⟨rfl, rfl⟩
 go_wp2_with fail
 refine (HC3.out _).mono ?_
 rintro e w4 ⟨rfl, rfl⟩
 clear HC2 HC3
 by_cases hus : U = S
 ·have HE : Hid (payE l = 0) := by show _ = _; rw [HE1.out, if_neg (by omega)]
  subst hus
  have q4 : ((U : Int) != (U : Int)) = false := by simp
  go_wp2
  go_ret2
  exact ⟨ap, pl, kp, by rw [HE.out]; rfl, fun _ => ⟨HLP.out.symm, hkp, HBP.out.below (below_draws w _), HAP.out⟩, _, rfl⟩
 ·have HE : Hid (payE l = 132) := by show _ = _; rw [HE1.out, if_pos hus]
  have q4 : ((U : Int) != (S : Int)) = true := by simp; omega
  clear hus
  go_wp2
  go_ret2
  exact payA_no HE.out (by decide) ⟨_, rfl⟩
end Go.Proofs.YthgcnmilaifkoaaGreatDoor
