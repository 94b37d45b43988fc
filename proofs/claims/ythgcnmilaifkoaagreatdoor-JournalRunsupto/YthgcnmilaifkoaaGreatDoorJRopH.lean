import Derived.Test.YthgcnmilaifkoaaGreatDoorJRn5
import Derived.Test.YthgcnmilaifkoaaGreatDoorJPay
import Derived.Test.YthgcnmilaifkoaaGreatDoorRcOa1
import Derived.Test.YthgcnmilaifkoaaGreatDoorJRn1
import Derived.Lib.SlBytesConst
import Derived.BigQuiet
import Derived.Deep.QuietTactic
import Derived.Test.YthgcnmilaifkoaaGreatDoorRcCopyS
import Derived.Test.YthgcnmilaifkoaaGreatDoorJEqN
import Derived.Test.YthgcnmilaifkoaaGreatDoorJReadP
/- Layer 13 (journal): operations that are written over. -/
namespace Go.Proofs.YthgcnmilaifkoaaGreatDoor
open Go.RowKit
set_option linter.unusedVariables false

/-- A list of tags that may be written over: it lies in a block of texts, one of S. -/
def TagS (w : World) (S : Nat → Prop) (ta : Option Addr) (tn : Nat) : Prop := tn = 0 ∨ ∃ g ts, ta = some ⟨g, 0, none⟩ ∧ S g ∧ Blk w g ts 9 ∧ tn ≤ ts.size ∧ tn ≤ 9223372036854775807
/-- Block b holds n operations that may be written over, each with such tags. -/
structure Shp (w : World) (S : Nat → Prop) (b n : Nat) : Prop where
 low : S b
 blk : ∃ cs, Blk w b cs 47 ∧ n * 21 ≤ cs.size ∧ ∀ i, i < n → ∃ ta tn tc, cs[i * 21 + 9]? = some (.slice ta tn tc) ∧ TagS w S ta tn
/-- The blocks of operations and texts from B to E. -/
def WrS (w : World) (B E : Nat) (k : Nat) : Prop := B ≤ k ∧ k < E ∧ ∃ cs T, Blk w k cs T ∧ (T = 47 ∨ T = 9)
theorem wrS_tys (w : World) (B E : Nat) : Tys w (WrS w B E) (fun t => t = 47 ∨ t = 9) := fun k h => h.2.2
theorem row_tagS {w : World} {B E : Nat} {ta : Option Addr} {tn tc : Nat} {l : List Value} (h : w.ownsRow B 9 1 (.slice ta tn tc) tn l) (hE : ∀ k, (Value.slice ta tn tc).ownBlock = some k → k < E) : TagS w (WrS w B E) ta tn := by
 rcases h.2 with ⟨hv, h0⟩ | ⟨g, cap, cur, hv, hb, hg, hnc, hcm, hcs, ht⟩
 ·exact .inl h0
 ·simp only [Value.slice.injEq] at hv
  obtain ⟨rfl, _, rfl⟩ := hv
  exact .inr ⟨g, cur, rfl, ⟨hb, hE g rfl, cur, _, hg, .inr rfl⟩, hg, by rw [hcs]; omega, by unfold maxLen at hcm; omega⟩
theorem Shp.ofOwn {w : World} {B E b cap : Nat} {l : List OV} (h : OwnO w B (.slice (some ⟨b, 0, none⟩) l.length cap) l) (hE : LtO E (.slice (some ⟨b, 0, none⟩) l.length cap) l) : Shp w (WrS w B E) b l.length := by
 have hrow := h.row
 rcases h.row.2 with ⟨hv, h0⟩ | ⟨g, cap', cur, hv, hb, hg, hnc, hcm, hcs, ht⟩
 ·cases hv
 ·simp only [Value.slice.injEq, Option.some.injEq, Addr.mk.injEq] at hv
  obtain ⟨⟨rfl, _, _⟩, _, rfl⟩ := hv
  refine ⟨⟨hb, hE.row _ rfl, cur, _, hg, .inl rfl⟩, cur, hg, by rw [hcs]; exact Nat.mul_le_mul_right _ hnc, fun i hi => ?_⟩
  have hi2 : i * 21 + 9 < l.length * 21 := by omega
  have hc := World.ownsRow.cellAt hrow (i * 21 + 9) hi2
  have hf : (ocs l)[i * 21 + 9]? = some (.slice l[i].ta l[i].o.svc.tags.length l[i].tc) := by
   unfold ocs
   rw [flat_at (fun x : OV => x.v.toList) 21 (fun _ => rfl) l i 9 l[i] (by simp [hi]) (by omega)]
   rfl
  rw [hf] at hc
  refine ⟨_, _, l[i].tc, ?_, row_tagS (h.tags _ (List.getElem_mem hi)) (hE.tags _ (List.getElem_mem hi))⟩
  rw [← hc]
  exact (cell_of_row _ _ _ _ _ _ hg).symm
theorem Shp.tag {w : World} {S : Nat → Prop} {b n : Nat} (h : Shp w S b n) {i : Nat} (hi : i < n) : ∃ ta tn tc, w.cell? ⟨b, i * 21 + 9, none⟩ = some (.slice ta tn tc) ∧ TagS w S ta tn := by
 obtain ⟨cs, hb, hn, hc⟩ := h.blk
 obtain ⟨ta, tn, tc, he, ht⟩ := hc i hi
 exact ⟨ta, tn, tc, hb.cell _ he, ht⟩
theorem Shp.kind {w : World} {S : Nat → Prop} {b n : Nat} (h : Shp w S b n) {i : Nat} (hi : i < n) : (∃ u, w.cell? ⟨b, i * 21, none⟩ = some u) ∧ w.frozen? ⟨b, i * 21, none⟩ = false := by
 obtain ⟨cs, hb, hn, hc⟩ := h.blk
 have : i * 21 < cs.size := by omega
 exact ⟨⟨_, hb.cell _ (Array.getElem?_eq_getElem this)⟩, hb.open _⟩
theorem blk_type {w : World} {b : Nat} {cs cs' : Array Value} {T T' : TypeId} (h : Blk w b cs T) (h' : Blk w b cs' T') : T = T' := by
 have : some (Obj.cells cs T) = some (.cells cs' T') := Eq.trans (Eq.symm h) h'
 simp only [Option.some.injEq, Obj.cells.injEq] at this
 exact this.2.1
theorem blk_set {w : World} {b g : Nat} {cs : Array Value} {T : TypeId} (h : Blk w b cs T) (hne : b ≠ g) (k : Nat) (v : Value) : Blk (w.setCell ⟨g, k, none⟩ v) b cs T := by
 show (w.setCell _ _).heap[b]? = _
 rw [heap_setCell_other _ _ _ _ (by exact hne)]
 exact h
theorem TagS.setTag {w : World} {S : Nat → Prop} {ta : Option Addr} {tn g k : Nat} {ts : Array Value} (h : TagS w S ta tn) (hg : Blk w g ts 9) (v : Value) : TagS (w.setCell ⟨g, k, none⟩ v) S ta tn := by
 rcases h with h | ⟨g', ts', rfl, hs, hb, hn⟩
 ·exact .inl h
 ·by_cases e : g' = g
  ·subst e
   exact .inr ⟨g', _, rfl, hs, Lib.heap_setCell_same hb v, by rw [Array.size_setIfInBounds]; exact hn.1, hn.2⟩
  ·exact .inr ⟨g', ts', rfl, hs, blk_set hb e _ _, hn⟩
theorem TagS.setOp {w : World} {S : Nat → Prop} {ta : Option Addr} {tn b k : Nat} {cs : Array Value} (h : TagS w S ta tn) (hb : Blk w b cs 47) (v : Value) : TagS (w.setCell ⟨b, k, none⟩ v) S ta tn := by
 rcases h with h | ⟨g', ts', rfl, hs, hg, hn⟩
 ·exact .inl h
 ·exact .inr ⟨g', ts', rfl, hs, blk_set hg (fun e => by subst e; have := blk_type hg hb; revert this; decide) _ _, hn⟩
theorem Shp.setTag {w : World} {S : Nat → Prop} {b n g k : Nat} {ts : Array Value} (h : Shp w S b n) (hg : Blk w g ts 9) (v : Value) : Shp (w.setCell ⟨g, k, none⟩ v) S b n := by
 obtain ⟨cs, hb, hn, hc⟩ := h.blk
 refine ⟨h.low, cs, blk_set hb (fun e => by subst e; have := blk_type hg hb; revert this; decide) _ _, hn, fun i hi => ?_⟩
 obtain ⟨ta, tn, tc, he, ht⟩ := hc i hi
 exact ⟨ta, tn, tc, he, ht.setTag hg v⟩
theorem Shp.setOp {w : World} {S : Nat → Prop} {b n k : Nat} (h : Shp w S b n) (v : Value) (hv : k % 21 = 9 → v = .slice none 0 0) : Shp (w.setCell ⟨b, k, none⟩ v) S b n := by
 obtain ⟨cs, hb, hn, hc⟩ := h.blk
 refine ⟨h.low, _, Lib.heap_setCell_same hb v, by rw [Array.size_setIfInBounds]; exact hn, fun i hi => ?_⟩
 obtain ⟨ta, tn, tc, he, ht⟩ := hc i hi
 by_cases e : k = i * 21 + 9
 ·subst e
  refine ⟨none, 0, 0, ?_, .inl rfl⟩
  rw [hv (by omega), Array.getElem?_setIfInBounds_self_of_lt (by omega)]
 ·exact ⟨ta, tn, tc, by rw [Array.getElem?_setIfInBounds_ne e]; exact he, ht.setOp hb v⟩
theorem Shp.putC {S : Nat → Prop} {b n : Nat} : ∀ (l : List Value) (w : World) (o : Nat), Shp w S b n → (∀ j (h : j < l.length), (o + j) % 21 = 9 → l[j] = .slice none 0 0) → Shp (putC w b o l) S b n
 | [], _, _, h, _ => h
 | v :: l, w, o, h, hv => Shp.putC l _ _ (h.setOp v fun e => hv 0 (by simp) e) fun j hj e => by
  have := hv (j + 1) (by simp; omega) (by rw [← e]; congr 1; omega)
  simpa using this
theorem frm_putC {S : Nat → Prop} {a : World} {b : Nat} (hb : S b) : ∀ (l : List Value) (w : World) (o : Nat), Frm S a w → Frm S a (putC w b o l)
 | [], _, _, h => h
 | v :: l, w, o, h => frm_putC hb l _ _ (h.setCell _ _ (.inl hb))
/-- What is written over: the operations of one entry, from a world w0 on. -/
structure Mk (w0 w : World) (S : Nat → Prop) (b n : Nat) : Prop where
 shp : Shp w S b n
 frm : Frm S w0 w
theorem zero_op (j : Nat) (h : j < (oppZ.v (.slice none 0 0)).toList.length) (i : Nat) (e : (i * 21 + j) % 21 = 9) : (oppZ.v (.slice none 0 0)).toList[j] = .slice none 0 0 := by
 have hj : j < 21 := h
 obtain rfl : j = 9 := by omega
 rfl
theorem Mk.zero {w0 w : World} {S : Nat → Prop} {b n : Nat} (h : Mk w0 w S b n) (i : Nat) : Mk w0 (Go.Proofs.YthgcnmilaifkoaaGreatDoor.putC w b (i * 21) (oppZ.v (.slice none 0 0)).toList) S b n :=
 ⟨h.shp.putC _ _ _ fun j hj e => zero_op j hj i e, frm_putC h.shp.low _ _ _ h.frm⟩
theorem Mk.kind {w0 w : World} {S : Nat → Prop} {b n : Nat} (h : Mk w0 w S b n) (i : Nat) (v : Value) : Mk w0 (w.setCell ⟨b, i * 21, none⟩ v) S b n :=
 ⟨h.shp.setOp v fun e => by omega, h.frm.setCell _ _ (.inl h.shp.low)⟩
theorem Mk.tag {w0 w : World} {S : Nat → Prop} {b n g k : Nat} {ts : Array Value} (h : Mk w0 w S b n) (hs : S g) (hg : Blk w g ts 9) (v : Value) : Mk w0 (w.setCell ⟨g, k, none⟩ v) S b n :=
 ⟨h.shp.setTag hg v, h.frm.setCell _ _ (.inl hs)⟩
end Go.Proofs.YthgcnmilaifkoaaGreatDoor

/- Layer 13 (journal): the document's Big. -/
namespace Go.Proofs.YthgcnmilaifkoaaGreatDoor
open Go.RowKit
set_option linter.unusedVariables false

theorem made_u8 (n : Nat) : (madeCells (Value.int .u8 0).cells n).toList = bs (List.replicate n (0 : UInt8)) := by
 apply List.ext_getElem
 ·simp [madeCells, bs]
 ·intro i h1 h2
  simp [madeCells, bs, Value.cells, Nat.mod_one]
theorem set_rep (k : Nat) (c : UInt8) (suf : List UInt8) : (List.replicate (k + 1) 0 ++ suf).set k c = List.replicate k 0 ++ (c :: suf) := by
 rw [List.replicate_succ', List.append_assoc, List.set_append_right _ _ (by simp)]
 simp
set_option maxRecDepth 100000 in
set_option maxHeartbeats 1000000 in
theorem rbig_calls (X : Int) (n : Nat) (w : World) (h0 : 0 ≤ X) (h1 : X ≤ 18446744073709551615) (hn : n = 1 ∨ n = 2 ∨ n = 4 ∨ n = 8) :
  Calls Tryz.prog 48 #[.int .u64 X, .int .i64 (n : Int)] w fun e w' => ∃ c, e = .returned (.slice (some ⟨w.heap.size, 0, none⟩) n c) ∧ Own w' w.heap.size (.slice (some ⟨w.heap.size, 0, none⟩) n c) (big n X) ∧ Below w.heap.size w w' := by
 have hn8 : n ≤ 8 := by omega
 have hn1 : 1 ≤ n := by omega
 obtain ⟨i0, hi, hb⟩ := Option.map_eq_some_iff.1 info_u8
 simp only [Prod.mk.injEq] at hb
 obtain ⟨hz0, hz1, hz2⟩ := hb
 obtain ⟨M, HM⟩ : ∃ M, Hid (M = madeCells (Value.int .u8 0).cells n) := ⟨_, rfl⟩
 have hmake : (Instr.makeSlice 50 (.int .i64 (n : Int)) (.int .i64 (n : Int))).run Tryz.prog w = .ok (.slice (some ⟨w.heap.size, 0, none⟩) n n) (w.alloc (.cells M 5)) := by
  have h := run_make (P := Tryz.prog) w 50 5 i0 (.int .u8 0) Tryz.underlying50 hi hz0 .i64 .i64 (n : Int) (n : Int) (by omega) (by omega) (by rw [hz2]; omega) (by omega)
  rw [HM.out]
  simpa [hz1] using h
 have HO : Hid (Own (w.alloc (.cells M 5)) w.heap.size (.slice (some ⟨w.heap.size, 0, none⟩) n n) (List.replicate n 0)) := by
  have hMl : M.toList = bs (List.replicate n (0 : UInt8)) := by rw [HM.out]; exact made_u8 n
  have hMs : M.size = n := by rw [← Array.length_toList, hMl, bs_length, List.length_replicate]
  refine ⟨by rw [bs_length, Nat.mul_one], .inr ⟨w.heap.size, n, M, by rw [List.length_replicate], Nat.le_refl _, heap_alloc_new w _, by rw [List.length_replicate]; exact Nat.le_refl _, by unfold maxLen; omega, by rw [hMs, Nat.mul_one], ?_⟩⟩
  rw [List.take_of_length_le (by rw [Array.length_toList, hMs, List.length_replicate]; omega), hMl]
 clear HM hi hz0 hz1 hz2 hn
 obtain ⟨w1, Hw1⟩ : ∃ x, Hid (x = w.alloc (.cells M 5)) := ⟨_, rfl⟩
 have HB : Hid (Below w.heap.size w w1) := by rw [Hw1.out]; exact below_new w _
 rw [← Hw1.out] at hmake HO
 clear Hw1
 go_enter Tryz.func48, Tryz.ntmps48
 go_wp2
 clear hmake
 go_loopw [0, 6] (fun x i wr => ∃ (k : Nat) (q : Int) (suf : List UInt8), k ≤ n ∧ i = .int .i64 ((k : Int) - 1) ∧ x = .int .u64 q ∧ 0 ≤ q ∧ q ≤ 18446744073709551615 ∧ Hid (suf.length = n - k) ∧ Hid (big n X = big k q ++ suf) ∧ Hid (Own wr w.heap.size (.slice (some ⟨w.heap.size, 0, none⟩) n n) (List.replicate k 0 ++ suf)) ∧ Hid (Below w.heap.size w wr)) (fun _ i _ => (intOf i + 1).toNat)
 case atStart => exact ⟨n, X, [], Nat.le_refl _, rfl, rfl, h0, h1, by simp [Hid], by simp [Hid], by rw [List.append_nil]; exact HO, HB⟩
 case round =>
  obtain ⟨k, q, suf, hk, rfl, rfl, hq0, hq1, HSL, HE, HO2, HB2⟩ := hrel
  by_cases hlt : 0 < k
  ·obtain ⟨j, rfl⟩ : ∃ j, k = j + 1 := ⟨k - 1, by omega⟩
   have ej : (((j + 1 : Nat) : Int) - 1) = (j : Int) := by omega
   rw [ej]
   have hjn : j < n := by omega
   have HL : Hid ((List.replicate (j + 1) 0 ++ suf).length = n) := by
    show _ = _
    rw [List.length_append, List.length_replicate, HSL.out]
    omega
   obtain ⟨c0, f0⟩ := HO2.out.at HL.out j hjn
   have hw : IntKind.u8.wrap (q % 256) = ((byteOf q).toNat : Int) := by
    rw [byteOf_val]
    show (q % 256) % 256 = _
    omega
   have HO3 : Hid (Own (wr.setCell ⟨w.heap.size, j, none⟩ (.int .u8 ((byteOf q).toNat : Int))) w.heap.size (.slice (some ⟨w.heap.size, 0, none⟩) n n) (List.replicate j 0 ++ (byteOf q :: suf))) := by
    have := HO2.out.stored HL.out j (byteOf q)
    rw [set_rep] at this
    exact this
   have HB3 : Hid (Below w.heap.size w (wr.setCell ⟨w.heap.size, j, none⟩ (.int .u8 ((byteOf q).toNat : Int)))) := HB2.out.setCell (p := ⟨w.heap.size, j, none⟩) (Nat.le_refl _) _
   have HE3 : Hid (big n X = big j (q / 256) ++ (byteOf q :: suf)) := by
    show _ = _
    rw [HE.out]
    simp [big]
   go_wp2
   go_roundw
   case rel => exact ⟨j, q / 256, byteOf q :: suf, by omega, by go_num, by go_num, by omega, by omega, by show _ = _; rw [List.length_cons, HSL.out]; omega, HE3, HO3, HB3⟩
   case measure => simp [intOf]
  ·obtain rfl : k = 0 := by omega
   have HF : Hid (Own wr w.heap.size (.slice (some ⟨w.heap.size, 0, none⟩) n n) (big n X)) := by
    have := HO2.out
    rw [HE.out]
    exact this
   go_wp2
   go_ret
   exact ⟨n, rfl, HF.out, HB2.out⟩
end Go.Proofs.YthgcnmilaifkoaaGreatDoor

/- Layer 13 (journal): the law's example. -/
namespace Go.Proofs.YthgcnmilaifkoaaGreatDoor
open Go.RowKit
set_option linter.unusedVariables false

def fixO : OV := ⟨⟨4, ⟨⟨#[97]⟩, ⟨#[]⟩, 0, 0⟩, svcZ, chkZ, false, 0⟩, none, 0⟩
def fixB : List UInt8 := [77, 0, 0, 0, 13, 0, 0, 0, 0, 0, 0, 0, 2, 1, 4, 0, 1, 97, 211, 16, 57, 225]
theorem fix_enc : encB 2 (ops [fixO]) = fixB := by kernel_rfl
theorem fix_err : encE (ops [fixO]) = 0 := by kernel_rfl
theorem fix_sum : sumB [49, 50, 51, 52, 53, 54, 55, 56, 57] = 3421780262 := by kernel_rfl
theorem fix_small : fixO.o.small := ⟨by decide, by decide, ⟨by decide, by decide, by decide, by decide, fun x hx => by cases hx⟩, ⟨by decide, by decide, by decide, by decide⟩⟩
theorem fix_ok : ∀ x ∈ [fixO], x.ok := fun x hx => by simp at hx; subst hx; exact ⟨fix_small, by decide⟩
theorem fix_rng : ∀ x ∈ [fixO], x.o.rng := fun x hx => by simp at hx; subst hx; exact ⟨by decide, by decide⟩
theorem fix_at (w : World) : OpsAt (w.alloc (.cells fixO.v 47)) (some ⟨w.heap.size, 0, none⟩) [fixO] := by
 constructor
 ·intro _
  refine ⟨w.heap.size, 0, rfl, fun j u hj => ?_⟩
  rw [Nat.zero_add, World.cell?_alloc_mark]
  have e : ocs [fixO] = fixO.v.toList := by simp [ocs]
  rw [e] at hj
  simpa using hj
 ·intro x hx
  simp at hx
  subst hx
  intro h
  exact absurd rfl h

set_option maxRecDepth 100000 in
set_option maxHeartbeats 2000000 in
theorem journalFixed_calls (w : World) (hv : Vs w) :
  Calls Tryz.prog 4 #[] w fun e w' => e = .returned (.bool true) ∧ Below w.heap.size w w' := by
 obtain ⟨wx, Hwx⟩ : ∃ x, Hid (x = w.alloc (.cells fixO.v 47)) := ⟨_, rfl⟩
 have HB : Hid (Below w.heap.size w wx) := by rw [Hwx.out]; exact below_new w _
 have HC : Hid (Calls Tryz.prog 12 #[.agg (entV 2 (some ⟨w.heap.size, 0, none⟩) 1 1)] wx fun e w' => ∃ v', e = .returned (.tuple #[v', .int .i64 0]) ∧ Own w' wx.heap.size v' fixB ∧ Below wx.heap.size wx w') := by
  have := jencode_calls 2 (some ⟨w.heap.size, 0, none⟩) 1 [fixO] wx (by decide) (by decide) (hv.stay HB.out) (by decide) fix_ok fix_rng (by rw [Hwx.out]; exact fix_at w)
  rw [fix_enc, fix_err] at this
  exact this
 go_enter Tryz.func4, Tryz.ntmps4
 go_wp2_with fail
 have HC' := HC.out
 rw [Hwx.out] at HC'
 refine HC'.mono ?_
 rw [← Hwx.out]
 rintro e w1 ⟨v1, rfl, ho, hb⟩
 have HB1 : Hid (Below w.heap.size w w1) := HB.out.trans (hb.mono HB.out.size)
 obtain ⟨ao, cap, rfl, hg⟩ := row_forms ho
 obtain ⟨g, rfl⟩ := hg (by decide)
 have HO : Hid (Own w1 wx.heap.size (.slice (some ⟨g, 0, none⟩) 22 cap) fixB) := ho
 clear ho hb hg HC HC' HB Hwx
 rw [show fixB.length = 22 from rfl]
 have c0 : w1.cell? ⟨g, 0, none⟩ = some (.int .u8 77) := (HO.out.at rfl 0 (by decide)).1
 have c4 : w1.cell? ⟨g, 4, none⟩ = some (.int .u8 13) := (HO.out.at rfl 4 (by decide)).1
 have c12 : w1.cell? ⟨g, 12, none⟩ = some (.int .u8 2) := (HO.out.at rfl 12 (by decide)).1
 have c13 : w1.cell? ⟨g, 13, none⟩ = some (.int .u8 1) := (HO.out.at rfl 13 (by decide)).1
 have c14 : w1.cell? ⟨g, 14, none⟩ = some (.int .u8 4) := (HO.out.at rfl 14 (by decide)).1
 have c17 : w1.cell? ⟨g, 17, none⟩ = some (.int .u8 97) := (HO.out.at rfl 17 (by decide)).1
 obtain ⟨w2, Hw2⟩ : ∃ x, Hid (x = w1.alloc (.cells #[.int .u8 49, .int .u8 50, .int .u8 51, .int .u8 52, .int .u8 53, .int .u8 54, .int .u8 55, .int .u8 56, .int .u8 57] 5 (9, 10))) := ⟨_, rfl⟩
 have hcv : (convert 50 50 (.slice (some ⟨w1.heap.size, 0, none⟩) 9 9)).run Tryz.prog (w1.alloc (.cells #[.int .u8 49, .int .u8 50, .int .u8 51, .int .u8 52, .int .u8 53, .int .u8 54, .int .u8 55, .int .u8 56, .int .u8 57] 5)) = .ok (.slice (some ⟨w1.heap.size, 0, none⟩) 9 9) w2 := by rw [Hw2.out]; exact Lib.run_convert_bytes_const (P := Tryz.prog) w1 50 5 _ 9 9 Tryz.underlying50 Tryz.underlying5
 have HB2 : Hid (Below w.heap.size w w2) := by rw [Hw2.out]; exact HB1.out.alloc HB1.out.size _
 have HSM : Hid (Calls Tryz.prog 13 #[.slice (some ⟨w1.heap.size, 0, none⟩) 9 9] w2 fun e w' => e = .returned (.int .u32 3421780262) ∧ w' = w2) := by
  have := sum_calls (some ⟨w1.heap.size, 0, none⟩) 9 [49, 50, 51, 52, 53, 54, 55, 56, 57] w2 (by decide) (by
   intro _
   refine ⟨w1.heap.size, 0, rfl, fun j u hj => ?_⟩
   rw [Hw2.out, Nat.zero_add, World.cell?_alloc_mark]
   simpa [bs] using hj)
  rw [fix_sum] at this
  exact this
 go_wp2_with fail
 refine HSM.out.mono ?_
 rintro e w3 ⟨rfl, rfl⟩
 clear hcv HSM Hw2
 go_wp2
 go_ret
 exact ⟨rfl, HB2.out⟩
end Go.Proofs.YthgcnmilaifkoaaGreatDoor

/- Layer 13 (journal): the document's Sum. -/
namespace Go.Proofs.YthgcnmilaifkoaaGreatDoor
open Go.RowKit
set_option linter.unusedVariables false

theorem xor_half {s c : Nat} (hs : s < 4294967296) : (if s % 2 ≠ c % 2 then (s / 2) ^^^ 3988292384 else s / 2) < 4294967296 := by
 split
 ·have := Nat.xor_lt_two_pow (n := 32) (x := s / 2) (y := 3988292384) (by omega) (by omega)
  omega
 ·omega

set_option maxRecDepth 100000 in
set_option maxHeartbeats 1000000 in
theorem refSum_calls (ao : Option Addr) (cap : Nat) (l : List UInt8) (w : World) (hl : l.length ≤ 140737488355328) (h : BAt w ao l) :
  Calls Tryz.prog 49 #[.slice ao l.length cap] w fun e w' => e = .returned (.int .u32 (sumB l)) ∧ w' = w := by
 go_enter Tryz.func49, Tryz.ntmps49
 go_wp2
 go_loopw [3, 10] (fun s i wr => ∃ k : Nat, k ≤ l.length ∧ i = .int .i64 k ∧ s = .int .u32 (crcs 4294967295 (l.take k) : Nat) ∧ wr = w) (fun _ i _ => l.length - (intOf i).toNat)
 case atStart => exact ⟨0, Nat.zero_le _, rfl, by simp [crcs], rfl⟩
 case round =>
  obtain ⟨k, hk, rfl, rfl, rfl⟩ := hrel
  obtain ⟨t, Ht⟩ : ∃ t, Hid (t = crcs 4294967295 (l.take k)) := ⟨_, rfl⟩
  have ht : t < 4294967296 := by rw [Ht.out]; exact crcs_lt _ (by omega)
  rw [← Ht.out]
  by_cases hlt : k < l.length
  ·obtain ⟨b, off, rfl, hc⟩ := h.at k hlt
   obtain ⟨c, Hc⟩ : ∃ c, Hid (c = l[k]'hlt) := ⟨_, rfl⟩
   rw [← Hc.out] at hc
   have hcl := byte_le c
   have HN : Hid (crcs 4294967295 (l.take (k + 1)) = crcByte t c) := by
    show _ = _
    rw [list_take_snoc l k hlt, crcs_snoc, ← Ht.out, ← Hc.out]
   clear Ht Hc
   go_wp2
   clear hc
   go_loopw [3, 5, 6] (fun s cc j wr' => ∃ (m y d : Nat), m ≤ 8 ∧ j = .int .i64 m ∧ s = .int .u32 (y : Nat) ∧ cc = .int .u8 (d : Nat) ∧ y < 4294967296 ∧ d * 2 ^ m ≤ 255 ∧ Hid (y ^^^ d = crcN m (t ^^^ c.toNat)) ∧ wr' = wr) (fun _ _ j _ => 8 - (intOf j).toNat)
   case atStart => exact ⟨0, t, c.toNat, Nat.zero_le _, rfl, rfl, rfl, ht, by have := c.toNat_lt; omega, rfl, rfl⟩
   case round =>
    obtain ⟨m, y, d, hm, rfl, rfl, rfl, hy, hd, Hy, rfl⟩ := hrel
    have hd2 : d ≤ 255 := Nat.le_trans (Nat.le_mul_of_pos_right d (Nat.two_pow_pos m)) hd
    by_cases hm8 : m < 8
    ·have HD : Hid (d / 2 * 2 ^ (m + 1) ≤ 255) := by
      have h1 : d / 2 * 2 ^ (m + 1) ≤ d * 2 ^ m := by
       rw [Nat.pow_succ, Nat.mul_comm (2 ^ m), ← Nat.mul_assoc]
       exact Nat.mul_le_mul_right _ (by omega)
      exact Nat.le_trans h1 hd
     have HC : Hid ((if y % 2 ≠ d % 2 then (y / 2) ^^^ 3988292384 else y / 2) ^^^ (d / 2) = crcN (m + 1) (t ^^^ c.toNat)) := by
      show _ = _
      rw [crc_ref, Hy.out]
      rfl
     have HL : Hid ((if y % 2 ≠ d % 2 then (y / 2) ^^^ 3988292384 else y / 2) < 4294967296) := xor_half hy
     have hx := u32_xor_nat (y / 2) 3988292384 (by omega) (by omega)
     clear hd
     by_cases hb : y % 2 = d % 2
     ·simp only [hb, ne_eq, not_true_eq_false, if_false] at HC HL
      have hq : (((y : Int) % 2) != ((d : Int) % 2)) = false := by simp; omega
      go_wp2
      go_roundw
      case rel => exact ⟨m + 1, y / 2, d / 2, by omega, by go_num, by congr 1, by congr 1, HL.out, HD.out, HC, by trivial⟩
      case measure => simp [intOf]; omega
     ·simp only [hb, ne_eq, not_false_eq_true, if_true] at HC HL
      have hq : (((y : Int) % 2) != ((d : Int) % 2)) = true := by simp; omega
      have HX : Hid (bits .xor .u32 ((y : Int) / 2) 3988292384 = ((y / 2 ^^^ 3988292384 : Nat) : Int)) := hx
      clear hx
      go_wp2
      go_roundw
      case rel => exact ⟨m + 1, _, d / 2, by omega, by go_num, congrArg (Value.int .u32) HX.out, by congr 1, HL.out, HD.out, HC, by trivial⟩
      case measure => simp [intOf]; omega
    ·obtain rfl : m = 8 := by omega
     have HE : Hid (y = crcByte t c) := by
      show _ = _
      obtain rfl : d = 0 := by omega
      have := Hy.out
      rw [Nat.xor_zero] at this
      exact this
     go_wp2
     go_roundw
     case rel => exact ⟨k + 1, by omega, by go_num, by rw [HN.out, HE.out], by trivial⟩
     case measure => simp [intOf]; omega
  ·have HE : Hid (t = crcs 4294967295 l) := by show _ = _; rw [Ht.out, List.take_of_length_le (by omega)]
   go_wp2
   go_ret
   refine ⟨?_, rfl⟩
   show Ending.returned (.int .u32 (4294967295 - (t : Int))) = _
   have h2 : (4294967295 - (t : Int)) = ((sumB l : Nat) : Int) := by
    unfold sumB
    rw [← HE.out]
    omega
   rw [h2]
end Go.Proofs.YthgcnmilaifkoaaGreatDoor

/- Layer 13 (journal): the document's Same. -/
namespace Go.Proofs.YthgcnmilaifkoaaGreatDoor
open Go.RowKit
set_option linter.unusedVariables false

theorem same_no {l m : List UInt8} {k : Nat} (h1 : k < l.length) (h2 : k < m.length) (h : l[k] ≠ m[k]) : decide (l = m) = false := by
 rw [decide_eq_false_iff_not]
 intro e
 subst e
 exact h rfl
theorem same_yes {l m : List UInt8} (hl : l.length = m.length) (h : ∀ i (h1 : i < l.length) (h2 : i < m.length), l[i] = m[i]) : l = m := List.ext_getElem hl fun i h1 h2 => h i h1 h2

set_option maxRecDepth 100000 in
set_option maxHeartbeats 1000000 in
theorem same_calls (ao bo : Option Addr) (ca cb : Nat) (l m : List UInt8) (w : World) (hl : l.length ≤ 140737488355328) (hm : m.length ≤ 140737488355328) (ha : BAt w ao l) (hb : BAt w bo m) :
  Calls Tryz.prog 21 #[.slice ao l.length ca, .slice bo m.length cb] w fun e w' => e = .returned (.bool (decide (l = m))) ∧ ∃ n, w' = w.drewN n := by
 obtain ⟨R, HR⟩ : ∃ R, Hid (R = decide (l = m)) := ⟨_, rfl⟩
 rw [← HR.out]
 by_cases hlen : l.length = m.length
 ·have hq : ((l.length : Int) != (m.length : Int)) = false := by simp; omega
  obtain ⟨n, Hn⟩ : ∃ n, Hid (n = m.length) := ⟨_, rfl⟩
  rw [← Hn.out] at hlen hm hq ⊢
  obtain ⟨n', Hn'⟩ : ∃ n', Hid (n' = l.length) := ⟨_, rfl⟩
  rw [← Hn'.out] at hlen hl hq ⊢
  subst hlen
  go_enter Tryz.func21, Tryz.ntmps21
  go_wp2
  go_loopw [13] (fun i wr => ∃ k : Nat, k ≤ n' ∧ i = .int .i64 k ∧ Hid (∀ j (h1 : j < l.length) (h2 : j < m.length), j < k → l[j] = m[j]) ∧ ∃ q, wr = w.drewN q) (fun i _ => n' - (intOf i).toNat)
  case atStart => exact ⟨0, Nat.zero_le _, rfl, fun _ _ _ h => absurd h (Nat.not_lt_zero _), 0, rfl⟩
  case round =>
   obtain ⟨k, hk, rfl, HS, hdq⟩ := hrel
   have HQ : Hid (∃ q, wr = w.drewN q) := hdq
   have hbw : Below w.heap.size w wr := by obtain ⟨q, rfl⟩ := hdq; exact below_draws w q
   have HQ2 : Hid (∀ n, ∃ q, wr.drewN n = w.drewN q) := by intro n; obtain ⟨q, rfl⟩ := hdq; exact ⟨_, World.drewN_drewN _ _ _⟩
   clear hdq
   by_cases hlt : k < n'
   ·have k1 : k < l.length := by rw [← Hn'.out]; exact hlt
    have k2 : k < m.length := by rw [← Hn.out]; exact hlt
    obtain ⟨b, off, rfl, hc⟩ := (ha.below hbw).at k k1
    obtain ⟨b2, off2, rfl, hc2⟩ := (hb.below hbw).at k k2
    obtain ⟨c, Hc⟩ : ∃ c, Hid (c = l[k]'k1) := ⟨_, rfl⟩
    obtain ⟨d, Hd⟩ : ∃ d, Hid (d = m[k]'k2) := ⟨_, rfl⟩
    rw [← Hc.out] at hc
    rw [← Hd.out] at hc2
    by_cases he : c = d
    ·have HS2 : Hid (∀ j (h1 : j < l.length) (h2 : j < m.length), j < k + 1 → l[j] = m[j]) := by
      intro j h1 h2 h3
      by_cases hj : j = k
      ·subst hj
       have := Hc.out.symm.trans (he.trans Hd.out)
       exact this
      ·exact HS.out j h1 h2 (by omega)
     clear Hc Hd HS k1 k2
     subst he
     have hqq : ((c.toNat : Int) != (c.toNat : Int)) = false := by simp
     go_wp2_with fail
     go_quiet (fail)
     go_wp2
     go_roundw
     case rel => exact ⟨k + 1, by omega, by go_num, HS2, HQ2.out _⟩
     case measure => simp [intOf]; omega
    ·have HF : Hid (R = false) := by
      show _ = _
      rw [HR.out]
      exact same_no k1 k2 (by rw [← Hc.out, ← Hd.out]; exact he)
     have hqq : ((c.toNat : Int) != (d.toNat : Int)) = true := by
      simp
      intro e
      exact he (UInt8.toNat_inj.1 (by omega))
     clear Hc Hd HS k1 k2
     go_wp2_with fail
     go_quiet (fail)
     go_wp2
     go_ret
     exact ⟨by rw [HF.out]; rfl, HQ2.out _⟩
   ·have HT : Hid (R = true) := by
     show _ = _
     rw [HR.out, decide_eq_true_eq]
     exact same_yes (by rw [← Hn.out, ← Hn'.out]) fun j h1 h2 => HS.out j h1 h2 (by rw [← Hn'.out] at h1; omega)
    go_wp2
    go_ret
    exact ⟨by rw [HT.out]; rfl, HQ.out⟩
 ·have HF : Hid (R = false) := by
   show _ = _
   rw [HR.out, decide_eq_false_iff_not]
   intro e
   subst e
   exact hlen rfl
  have hq : ((l.length : Int) != (m.length : Int)) = true := by simp; omega
  obtain ⟨n, Hn⟩ : ∃ n, Hid (n = m.length) := ⟨_, rfl⟩
  obtain ⟨n', Hn'⟩ : ∃ n', Hid (n' = l.length) := ⟨_, rfl⟩
  rw [← Hn.out] at hq ⊢
  rw [← Hn'.out] at hq ⊢
  clear hlen
  go_enter Tryz.func21, Tryz.ntmps21
  go_wp2
  go_ret
  exact ⟨by rw [HF.out]; rfl, 0, rfl⟩
end Go.Proofs.YthgcnmilaifkoaaGreatDoor

/- Layer 13 (journal): JournalSums, the walk. -/
namespace Go.Proofs.YthgcnmilaifkoaaGreatDoor
open Go.RowKit
set_option linter.unusedVariables false

theorem empty_own (w : World) : (w.alloc (.cells #[] 5)).ownsRow w.heap.size 5 1 (.slice (some ⟨w.heap.size, 0, none⟩) 0 0) 0 [] := World.ownsRow_lit (size := 1) w #[] 0 (Nat.le_refl _) (by unfold maxLen; omega) rfl
end Go.Proofs.YthgcnmilaifkoaaGreatDoor

/- Layer 13 (journal): the document's texts. -/
namespace Go.Proofs.YthgcnmilaifkoaaGreatDoor
open Go.RowKit
set_option linter.unusedVariables false

set_option maxRecDepth 100000 in
set_option maxHeartbeats 1000000 in
theorem rtexts_calls (ta : Option Addr) (tc : Nat) (ts : List ByteArray) (w : World) (hn : ts.length ≤ 1024) (ht : ∀ x ∈ ts, x.size ≤ 1048576) (hap : CellsAt w ta (ts.map Value.string)) :
  Calls Tryz.prog 65 #[.slice ta ts.length tc] w fun e w' => ∃ v', e = .returned v' ∧ Own w' w.heap.size v' (txtsB ts) ∧ Below w.heap.size w w' := by
 have HE : Hid (Own (w.alloc (.cells #[] 5)) w.heap.size (.slice (some ⟨w.heap.size, 0, none⟩) 0 0) []) := empty_own w
 have HB0 : Hid (Below w.heap.size w (w.alloc (.cells #[] 5))) := below_new w _
 go_enter Tryz.func65, Tryz.ntmps65
 go_wp2
 go_loopw [3, 9] (fun x i wr => ∃ k : Nat, k ≤ ts.length ∧ i = .int .i64 k ∧ Own wr w.heap.size x (txtsB (ts.take k)) ∧ Below w.heap.size w wr) (fun _ i _ => ts.length - (intOf i).toNat)
 case atStart => exact ⟨0, Nat.zero_le _, rfl, by simpa [txtsB] using HE.out, HB0.out⟩
 case round =>
  obtain ⟨k, hk, rfl, ho, hg⟩ := hrel
  have hsz := hg.size
  by_cases hlt : k < ts.length
  ·have hle : (txtsB (ts.take k)).length ≤ 1073742848 := by
    have := txtsB_take_le ts k 1048576 ht
    have h9 : k * 1048577 ≤ 1024 * 1048577 := Nat.mul_le_mul_right _ (by omega)
    omega
   obtain ⟨s, Hs⟩ : ∃ s, Hid (s = ts[k]'hlt) := ⟨_, rfl⟩
   have hss : s.size ≤ 1048576 := by rw [Hs.out]; exact ht _ (List.getElem_mem hlt)
   obtain ⟨b, off, rfl, hcell⟩ := (hap.below hg).str k hlt
   rw [← Hs.out] at hcell
   have HT : Hid (txtsB (ts.take (k + 1)) = txtsB (ts.take k) ++ [byteOf s.size] ++ s.data.toList) := by
    show _ = _
    rw [list_take_snoc ts k hlt, txtsB_snoc, ← Hs.out]
    simp [txtB]
   have HN : Hid (bs [byteOf s.size] = [.int .u8 ((s.size : Int) % 256)]) := by simp [bs, byteOf_val, Hid]
   clear Hs
   obtain ⟨p, Hp⟩ : ∃ p, Hid (p = txtsB (ts.take k)) := ⟨_, rfl⟩
   rw [← Hp.out] at ho hle HT
   clear Hp
   go_wp2_with (at_builtin; refine append_bytes _ rfl (.tmp 13) (.tmp 17) rfl w.heap.size _ _ rfl (ho.alloc _) ⟨wr.heap.size, 0, none⟩ 1 1 [byteOf s.size] rfl rfl (by intro j u hj; rw [HN.out] at hj; exact cells_new _ _ _ j u hj) (by omega) (by simp; omega) ?_)
   intro v1 w1 ho1 hg1
   have hg2 : Below w.heap.size w w1 := hg.trans (hg1.ofAlloc.toBelow hsz fun q hq => (ho.lt q hq).1)
   have hsz2 := hg2.size
   clear ho hg hg1 hcell
   have hle1 : (p ++ [byteOf s.size]).length ≤ 1073742849 := by simp only [List.length_append, List.length_cons, List.length_nil]; omega
   obtain ⟨p1, Hp1⟩ : ∃ p1, Hid (p1 = p ++ [byteOf s.size]) := ⟨_, rfl⟩
   rw [← Hp1.out] at ho1 hle1 HT
   clear Hp1
   go_wp2_with (at_builtin; refine append_text _ rfl (.tmp 19) (.tmp 20) rfl w.heap.size _ _ rfl ho1 s rfl (by omega) (by omega) ?_)
   intro v2 w2 ho2 hg3
   have hg4 : Below w.heap.size w w2 := hg2.trans (hg3.toBelow hsz2 fun q hq => (ho1.lt q hq).1)
   clear ho1 hg2 hg3
   go_wp2
   go_roundw
   case rel => exact ⟨k + 1, by omega, by go_num, by rw [HT.out]; exact ho2, hg4⟩
   case measure => simp [intOf]; omega
  ·obtain rfl : k = ts.length := by omega
   go_wp2
   go_ret
   exact ⟨_, rfl, by rw [List.take_of_length_le (by omega)] at ho; exact ho, hg⟩
end Go.Proofs.YthgcnmilaifkoaaGreatDoor

/- Layer 13 (journal): the document's op: small facts. -/
namespace Go.Proofs.YthgcnmilaifkoaaGreatDoor
open Go.RowKit
set_option linter.unusedVariables false

theorem name_it {A : Type} (x : A) : ∃ y, Hid (y = x) := ⟨x, rfl⟩
theorem rtexts_lit (ts : List ByteArray) (g n c : Nat) (cs : Array Value) (W : World) (hg : g = W.heap.size) (hn : ts.length = n) (hcs : cs = (ts.map Value.string).toArray) (hk : n ≤ 1024) (ht : ∀ x ∈ ts, x.size ≤ 1048576) :
  Calls Tryz.prog 65 #[.slice (some ⟨g, 0, none⟩) n c] (W.alloc (.cells cs 9)) fun e w' => ∃ v', e = .returned v' ∧ Own w' W.heap.size v' (txtsB ts) ∧ Below W.heap.size W w' := by
 subst hg hn hcs
 refine (rtexts_calls (some ⟨W.heap.size, 0, none⟩) c ts _ hk ht ?_).mono ?_
 ·intro hne
  refine ⟨W.heap.size, 0, rfl, fun j u hj => ?_⟩
  rw [Nat.zero_add, World.cell?_alloc_mark]
  simpa using hj
 ·rintro e w' ⟨v', rfl, h1, h2⟩
  have hz : W.heap.size ≤ (W.alloc (.cells (ts.map Value.string).toArray 9)).heap.size := by rw [size_new]; omega
  exact ⟨v', rfl, row_weak hz h1, (below_new W _).trans (h2.mono hz)⟩
theorem cells_lit (W : World) (xs : List Value) (t : TypeId) : CellsAt (W.alloc (.cells xs.toArray t)) (some ⟨W.heap.size, 0, none⟩) xs := by
 intro _
 refine ⟨W.heap.size, 0, rfl, fun j u hj => ?_⟩
 rw [Nat.zero_add, World.cell?_alloc_mark]
 simpa using hj
theorem blk_ne {w : World} {b g B : Nat} {e T : TypeId} {size n c : Nat} {xs : List Value} {cs : Array Value} (hb : Blk w b cs T) (h : w.ownsRow B e size (.slice (some ⟨g, 0, none⟩) n c) n xs) (hT : T ≠ e) : b ≠ g := by
 intro e'
 subst e'
 rcases h.2 with ⟨e1, _⟩ | ⟨g', cap, cur, e1, h2, h3, h4⟩
 ·cases e1
 ·simp only [Value.slice.injEq, Option.some.injEq, Addr.mk.injEq] at e1
  obtain ⟨⟨rfl, _⟩, _⟩ := e1
  have := hb.symm.trans h3
  simp only [Option.some.injEq, Obj.cells.injEq] at this
  exact hT this.2.1
end Go.Proofs.YthgcnmilaifkoaaGreatDoor
