import Derived.Test.YthgcnmilaifkoaaGreatDoorKLaw
import Derived.Test.YthgcnmilaifkoaaGreatDoorRcSplit
import Derived.Test.YthgcnmilaifkoaaGreatDoorRcAddr
import Derived.Test.YthgcnmilaifkoaaGreatDoorShelf
import Derived.Sort.OwnSorted
import Derived.Test.YthgcnmilaifkoaaGreatDoorRcLabel
/- Layer 9 (records): FixNode. -/
namespace Go.Proofs.YthgcnmilaifkoaaGreatDoor
open Go.RowKit
set_option linter.unusedVariables false

structure Nd where
 name : ByteArray
 addr : ByteArray
 made : Int
 changed : Int
def Nd.v (n : Nd) : Array Value := #[.string n.name, .string n.addr, .int .u64 n.made, .int .u64 n.changed]
def nodeZ : Nd := ⟨⟨#[]⟩, ⟨#[]⟩, 0, 0⟩
def nodeE (n : Nd) : Int := orE (labE n.name) (adrE n.addr)
def fixN (n : Nd) : Nd := if nodeE n = 0 then ⟨labT n.name, n.addr, 0, 0⟩ else nodeZ
theorem fixN_yes {n : Nd} (h : nodeE n = 0) : fixN n = ⟨labT n.name, n.addr, 0, 0⟩ := if_pos h
theorem fixN_no {n : Nd} (h : ¬ nodeE n = 0) : fixN n = nodeZ := if_neg h
theorem info_node : (Tryz.prog.info? 43).map (·.size) = some 4 := by kernel_rfl
theorem load_node {w : World} {g : Nat} {cs : Array Value} (h : Blk w g cs 43) (hs : cs.size = 4) : (loadVar 43 ⟨g, 0, none⟩).run Tryz.prog w = .ok (.agg cs) w :=
 run_loadVar_row (P := Tryz.prog) w g 43 43 cs (0, 0) _ h Tryz.underlying43 rfl (by rw [info_node, hs])

set_option maxRecDepth 100000 in
set_option maxHeartbeats 2000000 in
theorem fixNode_calls (n : Nd) (w : World) (h1 : n.name.size ≤ 140737488351296) (h2 : n.addr.size ≤ 140737488351296) (hv : Vs w) :
  Calls Tryz.prog 66 #[.agg n.v] w fun e w' => e = .returned (.tuple #[.agg (fixN n).v, .int .i64 (nodeE n)]) ∧ Below w.heap.size w w' := by
 obtain ⟨ne, Hne⟩ : ∃ ne, Hid (ne = nodeE n) := ⟨_, rfl⟩
 have HY : Hid (ne = 0 → (fixN n).v = #[.string (labT n.name), .string n.addr, .int .u64 0, .int .u64 0]) := fun h => by rw [fixN_yes (by rw [← Hne.out]; exact h)]; rfl
 have HN : Hid (¬ ne = 0 → (fixN n).v = #[.string ⟨#[]⟩, .string ⟨#[]⟩, .int .u64 0, .int .u64 0]) := fun h => by rw [fixN_no (by rw [← Hne.out]; exact h)]; rfl
 have HE : Hid (ne = orE (labE n.name) (adrE n.addr)) := Hne.out
 rw [← Hne.out]
 have HV : Hid (Vs w) := hv
 clear hv Hne
 obtain ⟨nm, ad, mk, ch⟩ := n
 simp only [Nd.v] at *
 have HA := adrA ad
 obtain ⟨a0, a1, a2, a3, haA⟩ : ∃ a b c d, adrA ad = #[.agg #[.int .u8 a, .int .u8 b, .int .u8 c, .int .u8 d], .int .i64 (adrE ad)] := ⟨_, _, _, _, rfl⟩
 have HAd : Hid (∀ w, Vs w → Calls Tryz.prog 76 #[.string ad] w fun e w' => e = .returned (.tuple #[.agg #[.int .u8 a0, .int .u8 a1, .int .u8 a2, .int .u8 a3], .int .i64 (adrE ad)]) ∧ Below w.heap.size w w') := fun w hv => by
  have := addr_calls ad w h2 hv
  rw [haA] at this
  exact this
 clear haA HA
 obtain ⟨w2, Hw2⟩ : ∃ w2, Hid (w2 = (w.alloc (.cells #[.string nm, .string ad, .int .u64 mk, .int .u64 ch] 43)).alloc (.cells #[.string ⟨#[]⟩, .string ⟨#[]⟩, .int .u64 0, .int .u64 0] 43)) := ⟨_, rfl⟩
 have hz : (w.alloc (.cells #[.string nm, .string ad, .int .u64 mk, .int .u64 ch] 43)).heap.size = w.heap.size + 1 := size_new _ _
 have HX : Hid (Blk w2 w.heap.size #[.string nm, .string ad, .int .u64 mk, .int .u64 ch] 43) := by rw [Hw2.out]; exact (Blk.new _ _ _).alloc _
 have HR : Hid (Blk w2 (w.heap.size + 1) #[.string ⟨#[]⟩, .string ⟨#[]⟩, .int .u64 0, .int .u64 0] 43) := by rw [Hw2.out, ← hz]; exact Blk.new _ _ _
 have HB2 : Hid (Below w.heap.size w w2) := by rw [Hw2.out]; exact (below_new w _).alloc (by rw [hz]; omega) _
 clear hz
 go_enter Tryz.func66, Tryz.ntmps66
 go_wp2_with fail
 rw [← Hw2.out]
 clear Hw2
 refine (label_calls nm w2 h1).mono ?_
 rintro e w3 ⟨rfl, hb3⟩
 have HX3 : Hid (Blk w3 w.heap.size #[.string nm, .string ad, .int .u64 mk, .int .u64 ch] 43) := HX.out.below hb3
 have HR3 : Hid (Blk w3 (w.heap.size + 1) #[.string ⟨#[]⟩, .string ⟨#[]⟩, .int .u64 0, .int .u64 0] 43) := HR.out.below hb3
 have HB3 : Hid (Below w.heap.size w w3) := HB2.out.trans (hb3.mono HB2.out.size)
 have c1 := HX3.out.cell 1 rfl
 clear hb3 HX HR HB2
 go_wp2_with fail
 refine (HAd.out w3 (HV.out.stay HB3.out)).mono ?_
 rintro e w4 ⟨rfl, hb4⟩
 have HX4 : Hid (Blk w4 w.heap.size #[.string nm, .string ad, .int .u64 mk, .int .u64 ch] 43) := HX3.out.below hb4
 have HR4 : Hid (Blk w4 (w.heap.size + 1) #[.string ⟨#[]⟩, .string ⟨#[]⟩, .int .u64 0, .int .u64 0] 43) := HR3.out.below hb4
 have HB4 : Hid (Below w.heap.size w w4) := HB3.out.trans (hb4.mono HB3.out.size)
 clear hb4 HX3 HR3 HB3 c1
 go_wp2_with fail
 obtain ⟨w5, Hw5⟩ : ∃ w5, Hid (w5 = w4.alloc (.cells #[.int .u8 a0, .int .u8 a1, .int .u8 a2, .int .u8 a3] 92)) := ⟨_, rfl⟩
 have HX5 : Hid (Blk w5 w.heap.size #[.string nm, .string ad, .int .u64 mk, .int .u64 ch] 43) := by rw [Hw5.out]; exact HX4.out.alloc _
 have HR5 : Hid (Blk w5 (w.heap.size + 1) #[.string ⟨#[]⟩, .string ⟨#[]⟩, .int .u64 0, .int .u64 0] 43) := by rw [Hw5.out]; exact HR4.out.alloc _
 have HB5 : Hid (Below w.heap.size w w5) := by rw [Hw5.out]; exact HB4.out.alloc HB4.out.size _
 have hz5 : w4.heap.size + 1 = w5.heap.size := by rw [Hw5.out]; exact (size_new _ _).symm
 clear HX4 HR4
 rw [← Hw5.out]
 clear Hw5
 refine (first2_calls (labE nm) (adrE ad) _ w5 hz5).mono ?_
 rintro e w6 ⟨he, hw6⟩
 rw [show orE (labE nm) (adrE ad) = ne from HE.out.symm] at he
 subst he
 have HX6 : Hid (Blk w6 w.heap.size #[.string nm, .string ad, .int .u64 mk, .int .u64 ch] 43) := by rw [hw6]; exact HX5.out.alloc _
 have HR6 : Hid (Blk w6 (w.heap.size + 1) #[.string ⟨#[]⟩, .string ⟨#[]⟩, .int .u64 0, .int .u64 0] 43) := by rw [hw6]; exact HR5.out.alloc _
 have HB6 : Hid (Below w.heap.size w w6) := by rw [hw6]; exact HB5.out.alloc HB5.out.size _
 clear hw6 HX5 HR5 HB5 HB4 hz5
 by_cases h0 : ne = 0
 ·have HQ : Hid (_ = _) := HY.out h0
  have q : (ne != 0) = false := by simpa using h0
  have H0 : Hid (0 = ne) := h0.symm
  have c1 := HX6.out.cell 1 rfl
  clear h0 HY HN
  go_wp2_with fail
  refine (rclone_calls ad w6 h2).mono ?_
  rintro e w7 ⟨rfl, hb7⟩
  have HR7 : Hid (Blk w7 (w.heap.size + 1) #[.string ⟨#[]⟩, .string ⟨#[]⟩, .int .u64 0, .int .u64 0] 43) := HR6.out.below hb7
  have HB7 : Hid (Below w.heap.size w w7) := HB6.out.trans (hb7.mono HB6.out.size)
  have r0 := HR7.out.cell 0 rfl
  have r1 := HR7.out.cell 1 rfl
  have r2 := HR7.out.cell 2 rfl
  have r3 := HR7.out.cell 3 rfl
  have z := HR7.out.open
  clear hb7 c1
  go_wp2
  exact ret_box (g := w.heap.size + 1) (e := .int .i64 0) rfl rfl rfl rfl (load_node (putC_all (l := [.string (labT nm), .string ad, .int .u64 0, .int .u64 0]) HR7.out rfl) rfl) ⟨ret_agg HQ.out.symm H0.out, putC_below [.string (labT nm), .string ad, .int .u64 0, .int .u64 0] w7 0 HB7.out (by omega)⟩
 ·have HQ : Hid (_ = _) := HN.out h0
  have q : (ne != 0) = true := by simpa using h0
  have r0 := HR6.out.cell 0 rfl
  have r1 := HR6.out.cell 1 rfl
  have r2 := HR6.out.cell 2 rfl
  have r3 := HR6.out.cell 3 rfl
  have z := HR6.out.open
  clear HY HN
  go_wp2
  exact ret_box (g := w.heap.size + 1) (e := .int .i64 ne) rfl rfl rfl rfl (load_node (putC_all (l := [.string ⟨#[]⟩, .string ⟨#[]⟩, .int .u64 0, .int .u64 0]) HR6.out rfl) rfl) ⟨ret_agg HQ.out.symm rfl, putC_below [.string ⟨#[]⟩, .string ⟨#[]⟩, .int .u64 0, .int .u64 0] w6 0 HB6.out (by omega)⟩
end Go.Proofs.YthgcnmilaifkoaaGreatDoor

/- slices.Sort of a call's own texts. -/
namespace Go.Proofs.YthgcnmilaifkoaaGreatDoor
open Go.RowKit
set_option linter.unusedVariables false

abbrev encS : List UInt8 → Value := fun l => Value.string ⟨l.toArray⟩
theorem sort_calls (g cap B : Nat) (ks : List (List UInt8)) (w : World) (hl : ks.length < 4611686018427387904) (h : w.ownsRow B 9 1 (.slice (some ⟨g, 0, none⟩) ks.length cap) ks.length (ks.map encS)) :
  Calls Tryz.prog 90 #[.slice (some ⟨g, 0, none⟩) ks.length cap] w fun e w' => e = .returned (.tuple #[]) ∧ w'.ownsRow B 9 1 (.slice (some ⟨g, 0, none⟩) ks.length cap) ks.length ((ks.mergeSort fun x y => decide (x ≤ y)).map encS) ∧ Grew w w' (.slice (some ⟨g, 0, none⟩) ks.length cap) (.slice (some ⟨g, 0, none⟩) ks.length cap) := by
 rcases h.2 with ⟨he, _⟩ | ⟨g', cap', cur, he, hb, hg, h1, h2, h3, h4⟩
 ·cases he
 ·simp only [Value.slice.injEq, Option.some.injEq, Addr.mk.injEq] at he
  obtain ⟨⟨rfl, _⟩, _, rfl⟩ := he
  refine (Tryz.slices_Sort_string g 0 cap ks w (holds_of_block hg (by rw [Nat.mul_one] at h4; exact h4)) (Array.getElem?_eq_some_iff.1 hg).1 (by omega)).mono ?_
  rintro e w' ⟨rfl, n, os, rfl⟩
  exact ⟨rfl, ownsRow_sorted (by simp) hb hg h1 h2 h3, ⟨grownBy_sorted _, fun k hk => .inl hk⟩⟩
end Go.Proofs.YthgcnmilaifkoaaGreatDoor

/- Layer 7 (rows): slices.Sort and slices.Compact of a call's own texts. -/
namespace Go.Proofs.YthgcnmilaifkoaaGreatDoor
open Go.RowKit
set_option linter.unusedVariables false

theorem row_short {w : World} {B g n cap : Nat} {e : TypeId} {l1 l2 : List Value} (h : w.ownsRow B e 1 (.slice (some ⟨g, 0, none⟩) n cap) n (l1 ++ l2)) : w.ownsRow B e 1 (.slice (some ⟨g, 0, none⟩) l1.length cap) l1.length l1 := by
 refine ⟨by simp, ?_⟩
 have hl := h.1
 rw [List.length_append, Nat.mul_one] at hl
 rcases h.2 with ⟨he, _⟩ | ⟨g', cap', cur, he, hb, hg, h1, h2, h3, h4⟩
 ·cases he
 ·simp only [Value.slice.injEq] at he
  obtain ⟨ha, _, rfl⟩ := he
  refine .inr ⟨g', cap, cur, by rw [ha], hb, hg, by omega, h2, h3, ?_⟩
  have h5 : (cur.toList.take (n * 1)).take l1.length = l1 := by rw [h4, List.take_left']; rfl
  rw [List.take_take, Nat.mul_one, show min l1.length n = l1.length by omega] at h5
  rw [Nat.mul_one]
  exact h5
theorem compactUpTo_le (d : Array (List UInt8)) (m : Nat) : (Lib.compactUpTo d m).length ≤ m := by
 induction m with
 | zero => simp [Lib.compactUpTo]
 | succ m ih =>
  rw [Lib.compactUpTo_succ, List.length_append]
  split <;> simp <;> omega
theorem compact_le (zs : List (List UInt8)) : (Lib.compact zs).length ≤ zs.length := by
 unfold Lib.compact
 exact compactUpTo_le _ _

theorem compact_calls (g cap B : Nat) (zs : List (List UInt8)) (w : World) (hl : zs.length ≤ 100000) (h : w.ownsRow B 9 1 (.slice (some ⟨g, 0, none⟩) zs.length cap) zs.length (zs.map encS)) :
  Calls Tryz.prog 91 #[.slice (some ⟨g, 0, none⟩) zs.length cap] w fun e w' => e = .returned (.slice (some ⟨g, 0, none⟩) (Lib.compact zs).length cap) ∧ w'.ownsRow B 9 1 (.slice (some ⟨g, 0, none⟩) (Lib.compact zs).length cap) (Lib.compact zs).length ((Lib.compact zs).map encS) ∧ Grew w w' (.slice (some ⟨g, 0, none⟩) zs.length cap) (.slice (some ⟨g, 0, none⟩) zs.length cap) := by
 rcases h.2 with ⟨he, _⟩ | ⟨g', cap', cur, he, hb, hg, h1, h2, h3, h4⟩
 ·cases he
 ·simp only [Value.slice.injEq, Option.some.injEq, Addr.mk.injEq] at he
  obtain ⟨⟨rfl, _⟩, _, rfl⟩ := he
  refine (Tryz.slices_Compact_string g 0 cap zs w (holds_of_block hg (by rw [Nat.mul_one] at h4; exact h4)) (by omega) h1).mono ?_
  rintro e w' ⟨rfl, q, rfl⟩
  have hle := compact_le zs
  have hr := ownsRow_sorted (n := q) (os := #[]) (ts := Lib.compact zs ++ List.replicate (zs.length - (Lib.compact zs).length) []) (ss := zs) (by simp; omega) hb hg h1 h2 h3
  have hgr := grownBy_sorted (w := w) (g := g) (n := q) (os := #[]) (Lib.compact zs ++ List.replicate (zs.length - (Lib.compact zs).length) []).toArray
  rw [Sort.grow_empty] at hr hgr
  rw [List.map_append] at hr
  have hs := row_short hr
  rw [List.length_map] at hs
  exact ⟨rfl, hs, ⟨hgr, fun k hk => .inl hk⟩⟩
end Go.Proofs.YthgcnmilaifkoaaGreatDoor

/- Layer 9 (records): fixTags. -/
namespace Go.Proofs.YthgcnmilaifkoaaGreatDoor
open Go.RowKit
set_option linter.unusedVariables false

abbrev lowL (x : ByteArray) : List UInt8 := (lowS x).data.toList
def tagsOk (l : List ByteArray) : Prop := l.length ≤ 16 ∧ ∀ x ∈ l, labB x = true
instance (l : List ByteArray) : Decidable (tagsOk l) := by unfold tagsOk; infer_instance
def tagsE (l : List ByteArray) : Int := if tagsOk l then 0 else 93
/-- The tags in small letters, rising, each once. -/
def tagsL (l : List ByteArray) : List (List UInt8) := if tagsOk l then Lib.compact ((l.map lowL).mergeSort fun x y => decide (x ≤ y)) else []
theorem tags_yes {l : List ByteArray} (h : tagsOk l) : tagsE l = 0 ∧ tagsL l = Lib.compact ((l.map lowL).mergeSort fun x y => decide (x ≤ y)) := ⟨if_pos h, if_pos h⟩
theorem tags_no {l : List ByteArray} (h : ¬ tagsOk l) : tagsE l = 93 ∧ tagsL l = [] := ⟨if_neg h, if_neg h⟩
/-- What fixTags leaves: the tags in memory of their own. -/
def TagsA (w : World) (l : List ByteArray) (e : Ending) (w' : World) : Prop := ∃ v, e = .returned (.tuple #[v, .int .i64 (tagsE l)]) ∧ w'.ownsRow w.heap.size 9 1 v (tagsL l).length ((tagsL l).map encS) ∧ Below w.heap.size w w'
theorem tags_bad {w w' : World} {l : List ByteArray} (h : ¬ tagsOk l) (hb : Below w.heap.size w w') : TagsA w l (.returned (.tuple #[.slice none 0 0, .int .i64 93])) w' := by
 refine ⟨_, by rw [(tags_no h).1], ?_, hb⟩
 rw [(tags_no h).2]
 exact World.ownsRow_nil _ _ _ _
/-- The first k tags, lowered, are the call's own. -/
structure TgI (w : World) (l : List ByteArray) (k : Nat) (v : Value) (wr : World) : Prop where
 own : wr.ownsRow w.heap.size 9 1 v k (((l.take k).map lowL).map encS)
 below : Below w.heap.size w wr
 good : ∀ j (h : j < l.length), j < k → labB l[j] = true
theorem take_enc (l : List ByteArray) (k : Nat) (hk : k < l.length) : ((l.take (k + 1)).map lowL).map encS = ((l.take k).map lowL).map encS ++ [.string (lowS l[k])] := by
 rw [List.take_succ_eq_append_getElem hk, List.map_append, List.map_append]
 rfl

set_option maxRecDepth 100000 in
set_option maxHeartbeats 2000000 in
theorem fixTags_calls (ao : Option Addr) (cap : Nat) (l : List ByteArray) (w : World) (hl : l.length ≤ 8796093022208) (hs : ∀ x ∈ l, x.size ≤ 140737488351296) (hc : CellsAt w ao (l.map Value.string)) :
  Calls Tryz.prog 79 #[.slice ao l.length cap] w fun e w' => TagsA w l e w' := by
 have HC : Hid (CellsAt w ao (l.map Value.string)) := hc
 have HS : Hid (∀ x ∈ l, x.size ≤ 140737488351296) := hs
 clear hc hs
 by_cases h16 : l.length ≤ 16
 case neg =>
  have q : (16 : Int) < (l.length : Int) := by omega
  have HN : Hid (¬ tagsOk l) := fun h => h16 h.1
  go_enter Tryz.func79, Tryz.ntmps79
  go_wp2
  go_ret2
  exact tags_bad HN.out (Below.refl _ _)
 have q : ¬ (16 : Int) < (l.length : Int) := by omega
 obtain ⟨n, Hn⟩ : ∃ n, Hid (n = l.length) := ⟨_, rfl⟩
 rw [← Hn.out] at h16 q hl ⊢
 go_enter Tryz.func79, Tryz.ntmps79
 go_wp2
 go_loopw [4, 14] (fun v i wr => ∃ (k : Nat) (a : Option Addr) (c : Nat), k ≤ n ∧ i = .int .i64 k ∧ v = .slice a k c ∧ Hid (TgI w l k (.slice a k c) wr)) (fun _ i _ => n - (intOf i).toNat)
 case atStart => exact ⟨0, none, 0, Nat.zero_le _, rfl, rfl, ⟨by simpa using World.ownsRow_nil _ _ _ _, Below.refl _ _, fun j _ h => by omega⟩⟩
 case round =>
  obtain ⟨k, a, c, hk, rfl, rfl, HI⟩ := hrel
  have hsz := HI.out.below.size
  by_cases hlt : k < n
  ·have hlt' : k < l.length := by rw [← Hn.out]; exact hlt
   obtain ⟨ab, af, rfl, c0⟩ := (HC.out.below HI.out.below).str k hlt'
   obtain ⟨x, Hx⟩ : ∃ x, Hid (x = l[k]) := ⟨l[k], rfl⟩
   have hxs : x.size ≤ 140737488351296 := by rw [Hx.out]; exact HS.out _ (List.getElem_mem hlt')
   rw [← Hx.out] at c0
   have hi0 : (0 : Int) ≤ (k : Int) := by omega
   have hi1 : (k : Int) < (n : Int) := by omega
   cases hb : labB x with
   | false =>
    have HN : Hid (¬ tagsOk l) := fun h => by have := h.2 l[k] (List.getElem_mem hlt'); rw [← Hx.out, hb] at this; cases this
    have HL : Hid (Calls Tryz.prog 69 #[.string x] wr fun e w' => e = .returned (.tuple #[.string ⟨#[]⟩, .int .i64 90]) ∧ Below wr.heap.size wr w') := by
     have := label_calls x wr hxs
     rw [(lab_no hb).1, (lab_no hb).2] at this
     exact this
    clear hb
    go_wp2_with fail
    refine HL.out.mono ?_
    rintro e w1 ⟨rfl, hb1⟩
    have HB1 : Hid (Below w.heap.size w w1) := HI.out.below.trans (hb1.mono hsz)
    clear hb1
    go_wp2
    go_ret2
    exact tags_bad HN.out HB1.out
   | true =>
    have HL : Hid (Calls Tryz.prog 69 #[.string x] wr fun e w' => e = .returned (.tuple #[.string (lowS x), .int .i64 0]) ∧ Below wr.heap.size wr w') := by
     have := label_calls x wr hxs
     rw [(lab_yes hb).1, (lab_yes hb).2] at this
     exact this
    have HG : Hid (∀ j (h : j < l.length), j < k + 1 → labB l[j] = true) := fun j hj hjk => by
     rcases Nat.lt_or_ge j k with h' | h'
     ·exact HI.out.good j hj h'
     ·obtain rfl : j = k := by omega
      rw [← Hx.out]; exact hb
    clear hb
    go_wp2_with fail
    refine HL.out.mono ?_
    rintro e w1 ⟨rfl, hb1⟩
    have HB1 : Hid (Below w.heap.size w w1) := HI.out.below.trans (hb1.mono hsz)
    obtain ⟨L, HLs⟩ : ∃ L, Hid (L = ((l.take k).map lowL).map encS) := ⟨_, rfl⟩
    have ho1 : w1.ownsRow w.heap.size 9 1 (.slice a k c) k L := by rw [HLs.out]; exact row_below HI.out.own hb1
    have hsz1 := HB1.out.size
    clear hb1 HL
    go_wp2_with (at_builtin; refine append_row _ rfl (.tmp 25) (.tmp 27) _ 9 _ 1 16 Tryz.underlying39 info_str rfl (by decide) rfl w.heap.size _ k _ rfl [.string (lowS x)] rfl (by simp [Value.oneCell']) _ _ rfl rfl rfl ho1 (by omega) (by omega) hsz1 ?_)
    intro v2 w2 ho2 hg2
    have HB2 : Hid (Below w.heap.size w w2) := HB1.out.trans (hg2.toBelow hsz1 fun j hj => (World.ownsRow.lt ho1 j hj).1)
    have HT : Hid (((l.take (k + 1)).map lowL).map encS = L ++ [.string (lowS x)]) := by rw [Hid, Hx.out, HLs.out]; exact take_enc l k hlt'
    rw [← HT.out] at ho2
    obtain ⟨a2, c2, rfl⟩ : ∃ a2 c2, v2 = .slice a2 (k + 1) c2 := by
     rcases ho2.2 with ⟨_, h0⟩ | ⟨g, cap, cur, rfl, _⟩
     ·omega
     ·exact ⟨_, _, rfl⟩
    have HI2 : Hid (TgI w l (k + 1) (.slice a2 (k + 1) c2) w2) := ⟨ho2, HB2.out, HG.out⟩
    clear ho1 ho2 hg2 HB1 HB2 HI
    go_wp2
    go_roundw
    case rel => exact ⟨k + 1, a2, c2, by omega, by go_num, rfl, HI2⟩
    case measure => simp [intOf]; omega
  ·obtain rfl : k = n := by omega
   have HO : Hid (tagsOk l) := ⟨by rw [← Hn.out]; exact h16, fun x hx => by
    obtain ⟨j, hj, rfl⟩ := List.getElem_of_mem hx
    exact HI.out.good j hj (by rw [Hn.out]; exact hj)⟩
   obtain ⟨ks, Hks⟩ : ∃ ks, Hid (ks = l.map lowL) := ⟨_, rfl⟩
   have HLk : Hid (ks.length = k) := by rw [Hid, Hks.out, List.length_map, Hn.out]
   have ho : wr.ownsRow w.heap.size 9 1 (.slice a k c) k (ks.map encS) := by
    have := HI.out.own
    rw [List.take_of_length_le (by rw [Hn.out]; exact Nat.le_refl _), ← Hks.out] at this
    exact this
   have HR : Hid (∀ v w', w'.ownsRow w.heap.size 9 1 v (Lib.compact (ks.mergeSort fun x y => decide (x ≤ y))).length ((Lib.compact (ks.mergeSort fun x y => decide (x ≤ y))).map encS) → Below w.heap.size w w' → TagsA w l (.returned (.tuple #[v, .int .i64 0])) w') := fun v w' h1 h2 => ⟨v, by rw [(tags_yes HO.out).1], by rw [(tags_yes HO.out).2, ← Hks.out]; exact h1, h2⟩
   have HB : Hid (Below w.heap.size w wr) := HI.out.below
   clear HI Hks
   rcases Nat.eq_zero_or_pos k with h0 | h0
   ·have hk0 : ks = [] := List.length_eq_zero_iff.1 (by rw [HLk.out]; exact h0)
    subst hk0
    subst h0
    have HF : Hid (TagsA w l (.returned (.tuple #[.slice a 0 c, .int .i64 0])) wr) := HR.out _ _ (by simpa [Lib.compact, Lib.compactUpTo] using ho) HB.out
    have HC1 : Hid (Calls Tryz.prog 90 #[.slice a 0 c] wr fun e w' => e = .returned (.tuple #[]) ∧ w' = wr) := Tryz.slices_Sort_string_none a c wr
    have HC2 : Hid (Calls Tryz.prog 91 #[.slice a 0 c] wr fun e w' => e = .returned (.slice a 0 c) ∧ w' = wr) := Tryz.slices_Compact_string_empty a c wr
    clear ho HR HC HO
    go_wp2_with fail
    refine HC1.out.mono ?_
    rintro e w1 ⟨rfl, hw⟩
    subst w1
    go_wp2_with fail
    refine HC2.out.mono ?_
    rintro e w1 ⟨rfl, hw⟩
    subst w1
    go_wp2
    go_ret2
    exact HF.out
   ·obtain ⟨g, rfl⟩ : ∃ g, a = some ⟨g, 0, none⟩ := by
     rcases ho.2 with ⟨_, h1⟩ | ⟨g, cap', cur, he, _⟩
     ·omega
     ·injection he with h1; exact ⟨g, h1⟩
    have hz := HLk.out
    subst hz
    have HSo : Hid (wr.ownsRow w.heap.size 9 1 (.slice (some ⟨g, 0, none⟩) ks.length c) ks.length (ks.map encS)) := ho
    have hgB : w.heap.size ≤ g := by
     rcases ho.2 with ⟨he, _⟩ | ⟨g', cap', cur, he, hb, _⟩
     ·cases he
     ·injection he with h1; injection h1 with h1; injection h1 with h1; rw [h1]; exact hb
    have HgB : Hid (w.heap.size ≤ g) := hgB
    clear ho hgB HC HO
    go_wp2_with fail
    refine (sort_calls g c w.heap.size ks wr (by omega) HSo.out).mono ?_
    rintro e w1 ⟨rfl, ho1, hg1⟩
    have HB1 : Hid (Below w.heap.size w w1) := HB.out.trans (hg1.toBelow HB.out.size fun j hj => (World.ownsRow.lt HSo.out j hj).1)
    obtain ⟨zs, Hzs⟩ : ∃ zs, Hid (zs = ks.mergeSort fun x y => decide (x ≤ y)) := ⟨_, rfl⟩
    have hzl : zs.length = ks.length := by rw [Hzs.out, List.length_mergeSort]
    have HO1 : Hid (w1.ownsRow w.heap.size 9 1 (.slice (some ⟨g, 0, none⟩) zs.length c) zs.length (zs.map encS)) := by rw [Hid, hzl, Hzs.out]; exact ho1
    rw [← Hzs.out] at HR
    have HC2 := compact_calls g c w.heap.size zs w1 (by omega) HO1.out
    rw [hzl] at HC2
    have HC2 : Hid (Calls Tryz.prog 91 #[.slice (some ⟨g, 0, none⟩) ks.length c] w1 fun e w' => e = .returned (.slice (some ⟨g, 0, none⟩) (Lib.compact zs).length c) ∧ w'.ownsRow w.heap.size 9 1 (.slice (some ⟨g, 0, none⟩) (Lib.compact zs).length c) (Lib.compact zs).length ((Lib.compact zs).map encS) ∧ Below w.heap.size w w') := HC2.mono fun e w' ⟨h1, h2, h3⟩ => ⟨h1, h2, HB1.out.trans (h3.toBelow HB1.out.size fun j hj => (World.ownsRow.lt ho1 j hj).1)⟩
    clear ho1 hg1 hzl
    go_wp2_with fail
    refine HC2.out.mono ?_
    rintro e w2 ⟨rfl, ho2, hb2⟩
    have HF : Hid _ := HR.out _ _ ho2 hb2
    clear ho2 hb2 HR
    go_wp2
    go_ret2
    exact HF.out
end Go.Proofs.YthgcnmilaifkoaaGreatDoor
