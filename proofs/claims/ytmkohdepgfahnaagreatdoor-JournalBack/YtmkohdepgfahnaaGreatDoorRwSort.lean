import Derived.Test.YtmkohdepgfahnaaGreatDoorRwLowR
import Derived.Test.YtmkohdepgfahnaaGreatDoorRcFix0
import Derived.Test.YtmkohdepgfahnaaGreatDoorRcAddr
import Derived.Test.YtmkohdepgfahnaaGreatDoorSBase
import Derived.Test.YtmkohdepgfahnaaGreatDoorShelf
import Derived.Sort.OwnSorted
/- Layer 9 (records): FixNode. -/
namespace Go.Proofs.YtmkohdepgfahnaaGreatDoor
open Go.RowKit
set_option linter.unusedVariables false

structure Nd where
  name : ByteArray
  addr : ByteArray
  made : Int
  changed : Int
def Nd.v (n : Nd) : Array Value := #[.string n.name, .string n.addr, .int .u64 n.made, .int .u64 n.changed]
def nodeZ : Nd := ⟨⟨#[]⟩, ⟨#[]⟩, 0, 0⟩
def nodeE (n : Nd) : Int := orE (labE n.name) (adrE n.addr)
def fixN (n : Nd) : Nd := if nodeE n = 0 then ⟨labT n.name, n.addr, 0, 0⟩ else nodeZ
theorem fixN_yes {n : Nd} (h : nodeE n = 0) : fixN n = ⟨labT n.name, n.addr, 0, 0⟩ := if_pos h
theorem fixN_no {n : Nd} (h : ¬ nodeE n = 0) : fixN n = nodeZ := if_neg h
theorem info_node : (Tryz.prog.info? 48).map (·.size) = some 4 := by kernel_rfl
theorem load_node {w : World} {g : Nat} {cs : Array Value} (h : Blk w g cs 48) (hs : cs.size = 4) : (loadVar 48 ⟨g, 0, none⟩).run Tryz.prog w = .ok (.agg cs) w :=
  run_loadVar_row (P := Tryz.prog) w g 48 48 cs (0, 0) _ h Tryz.underlying48 rfl (by rw [info_node, hs])

set_option maxRecDepth 100000 in
set_option maxHeartbeats 2000000 in
theorem fixNode_calls (n : Nd) (w : World) (h1 : n.name.size ≤ 140737488351296) (h2 : n.addr.size ≤ 140737488351296) (hv : Vs w) :
    Calls Tryz.prog 67 #[.agg n.v] w fun e w' => e = .returned (.tuple #[.agg (fixN n).v, .int .i64 (nodeE n)]) ∧ Below w.heap.size w w' := by
  obtain ⟨ne, Hne⟩ : ∃ ne, Hid (ne = nodeE n) := ⟨_, rfl⟩
  have HY : Hid (ne = 0 → (fixN n).v = #[.string (labT n.name), .string n.addr, .int .u64 0, .int .u64 0]) := fun h => by rw [fixN_yes (by rw [← Hne.out]; exact h)]; rfl
  have HN : Hid (¬ ne = 0 → (fixN n).v = #[.string ⟨#[]⟩, .string ⟨#[]⟩, .int .u64 0, .int .u64 0]) := fun h => by rw [fixN_no (by rw [← Hne.out]; exact h)]; rfl
  have HE : Hid (ne = orE (labE n.name) (adrE n.addr)) := Hne.out
  rw [← Hne.out]
  have HV : Hid (Vs w) := hv
  clear hv Hne
  obtain ⟨nm, ad, mk, ch⟩ := n
  simp only [Nd.v] at *
  have HA := adrA ad
  obtain ⟨a0, a1, a2, a3, haA⟩ : ∃ a b c d, adrA ad = #[.agg #[.int .u8 a, .int .u8 b, .int .u8 c, .int .u8 d], .int .i64 (adrE ad)] := ⟨_, _, _, _, rfl⟩
  have HAd : Hid (∀ w, Vs w → Calls Tryz.prog 76 #[.string ad] w fun e w' => e = .returned (.tuple #[.agg #[.int .u8 a0, .int .u8 a1, .int .u8 a2, .int .u8 a3], .int .i64 (adrE ad)]) ∧ Below w.heap.size w w') := fun w hv => by
    have := addr_calls ad w h2 hv
    rw [haA] at this
    exact this
  clear haA HA
  obtain ⟨w2, Hw2⟩ : ∃ w2, Hid (w2 = (w.alloc (.cells #[.string nm, .string ad, .int .u64 mk, .int .u64 ch] 48)).alloc (.cells #[.string ⟨#[]⟩, .string ⟨#[]⟩, .int .u64 0, .int .u64 0] 48)) := ⟨_, rfl⟩
  have hz : (w.alloc (.cells #[.string nm, .string ad, .int .u64 mk, .int .u64 ch] 48)).heap.size = w.heap.size + 1 := size_new _ _
  have HX : Hid (Blk w2 w.heap.size #[.string nm, .string ad, .int .u64 mk, .int .u64 ch] 48) := by rw [Hw2.out]; exact (Blk.new _ _ _).alloc _
  have HR : Hid (Blk w2 (w.heap.size + 1) #[.string ⟨#[]⟩, .string ⟨#[]⟩, .int .u64 0, .int .u64 0] 48) := by rw [Hw2.out, ← hz]; exact Blk.new _ _ _
  have HB2 : Hid (Below w.heap.size w w2) := by rw [Hw2.out]; exact (below_new w _).alloc (by rw [hz]; omega) _
  clear hz
  go_enter Tryz.func67, Tryz.ntmps67
  go_wp2_with fail
  rw [← Hw2.out]
  clear Hw2
  refine (label_calls nm w2 h1).mono ?_
  rintro e w3 ⟨rfl, hb3⟩
  have HX3 : Hid (Blk w3 w.heap.size #[.string nm, .string ad, .int .u64 mk, .int .u64 ch] 48) := HX.out.below hb3
  have HR3 : Hid (Blk w3 (w.heap.size + 1) #[.string ⟨#[]⟩, .string ⟨#[]⟩, .int .u64 0, .int .u64 0] 48) := HR.out.below hb3
  have HB3 : Hid (Below w.heap.size w w3) := HB2.out.trans (hb3.mono HB2.out.size)
  have c1 := HX3.out.cell 1 rfl
  clear hb3 HX HR HB2
  go_wp2_with fail
  refine (HAd.out w3 (HV.out.stay HB3.out)).mono ?_
  rintro e w4 ⟨rfl, hb4⟩
  have HX4 : Hid (Blk w4 w.heap.size #[.string nm, .string ad, .int .u64 mk, .int .u64 ch] 48) := HX3.out.below hb4
  have HR4 : Hid (Blk w4 (w.heap.size + 1) #[.string ⟨#[]⟩, .string ⟨#[]⟩, .int .u64 0, .int .u64 0] 48) := HR3.out.below hb4
  have HB4 : Hid (Below w.heap.size w w4) := HB3.out.trans (hb4.mono HB3.out.size)
  clear hb4 HX3 HR3 HB3 c1
  go_wp2_with fail
  obtain ⟨w5, Hw5⟩ : ∃ w5, Hid (w5 = w4.alloc (.cells #[.int .u8 a0, .int .u8 a1, .int .u8 a2, .int .u8 a3] 110)) := ⟨_, rfl⟩
  have HX5 : Hid (Blk w5 w.heap.size #[.string nm, .string ad, .int .u64 mk, .int .u64 ch] 48) := by rw [Hw5.out]; exact HX4.out.alloc _
  have HR5 : Hid (Blk w5 (w.heap.size + 1) #[.string ⟨#[]⟩, .string ⟨#[]⟩, .int .u64 0, .int .u64 0] 48) := by rw [Hw5.out]; exact HR4.out.alloc _
  have HB5 : Hid (Below w.heap.size w w5) := by rw [Hw5.out]; exact HB4.out.alloc HB4.out.size _
  have hz5 : w4.heap.size + 1 = w5.heap.size := by rw [Hw5.out]; exact (size_new _ _).symm
  clear HX4 HR4
  rw [← Hw5.out]
  clear Hw5
  refine (first2_calls (labE nm) (adrE ad) _ w5 hz5).mono ?_
  rintro e w6 ⟨he, hw6⟩
  rw [show orE (labE nm) (adrE ad) = ne from HE.out.symm] at he
  subst he
  have HX6 : Hid (Blk w6 w.heap.size #[.string nm, .string ad, .int .u64 mk, .int .u64 ch] 48) := by rw [hw6]; exact HX5.out.alloc _
  have HR6 : Hid (Blk w6 (w.heap.size + 1) #[.string ⟨#[]⟩, .string ⟨#[]⟩, .int .u64 0, .int .u64 0] 48) := by rw [hw6]; exact HR5.out.alloc _
  have HB6 : Hid (Below w.heap.size w w6) := by rw [hw6]; exact HB5.out.alloc HB5.out.size _
  clear hw6 HX5 HR5 HB5 HB4 hz5
  by_cases h0 : ne = 0
  · have HQ : Hid (_ = _) := HY.out h0
    have q : (ne != 0) = false := by simpa using h0
    have H0 : Hid (0 = ne) := h0.symm
    have c1 := HX6.out.cell 1 rfl
    clear h0 HY HN
    go_wp2_with fail
    refine (rclone_calls ad w6 h2).mono ?_
    rintro e w7 ⟨rfl, hb7⟩
    have HR7 : Hid (Blk w7 (w.heap.size + 1) #[.string ⟨#[]⟩, .string ⟨#[]⟩, .int .u64 0, .int .u64 0] 48) := HR6.out.below hb7
    have HB7 : Hid (Below w.heap.size w w7) := HB6.out.trans (hb7.mono HB6.out.size)
    have r0 := HR7.out.cell 0 rfl
    have r1 := HR7.out.cell 1 rfl
    have r2 := HR7.out.cell 2 rfl
    have r3 := HR7.out.cell 3 rfl
    have z := HR7.out.open
    clear hb7 c1
    go_wp2
    exact ret_box (g := w.heap.size + 1) (e := .int .i64 0) rfl rfl rfl rfl (load_node (putC_all (l := [.string (labT nm), .string ad, .int .u64 0, .int .u64 0]) HR7.out rfl) rfl) ⟨ret_agg HQ.out.symm H0.out, putC_below [.string (labT nm), .string ad, .int .u64 0, .int .u64 0] w7 0 HB7.out (by omega)⟩
  · have HQ : Hid (_ = _) := HN.out h0
    have q : (ne != 0) = true := by simpa using h0
    have r0 := HR6.out.cell 0 rfl
    have r1 := HR6.out.cell 1 rfl
    have r2 := HR6.out.cell 2 rfl
    have r3 := HR6.out.cell 3 rfl
    have z := HR6.out.open
    clear HY HN
    go_wp2
    exact ret_box (g := w.heap.size + 1) (e := .int .i64 ne) rfl rfl rfl rfl (load_node (putC_all (l := [.string ⟨#[]⟩, .string ⟨#[]⟩, .int .u64 0, .int .u64 0]) HR6.out rfl) rfl) ⟨ret_agg HQ.out.symm rfl, putC_below [.string ⟨#[]⟩, .string ⟨#[]⟩, .int .u64 0, .int .u64 0] w6 0 HB6.out (by omega)⟩
end Go.Proofs.YtmkohdepgfahnaaGreatDoor

/- slices.Sort of a call's own texts. -/
namespace Go.Proofs.YtmkohdepgfahnaaGreatDoor
open Go.RowKit
set_option linter.unusedVariables false

abbrev encS : List UInt8 → Value := fun l => Value.string ⟨l.toArray⟩
theorem sort_calls (g cap B : Nat) (ks : List (List UInt8)) (w : World) (hl : ks.length < 4611686018427387904) (h : w.ownsRow B 9 1 (.slice (some ⟨g, 0, none⟩) ks.length cap) ks.length (ks.map encS)) :
    Calls Tryz.prog 90 #[.slice (some ⟨g, 0, none⟩) ks.length cap] w fun e w' => e = .returned (.tuple #[]) ∧ w'.ownsRow B 9 1 (.slice (some ⟨g, 0, none⟩) ks.length cap) ks.length ((ks.mergeSort fun x y => decide (x ≤ y)).map encS) ∧ Grew w w' (.slice (some ⟨g, 0, none⟩) ks.length cap) (.slice (some ⟨g, 0, none⟩) ks.length cap) := by
  rcases h.2 with ⟨he, _⟩ | ⟨g', cap', cur, he, hb, hg, h1, h2, h3, h4⟩
  · cases he
  · simp only [Value.slice.injEq, Option.some.injEq, Addr.mk.injEq] at he
    obtain ⟨⟨rfl, _⟩, _, rfl⟩ := he
    refine (Tryz.slices_Sort_string g 0 cap ks w (holds_of_block hg (by rw [Nat.mul_one] at h4; exact h4)) (Array.getElem?_eq_some_iff.1 hg).1 (by omega)).mono ?_
    rintro e w' ⟨rfl, n, os, rfl⟩
    exact ⟨rfl, ownsRow_sorted (by simp) hb hg h1 h2 h3, ⟨grownBy_sorted _, fun k hk => .inl hk⟩⟩
end Go.Proofs.YtmkohdepgfahnaaGreatDoor

/- Layer 7 (rows): slices.Sort and slices.Compact of a call's own texts. -/
namespace Go.Proofs.YtmkohdepgfahnaaGreatDoor
open Go.RowKit
set_option linter.unusedVariables false

theorem row_short {w : World} {B g n cap : Nat} {e : TypeId} {l1 l2 : List Value} (h : w.ownsRow B e 1 (.slice (some ⟨g, 0, none⟩) n cap) n (l1 ++ l2)) : w.ownsRow B e 1 (.slice (some ⟨g, 0, none⟩) l1.length cap) l1.length l1 := by
  refine ⟨by simp, ?_⟩
  have hl := h.1
  rw [List.length_append, Nat.mul_one] at hl
  rcases h.2 with ⟨he, _⟩ | ⟨g', cap', cur, he, hb, hg, h1, h2, h3, h4⟩
  · cases he
  · simp only [Value.slice.injEq] at he
    obtain ⟨ha, _, rfl⟩ := he
    refine .inr ⟨g', cap, cur, by rw [ha], hb, hg, by omega, h2, h3, ?_⟩
    have h5 : (cur.toList.take (n * 1)).take l1.length = l1 := by rw [h4, List.take_left']; rfl
    rw [List.take_take, Nat.mul_one, show min l1.length n = l1.length by omega] at h5
    rw [Nat.mul_one]
    exact h5
theorem compactUpTo_le (d : Array (List UInt8)) (m : Nat) : (Lib.compactUpTo d m).length ≤ m := by
  induction m with
  | zero => simp [Lib.compactUpTo]
  | succ m ih =>
    rw [Lib.compactUpTo_succ, List.length_append]
    split <;> simp <;> omega
theorem compact_le (zs : List (List UInt8)) : (Lib.compact zs).length ≤ zs.length := by
  unfold Lib.compact
  exact compactUpTo_le _ _

theorem compact_calls (g cap B : Nat) (zs : List (List UInt8)) (w : World) (hl : zs.length ≤ 100000) (h : w.ownsRow B 9 1 (.slice (some ⟨g, 0, none⟩) zs.length cap) zs.length (zs.map encS)) :
    Calls Tryz.prog 91 #[.slice (some ⟨g, 0, none⟩) zs.length cap] w fun e w' => e = .returned (.slice (some ⟨g, 0, none⟩) (Lib.compact zs).length cap) ∧ w'.ownsRow B 9 1 (.slice (some ⟨g, 0, none⟩) (Lib.compact zs).length cap) (Lib.compact zs).length ((Lib.compact zs).map encS) ∧ Grew w w' (.slice (some ⟨g, 0, none⟩) zs.length cap) (.slice (some ⟨g, 0, none⟩) zs.length cap) := by
  rcases h.2 with ⟨he, _⟩ | ⟨g', cap', cur, he, hb, hg, h1, h2, h3, h4⟩
  · cases he
  · simp only [Value.slice.injEq, Option.some.injEq, Addr.mk.injEq] at he
    obtain ⟨⟨rfl, _⟩, _, rfl⟩ := he
    refine (Tryz.slices_Compact_string g 0 cap zs w (holds_of_block hg (by rw [Nat.mul_one] at h4; exact h4)) (by omega) h1).mono ?_
    rintro e w' ⟨rfl, q, rfl⟩
    have hle := compact_le zs
    have hr := ownsRow_sorted (n := q) (os := #[]) (ts := Lib.compact zs ++ List.replicate (zs.length - (Lib.compact zs).length) []) (ss := zs) (by simp; omega) hb hg h1 h2 h3
    have hgr := grownBy_sorted (w := w) (g := g) (n := q) (os := #[]) (Lib.compact zs ++ List.replicate (zs.length - (Lib.compact zs).length) []).toArray
    rw [Sort.grow_empty] at hr hgr
    rw [List.map_append] at hr
    have hs := row_short hr
    rw [List.length_map] at hs
    exact ⟨rfl, hs, ⟨hgr, fun k hk => .inl hk⟩⟩
end Go.Proofs.YtmkohdepgfahnaaGreatDoor
