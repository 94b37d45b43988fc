import Derived.Test.YtcdfbbjakkmmoaaRJoined
import Derived.RangeFuncNested
import Derived.RangeFuncBound
import Derived.RangeFuncCalls
import Derived.RangeFuncLeaves
import Derived.RangeFuncBox
import Derived.Shelf.Abstract
import Derived.Shelf.RegionOpen
import Derived.OwnWalkIn
import Derived.TacticsInMore
import Derived.LoopNIn
import Derived.LoopIn
import Derived.RangeFuncWrites
/- Layer 3 (radix): withEntry. -/
namespace Go.Proofs.Ytcdfbbjakkmmoaa
open Go.RowKit
set_option linter.unusedVariables false
variable {R : Rg} {O : Nat → Prop}

/-- What the last node along k becomes when k's value comes. -/
inductive EntR (N : Nat) (k : ByteArray) (v : Vl) (t : Tr) : Tr → Prop
  | here {a g} (ha : N ≤ a) (hg : N ≤ g) (hp : t.p.size = k.size) : EntR N k v t (.nd a t.p (some v) t.ks g)
  | leaf {a g l gl} (ha : N ≤ a) (hg : N ≤ g) (hl : N ≤ l) (hgl : N ≤ gl) (hp : t.p.size < k.size) (hno : thereB t.ks t.p.size k[t.p.size] = false) :
      EntR N k v t (.nd a t.p t.v (t.ks.take (posn t.ks t.p.size k[t.p.size]) ++ [.nd l k (some v) [] gl] ++ t.ks.drop (posn t.ks t.p.size k[t.p.size])) g)
  | join {a g c J} (ha : N ≤ a) (hg : N ≤ g) (hp : t.p.size < k.size) (hq : posn t.ks t.p.size k[t.p.size] < t.ks.length) (hc : t.ks[posn t.ks t.p.size k[t.p.size]] = c) (hb : c.byte t.p.size = k[t.p.size]) (hn : ¬ c.path <+: k.data.toList) (hJ : JoinR N k v c J) :
      EntR N k v t (.nd a t.p t.v (t.ks.take (posn t.ks t.p.size k[t.p.size]) ++ [J] ++ t.ks.drop (posn t.ks t.p.size k[t.p.size] + 1)) g)

theorem EntR.lower {N M : Nat} {k : ByteArray} {v : Vl} {t T : Tr} (h : EntR N k v t T) (hm : M ≤ N) : EntR M k v t T := by
  cases h with
  | here ha hg hp => exact .here (Nat.le_trans hm ha) (Nat.le_trans hm hg) hp
  | leaf ha hg hl hgl hp hno => exact .leaf (Nat.le_trans hm ha) (Nat.le_trans hm hg) (Nat.le_trans hm hl) (Nat.le_trans hm hgl) hp hno
  | join ha hg hp hq hc hb hn hJ => exact .join (Nat.le_trans hm ha) (Nat.le_trans hm hg) hp hq hc hb hn (hJ.lower hm)

theorem one_kid {w : World} {g : Nat} {A : Tr} (hg : ¬ R g) (h : w.heap[g]? = some (.cells #[.pointer (some ⟨A.a, 0, none⟩)] 35)) : SlV.At R w ⟨some ⟨g, 0, none⟩, 1, [A]⟩ := by
  refine ⟨?_, by simp, fun e => by cases e⟩
  intro i hi
  simp at hi
  subst hi
  exact ⟨g, 0, rfl, by rw [cell_of_blk h]; rfl, hg⟩

set_option maxRecDepth 100000 in
set_option maxHeartbeats 1600000 in
theorem entry_here (t : Tr) (k : ByteArray) (v : Vl) (w : World) (h : TAt R w t) (hv : VAt R.old w v) (hp : t.p.size = k.size) :
    Calls Try.prog 45 #[.pointer (some ⟨t.a, 0, none⟩), .string k, .pointer (some ⟨v.a, 0, none⟩)] w fun e w' => ∃ T' : Tr, e = .returned (.pointer (some ⟨T'.a, 0, none⟩)) ∧ Below w.heap.size w w' ∧ TAt R w' T' ∧ EntR w.heap.size k v t T' := by
  obtain ⟨ao, cap, c0, -, -, -, -, -, -⟩ := h.cells
  obtain ⟨y, hy, hyA, c2⟩ := h.slv
  have hpz := h.psz'
  have ha := h.lt
  have hpi : (t.p.size : Int) = (k.size : Int) := by omega
  have HH : Hid (TAt R w t) := h
  have HV : Hid (VAt R.old w v) := hv
  have HY : Hid (y.ks = t.ks ∧ y.At R w) := ⟨hy, hyA⟩
  clear h hv hyA hy
  go_enter Try.func45, Try.ntmps45
  go_wp2
  go_region_held3 (fun W => W.cell? ⟨t.a, 0, none⟩ = some (.string t.p) ∧ W.cell? ⟨t.a, 2, none⟩ = some (.slice y.ao y.ks.length y.cap)) (first | (exact q3) | go_keep)
    (first
      | (go_at_call 30
         refine (newNode_calls _ _ _ _ _ w.drew).mono ?_
         rintro e w3 ⟨rfl, hb3, hs3, hn3, hw3⟩
         have q3 : w3.cell? ⟨t.a, 0, none⟩ = some (.string t.p) ∧ w3.cell? ⟨t.a, 2, none⟩ = some (.slice y.ao y.ks.length y.cap) := ⟨by rw [hb3.cell (by exact ha)]; exact c0, by rw [hb3.cell (by exact ha)]; exact c2⟩
         have HN : Hid (Below w.heap.size w w3 ∧ w3.heap[w.heap.size + 2]? = some (.cells #[.string t.p, .pointer (some ⟨v.a, 0, none⟩), .slice y.ao y.ks.length y.cap, .pointer (some ⟨w.heap.size + 1, 0, none⟩)] 76) ∧ WAt w3 (w.heap.size + 1) w.heap.size false) := ⟨⟨hb3.os, hb3.tape, hb3.output, hb3.size, hb3.block⟩, hn3, hw3⟩
         clear hb3 hs3 hn3 hw3))
  go_wp2
  go_ret
  obtain ⟨hb3, hn3, hw3⟩ := HN.out
  refine ⟨.nd (w.heap.size + 2) t.p (some v) t.ks (w.heap.size + 1), rfl, hb3, ?_, .here (by omega) (by omega) hp⟩
  rw [← HY.out.1]
  exact TAt.laid hn3 (HY.out.2.below hb3) (fun y hy => by cases hy; exact HV.out.below hb3) hw3 (fun c hc => by rw [HY.out.1] at hc; exact (HH.out.sub' c hc).keep hb3) hpz

set_option maxRecDepth 100000 in
set_option maxHeartbeats 1600000 in
theorem entry_leaf (t : Tr) (k : ByteArray) (v : Vl) (w : World) (h : TAt R w t) (hw : WF t) (hv : VAt R.old w v) (hp : t.p.size < k.size) (hks : k.size ≤ 140737488351296) (hno : thereB t.ks t.p.size k[t.p.size] = false) (hR : ∀ b, R b → b < w.heap.size) :
    Calls Try.prog 45 #[.pointer (some ⟨t.a, 0, none⟩), .string k, .pointer (some ⟨v.a, 0, none⟩)] w fun e w' => ∃ T' : Tr, e = .returned (.pointer (some ⟨T'.a, 0, none⟩)) ∧ Below w.heap.size w w' ∧ TAt R w' T' ∧ EntR w.heap.size k v t T' := by
  have hnot : ∀ (x : Bool) (w : World), (Op.unary .not (.bool x)).run Try.prog w = .ok (.bool (!x)) w := fun _ _ => rfl
  obtain ⟨ao, cap, c0, -, -, -, -, -, -⟩ := h.cells
  have hpz := h.psz'
  have hpi : ¬ (t.p.size : Int) = (k.size : Int) := by omega
  have hpb : ((t.p.size : Int) == (k.size : Int)) = false := by simpa using hpi
  have HT := toward_at t k w h hw hp hks
  rw [hno] at HT
  have HH : Hid (TAt R w t) := h
  have HV : Hid (VAt R.old w v) := hv
  have HWF : Hid (WF t) := hw
  have HNO : Hid (thereB t.ks t.p.size k[t.p.size] = false) := hno
  clear h hv hw hno
  go_enter Try.func45, Try.ntmps45
  go_wp2_with fail
  refine HT.mono ?_
  clear HT
  rintro e w1 ⟨rfl, hb1⟩
  have HB1 : Hid (Below w.heap.size w w1) := hb1
  clear hb1 c0
  go_wp2_with fail
  refine (clone_calls k w1 (by omega)).mono ?_
  rintro e w2 ⟨rfl, hb2⟩
  have HB2 : Hid (Below w.heap.size w w2) := HB1.out.trans (hb2.mono HB1.out.size)
  clear hb2
  go_wp2_with fail
  refine (newNode_calls _ _ _ _ _ w2).mono ?_
  rintro e w3 ⟨rfl, hb3, hs3, hn3, hw3⟩
  have h03 : Below w.heap.size w w3 := HB2.out.trans (hb3.mono HB2.out.size)
  have hleaf : TAt R w3 (.nd (w2.heap.size + 2) k (some v) [] (w2.heap.size + 1)) :=
    TAt.laid (x := ⟨none, 0, []⟩) hn3 ⟨fun i hi => by simp at hi, Nat.le_refl _, fun _ => rfl⟩ (fun y hy => by cases hy; exact HV.out.below h03) hw3 (fun t ht => by simp at ht) hks
  obtain ⟨w4, HW4⟩ : ∃ w4, Hid (w4 = w3.alloc (.cells #[.pointer (some ⟨w2.heap.size + 2, 0, none⟩)] 35)) := ⟨_, rfl⟩
  have h34 : Below w3.heap.size w3 w4 := by rw [HW4.out]; exact (Below.refl _ _).alloc (Nat.le_refl _) _
  have h04 : Below w.heap.size w w4 := h03.trans (h34.mono h03.size)
  have hblk : w4.heap[w3.heap.size]? = some (.cells #[.pointer (some ⟨w2.heap.size + 2, 0, none⟩)] 35) := by rw [HW4.out]; exact heap_alloc_new _ _
  have HK := withKids_calls t k ⟨some ⟨w3.heap.size, 0, none⟩, 1, [.nd (w2.heap.size + 2) k (some v) [] (w2.heap.size + 1)]⟩ w4 (HH.out.keep h04) HWF.out hp hks (one_kid (fun e => by have h1 := hR _ e; have h2 := h03.size; omega) hblk) (by simp) (fun c hc => by simp at hc; subst hc; exact hleaf.keep h34) (fun b hb => by have h1 := hR b hb; have h2 := h04.size; omega)
  have hz2 := HB2.out.size
  have HB4 : Hid (Below w.heap.size w w4) := h04
  clear hb3 hs3 hn3 hw3 h03 h34 h04 hleaf hblk
  go_wp2_with fail
  rw [← HW4.out]
  refine HK.mono ?_
  clear HK
  rintro e w5 ⟨a', g', rfl, hb5, ha5, hg5, hT5⟩
  have hz4 := HB4.out.size
  go_wp2
  go_ret
  refine ⟨_, rfl, HB4.out.trans (hb5.mono hz4), hT5, ?_⟩
  have hbh : behindOf t k hp = posn t.ks t.p.size k[t.p.size] := by unfold behindOf; rw [HNO.out]; rfl
  rw [hbh]
  exact .leaf (by omega) (by omega) (by omega) (by omega) hp HNO.out

set_option maxRecDepth 100000 in
set_option maxHeartbeats 1600000 in
theorem entry_join (t : Tr) (k : ByteArray) (v : Vl) (w : World) (h : TAt R w t) (hw : WF t) (hv : VAt R.old w v) (hp : t.p.size < k.size) (hks : k.size ≤ 140737488351296) (hyes : thereB t.ks t.p.size k[t.p.size] = true) (hnx : nx t k.data.toList = none) (hR : ∀ b, R b → b < w.heap.size) :
    Calls Try.prog 45 #[.pointer (some ⟨t.a, 0, none⟩), .string k, .pointer (some ⟨v.a, 0, none⟩)] w fun e w' => ∃ T' : Tr, e = .returned (.pointer (some ⟨T'.a, 0, none⟩)) ∧ Below w.heap.size w w' ∧ TAt R w' T' ∧ EntR w.heap.size k v t T' := by
  have hnot : ∀ (x : Bool) (w : World), (Op.unary .not (.bool x)).run Try.prog w = .ok (.bool (!x)) w := fun _ _ => rfl
  obtain ⟨ao, cap, c0, -, c2, -, hkids, -, -⟩ := h.cells
  have hpz := h.psz'
  have ha := h.lt
  have hpi : ¬ (t.p.size : Int) = (k.size : Int) := by omega
  have hpb : ((t.p.size : Int) == (k.size : Int)) = false := by simpa using hpi
  have HT := toward_at t k w h hw hp hks
  rw [hyes] at HT
  obtain ⟨hq, hbyte⟩ := there_true hp hyes
  have hnp : ¬ t.ks[posn t.ks t.p.size k[t.p.size]].path <+: k.data.toList := fun hc => by
    have := nx_some hw hq hc
    rw [hnx] at this
    cases this
  have hbh : behindOf t k hp = posn t.ks t.p.size k[t.p.size] + 1 := by unfold behindOf; rw [hyes]; rfl
  obtain ⟨bb, off, rfl, hk0, -⟩ := hkids _ hq
  have hbl : bb < w.heap.size := World.block_lt_of_cell? w _ hk0
  have HH : Hid (TAt R w t) := h
  have HV : Hid (VAt R.old w v) := hv
  have HWF : Hid (WF t) := hw
  obtain ⟨q, HQ⟩ : ∃ q, Hid (q = posn t.ks t.p.size k[t.p.size]) := ⟨posn t.ks t.p.size k[t.p.size], rfl⟩
  obtain ⟨c, HC⟩ : ∃ c, Hid (c = t.ks[posn t.ks t.p.size k[t.p.size]]) := ⟨t.ks[posn t.ks t.p.size k[t.p.size]], rfl⟩
  have hq' : q < t.ks.length := by rw [HQ.out]; exact hq
  have hk1 : w.cell? ⟨bb, off + q, none⟩ = some (.pointer (some ⟨c.a, 0, none⟩)) := by rw [HQ.out, HC.out]; exact hk0
  rw [← HQ.out] at HT
  have HALL : Hid (c.byte t.p.size = k[t.p.size] ∧ ¬ c.path <+: k.data.toList ∧ behindOf t k hp = posn t.ks t.p.size k[t.p.size] + 1 ∧ c ∈ t.ks) := ⟨by rw [HC.out]; exact hbyte, by rw [HC.out]; exact hnp, hbh, by rw [HC.out]; exact List.getElem_mem hq⟩
  clear h hv hw hyes hnx hkids hk0 hbyte hnp hbh
  go_enter Try.func45, Try.ntmps45
  go_wp2_with fail
  refine HT.mono ?_
  clear HT
  rintro e w1 ⟨rfl, hb1⟩
  have HB1 : Hid (Below w.heap.size w w1) := hb1
  have c2' : w1.cell? ⟨t.a, 2, none⟩ = some (.slice (some ⟨bb, off, none⟩) t.ks.length cap) := by rw [hb1.cell (by exact ha)]; exact c2
  have k1' : w1.cell? ⟨bb, off + q, none⟩ = some (.pointer (some ⟨c.a, 0, none⟩)) := by rw [hb1.cell (by exact hbl)]; exact hk1
  clear hb1 c0 c2 hk1
  have HJ := joined_calls c k v w1 ((HH.out.sub' _ HALL.out.2.2.2).keep HB1.out) (HV.out.below HB1.out) hks HALL.out.2.1 (fun b hb => by have h1 := hR b hb; have h2 := HB1.out.size; omega)
  go_wp2_with fail
  refine HJ.mono ?_
  clear HJ
  rintro e w3 ⟨J, rfl, hb3, hJ3, hJR⟩
  have h03 : Below w.heap.size w w3 := HB1.out.trans (hb3.mono HB1.out.size)
  obtain ⟨w4, HW4⟩ : ∃ w4, Hid (w4 = w3.alloc (.cells #[.pointer (some ⟨J.a, 0, none⟩)] 35)) := ⟨_, rfl⟩
  have h34 : Below w3.heap.size w3 w4 := by rw [HW4.out]; exact (Below.refl _ _).alloc (Nat.le_refl _) _
  have h04 : Below w.heap.size w w4 := h03.trans (h34.mono h03.size)
  have hblk : w4.heap[w3.heap.size]? = some (.cells #[.pointer (some ⟨J.a, 0, none⟩)] 35) := by rw [HW4.out]; exact heap_alloc_new _ _
  have HK := withKids_calls t k ⟨some ⟨w3.heap.size, 0, none⟩, 1, [J]⟩ w4 (HH.out.keep h04) HWF.out hp hks (one_kid (fun e => by have h1 := hR _ e; have h2 := h03.size; omega) hblk) (by simp) (fun c hc => by simp at hc; subst hc; exact hJ3.keep h34) (fun b hb => by have h1 := hR b hb; have h2 := h04.size; omega)
  have HB4 : Hid (Below w.heap.size w w4) := h04
  have HJR : Hid (JoinR w1.heap.size k v c J) := hJR
  clear hb3 h03 h34 h04 hblk hJ3 hJR c2' k1'
  go_wp2_with fail
  rw [← HW4.out]
  refine HK.mono ?_
  clear HK
  rintro e w5 ⟨a', g', rfl, hb5, ha5, hg5, hT5⟩
  have hz4 := HB4.out.size
  have hz1 := HB1.out.size
  go_wp2
  go_ret
  refine ⟨_, rfl, HB4.out.trans (hb5.mono hz4), hT5, ?_⟩
  rw [HALL.out.2.2.1]
  refine .join (c := c) (by omega) (by omega) hp hq HC.out.symm HALL.out.1 HALL.out.2.1 ?_
  exact HJR.out.lower hz1

theorem entry_calls (t : Tr) (k : ByteArray) (v : Vl) (w : World) (h : TAt R w t) (hw : WF t) (hv : VAt R.old w v) (hp : t.path <+: k.data.toList) (hks : k.size ≤ 140737488351296) (hnx : nx t k.data.toList = none) (hR : ∀ b, R b → b < w.heap.size) :
    Calls Try.prog 45 #[.pointer (some ⟨t.a, 0, none⟩), .string k, .pointer (some ⟨v.a, 0, none⟩)] w fun e w' => ∃ T' : Tr, e = .returned (.pointer (some ⟨T'.a, 0, none⟩)) ∧ Below w.heap.size w w' ∧ TAt R w' T' ∧ EntR w.heap.size k v t T' := by
  have hle : t.p.size ≤ k.size := by have := hp.length_le; rw [path_length] at this; simpa using this
  by_cases he : t.p.size = k.size
  · exact entry_here t k v w h hv he
  · have hlt : t.p.size < k.size := by omega
    cases hth : thereB t.ks t.p.size k[t.p.size] with
    | false => exact entry_leaf t k v w h hw hv hlt hks hth hR
    | true => exact entry_join t k v w h hw hv hlt hks hth hnx hR
end Go.Proofs.Ytcdfbbjakkmmoaa

/- Layer 3 (radix): slices.Backward over a list of nodes: its iterator. -/
namespace Go.Proofs.Ytcdfbbjakkmmoaa
open Go.RowKit Go.Shelf
set_option linter.unusedVariables false
variable {R : Rg} {O : Nat → Prop}
attribute [local go_sem] Oper.semAt_some

theorem backward_calls (ao : Option Addr) (n cap : Nat) (w : World) :
    Calls Try.prog 31 #[.slice ao n cap] w fun e w' => e = .returned (.func (.func 53) #[] #[.pointer (some ⟨w.heap.size, 0, none⟩)]) ∧ w' = w.alloc (.cells #[.slice ao n cap] 65) := by
  have hmf : ∀ (fn : Fn) (first cap : Array Value) (w : World), (Instr.makeFunc fn first cap).run Try.prog w = .ok (.func fn first cap) w := fun _ _ _ _ => rfl
  go_enter Try.func31, Try.ntmps31
  go_wp2
  go_ret
  exact ⟨rfl, rfl⟩

/-- The places that have come when k rounds are over, the last first. -/
def downTo (n k : Nat) : List Nat := (List.range k).map fun j => n - 1 - j
theorem downTo_succ (n k : Nat) : downTo n (k + 1) = downTo n k ++ [n - 1 - k] := by simp [downTo, List.range_succ]
theorem downTo_length (n k : Nat) : (downTo n k).length = k := by simp [downTo]

/-- Two blocks stay as they were. -/
structure Kept2 (b c : Nat) (W W' : World) : Prop where
  one : W'.heap[b]? = W.heap[b]?
  two : W'.heap[c]? = W.heap[c]?
theorem Kept2.refl (b c : Nat) (W : World) : Kept2 b c W W := ⟨rfl, rfl⟩
theorem Kept2.trans {b c : Nat} {X Y Z : World} (h : Kept2 b c X Y) (k : Kept2 b c Y Z) : Kept2 b c X Z := ⟨k.one.trans h.one, k.two.trans h.two⟩
theorem cell_same {W W' : World} {b i : Nat} (h : W'.heap[b]? = W.heap[b]?) : W'.cell? ⟨b, i, none⟩ = W.cell? ⟨b, i, none⟩ := World.cell?_of_block h

def encN (init : List Tr) (i : Fin init.length) : Array Value := #[.int .i64 ((i.val : Nat) : Int), .pointer (some ⟨init[i.val].a, 0, none⟩)]

set_option maxRecDepth 100000 in
set_option maxHeartbeats 2000000 in
theorem back1_in (F : Fence) (n : Nat) (hF : F.fn 53) (hro : F.round = none) (hn : 1 ≤ n) (l Bs b cap : Nat) (init : List Tr) (hlen : init.length ≤ 17592186044416) (J Jx : List (Fin init.length) → World → Prop)
    (hY : ∀ pre x W, J pre W → pre.length < init.length → YieldAt F (n - 1) Try.prog l (encN init x) W fun e W' => (e = .returned (.bool true) ∧ J (pre ++ [x]) W' ∧ Kept2 b Bs W W') ∨ (e = .returned (.bool false) ∧ Jx (pre ++ [x]) W'))
    (W : World) (hBs : W.cell? ⟨Bs, 0, none⟩ = some (.slice (some ⟨b, 0, none⟩) init.length cap)) (hc : KidsAt R W (some ⟨b, 0, none⟩) init) (h0 : J [] W) :
    CallsIn F n Try.prog 53 #[.func (.yield l) #[] #[], .pointer (some ⟨Bs, 0, none⟩)] W fun e W' => (∃ v, e = .returned v) ∧
      ((∃ ys : List (Fin init.length), ys.map (·.val) = downTo init.length init.length ∧ J ys W') ∨ (∃ pre, True ∧ Jx pre W')) := by
  have HC : Hid (KidsAt R W (some ⟨b, 0, none⟩) init) := hc
  clear hc
  refine callsIn_of_wp Try.func53 rfl hF ?_ hro
  simp only [Try.ntmps53, List.size_toArray, List.length_cons, List.length_nil, Nat.reduceAdd, Nat.reduceSub, Array.replicate_succ, Array.replicate_zero, List.push_toArray, List.append_toArray, List.nil_append, List.cons_append]
  gi_wp2
  gi_loopw [3] (fun i wr => ∃ (k : Nat) (pre : List (Fin init.length)), k ≤ init.length ∧ i = .int .i64 ((init.length : Int) - 1 - k) ∧ Hid (pre.map (·.val) = downTo init.length k) ∧ Hid (J pre wr) ∧ Hid (Kept2 b Bs W wr))
    (fun i _ => ((intOf i) + 1).toNat)
  case atStart => exact ⟨0, [], Nat.zero_le _, by simp, rfl, h0, Kept2.refl _ _ _⟩
  case round =>
    obtain ⟨k, pre, hk, rfl, HP, HJ, HB⟩ := hrel
    have hcs : wr.cell? ⟨Bs, 0, none⟩ = some (.slice (some ⟨b, 0, none⟩) init.length cap) := (cell_same HB.out.two).trans hBs
    by_cases hlt : k < init.length
    · have hi : init.length - 1 - k < init.length := by omega
      obtain ⟨b', off', he, hcell, _⟩ := HC.out (init.length - 1 - k) hi
      simp only [Option.some.injEq, Addr.mk.injEq] at he
      obtain ⟨rfl, rfl, _⟩ := he
      have hpl : pre.length = k := by have := congrArg List.length HP.out; simpa [downTo_length] using this
      obtain ⟨fn, tmps, assign, body, hy, hR⟩ := hY pre ⟨init.length - 1 - k, hi⟩ wr HJ.out (by omega)
      have hii : ((init.length - 1 - k : Nat) : Int) = (init.length : Int) - 1 - k := by omega
      dsimp only [encN] at hy
      have hcw : wr.cell? ⟨b, (init.length - 1 - k), none⟩ = some (.pointer (some ⟨init[init.length - 1 - k].a, 0, none⟩)) := by
        rw [cell_same HB.out.one]; simpa using hcell
      have htn : ((init.length : Int) - 1 - k).toNat = init.length - 1 - k := by omega
      have hge : (0 : Int) ≤ (init.length : Int) - 1 - k := by omega
      rw [hii] at hy
      gi_wp2
      refine hR.mono ?_
      rintro e W3 (⟨rfl, hJ3, hk3⟩ | ⟨rfl, hJx3⟩)
      · have HJ3 : Hid (J (pre ++ [⟨init.length - 1 - k, hi⟩]) W3) := hJ3
        have HB3 : Hid (Kept2 b Bs W W3) := HB.out.trans hk3
        clear hJ3 hk3
        gi_wp2
        go_roundw
        case rel => exact ⟨k + 1, _, by omega, by congr 1; omega, by show _ = _; rw [List.map_append, HP.out, downTo_succ]; rfl, HJ3, HB3⟩
        case measure => simp only [intOf]; omega
      · gi_wp2
        refine bodyPost_ret (results_none rfl _ _ _) rfl ?_
        exact ⟨⟨_, rfl⟩, .inr ⟨_, trivial, hJx3⟩⟩
    · have hkl : k = init.length := by omega
      subst hkl
      have hneg : ¬ (0 : Int) ≤ (init.length : Int) - 1 - (init.length : Int) := by omega
      have hsub : (init.length : Int) - 1 - (init.length : Int) = -1 := by omega
      rw [hsub]
      gi_wp2
      go_end0
      exact ⟨⟨_, rfl⟩, .inl ⟨_, HP.out, HJ.out⟩⟩

/-- The iterator that Backward hands back. -/
theorem back_stops (F : Fence) (n : Nat) (hF : F.fn 53) (hro : F.round = none) (hn : 1 ≤ n) (Bs b cap : Nat) (init : List Tr) (hlen : init.length ≤ 17592186044416) (w : World)
    (hc : w.cell? ⟨Bs, 0, none⟩ = some (.slice (some ⟨b, 0, none⟩) init.length cap)) (hk : KidsAt R w (some ⟨b, 0, none⟩) init) :
    SeqStopsK F n Try.prog 53 #[.pointer (some ⟨Bs, 0, none⟩)] (encN init) (Kept2 b Bs) (fun ys => ys.map (·.val) = downTo init.length init.length) (fun _ => True) init.length w := fun l J Jx W hW _ _ hY h0 => by
  have hBs : Bs < w.heap.size := World.block_lt_of_cell? w _ hc
  exact back1_in F n hF hro hn l Bs b cap init hlen J Jx hY W ((hW.cell (p := ⟨Bs, 0, none⟩) hBs).trans hc) (hk.below hW) h0
end Go.Proofs.Ytcdfbbjakkmmoaa

/- A range over a function turns its own record and its block of deferred calls alone: what is held between two rounds need abide no more than that (so channels may be held). -/
namespace Go.Proofs.Ytcdfbbjakkmmoaa
open Go.RowKit
set_option linter.unusedVariables false

/-- A loop's record, or its block of deferred calls. -/
def isMark : Obj → Bool
  | .loop _ => true
  | .deferred _ => true
  | _ => false
theorem notCells_of_mark : ∀ {o : Obj}, isMark o = true → o.isCells = false
  | .loop _, _ => rfl
  | .deferred _, _ => rfl
/-- It abides the turn of a mark at or beyond B. -/
def OwnM {β : Type} (B : Nat) (I : β → World → Prop) : Prop :=
  ∀ s W W' row, I s W → W.grownBy W' row → (∀ r, row = some r → B ≤ r ∧ ∃ o : Obj, W.heap[r]? = some o ∧ isMark o = true) → I s W'
theorem OwnM.putObj {β : Type} {B : Nat} {I : β → World → Prop} (h : OwnM B I) {s : β} {W : World} {l : Nat} {o : Obj} (o' : Obj) (hs : I s W) (hB : B ≤ l) (hl : W.heap[l]? = some o) (ho : isMark o = true) : I s (W.putObj l o') :=
  h s W _ (some l) hs (grownBy_putObj' W l o') (fun r e => by cases e; exact ⟨hB, o, hl, ho⟩)
theorem OwnM.alloc {β : Type} {B : Nat} {I : β → World → Prop} (h : OwnM B I) {s : β} {W : World} (o : Obj) (hs : I s W) : I s (W.alloc o) :=
  h s W _ none hs (World.grownBy_alloc W o none) (fun r e => by cases e)
theorem OwnM.and {β : Type} {B : Nat} {I I' : β → World → Prop} (h : OwnM B I) (h' : OwnM B I') : OwnM B (fun s W => I s W ∧ I' s W) := fun s W W' row hs hg hr => ⟨h s W W' row hs.1 hg hr, h' s W W' row hs.2 hg hr⟩
theorem cell_keptM {W W' : World} {row : Option Nat} {a : Addr} {v : Value} (h : W.cell? a = some v) (hg : W.grownBy W' row) (hr : ∀ r, row = some r → ∃ o : Obj, W.heap[r]? = some o ∧ isMark o = true) : W'.cell? a = some v :=
  cell_kept h hg fun r e => by
    obtain ⟨o, h1, h2⟩ := hr r e
    exact ⟨o, h1, notCells_of_mark h2⟩
/-- Whatever is no mark stays. -/
theorem obj_keptM {W W' : World} {row : Option Nat} {b : Nat} {o : Obj} (h : W.heap[b]? = some o) (ho : isMark o = false) (hg : W.grownBy W' row) (hr : ∀ r, row = some r → ∃ o : Obj, W.heap[r]? = some o ∧ isMark o = true) : W'.heap[b]? = some o := by
  have hlt : b < W.heap.size := by
    rcases Nat.lt_or_ge b W.heap.size with h' | h'
    · exact h'
    · rw [Array.getElem?_eq_none h'] at h; cases h
  refine (hg.block b hlt (fun e => ?_)).trans h
  obtain ⟨o', h1, h2⟩ := hr b e.symm
  rw [h] at h1
  cases h1
  rw [ho] at h2
  cases h2
end Go.Proofs.Ytcdfbbjakkmmoaa
