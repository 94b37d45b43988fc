import Derived.Test.YtpnmkfbdfggnaaaGreatWSync
import Derived.Test.YtpnmkfbdfggnaaaGreatRWay
import Derived.Test.YtpnmkfbdfggnaaaGreatTCommit
import Derived.Test.YtpnmkfbdfggnaaaGreatRHas0
import Derived.Test.YtpnmkfbdfggnaaaGreatXHeld
/- Layer 3 (radix): Len, Get. -/
namespace Go.Proofs.YtpnmkfbdfggnaaaGreat
open Go.RowKit
set_option linter.unusedVariables false

theorem len_calls (tb : Nat) (t : Tr) (n : Int) (w : World) (h : TreeAt w tb t n) : Calls Tryz.prog 30 #[.pointer (some ⟨tb, 0, none⟩)] w fun e w' => e = .returned (.int .i64 n) ∧ w' = w := by
  have c1 : w.cell? ⟨tb, 1, none⟩ = some (.int .i64 n) := by rw [cell_of_blk h.blk]; rfl
  clear h
  go_enter Tryz.func30, Tryz.ntmps30
  go_wp2
  go_ret
  exact ⟨rfl, rfl⟩

theorem get_tree (tb : Nat) (t : Tr) (n : Int) (k : ByteArray) (w : World) (init : List Tr) (c : Tr) (h : TreeAt w tb t n) (hw : WF t) (hp : t.path <+: k.data.toList) (hks : k.size ≤ 140737488351296) (hA : Along k.data.toList t (init ++ [c])) :
    Calls Tryz.prog 31 #[.pointer (some ⟨tb, 0, none⟩), .string k] w fun e w' => e = .returned (.tuple #[held (valAt c k), .bool (valAt c k).isSome]) ∧ Below w.heap.size w w' := by
  have c0 : w.cell? ⟨tb, 0, none⟩ = some (.pointer (some ⟨t.a, 0, none⟩)) := by rw [cell_of_blk h.blk]; rfl
  have HV := valueOf_calls t k w init c hA h.tat hw hp hks
  have hv : ∀ x, valAt c k = some x → VAt w x := fun x hx => by
    unfold valAt at hx
    split at hx
    · cases hx
    · exact (along_tat hA h.tat c (by simp)).val' x hx
  have HVV : Hid (∀ x, valAt c k = some x → VAt w x) := hv
  clear h hw hp hA hv
  go_enter Tryz.func31, Tryz.ntmps31
  go_wp2_with fail
  refine HV.mono ?_
  clear HV
  rintro e w1 ⟨rfl, hb1⟩
  have HG := get_calls (valAt c k) w1 (fun x hx => (HVV.out x hx).below hb1)
  have HB : Hid (Below w.heap.size w w1) := hb1
  clear hb1 c0
  go_wp2_with fail
  refine HG.mono ?_
  clear HG
  rintro e w2 ⟨rfl, rfl⟩
  go_wp2
  go_ret2
  exact ⟨rfl, HB.out⟩
end Go.Proofs.YtpnmkfbdfggnaaaGreat

/- Layer 5 (txn): Set. -/
namespace Go.Proofs.YtpnmkfbdfggnaaaGreat
open Go.RowKit
open scoped Classical
set_option linter.unusedVariables false

theorem Held.move {w W W' : World} {tb : Nat} {T : Tr} {ne : Int} {d : Nat} {es : List En} (h : Held w W tb T ne d es) (ht : TreeAt W' tb T ne) : Held W' W' tb T ne d es := ⟨⟨Below.refl _ _, ht, h.good.wf, h.good.root, h.good.dep, h.good.lo, h.good.hi⟩, h.has, h.sorted, h.cnt⟩

set_option maxRecDepth 100000 in
set_option maxHeartbeats 4000000 in
theorem set_calls (xb bb tbx mb clock : Nat) (es : Array MapEntry) (T : Tr) (ne : Int) (d : Nat) (en : List En) (ks : List ByteArray) (k : ByteArray) (v : Int) (cs : Array Value) (w : World) (hx : TxnAt w xb bb tbx mb) (hb : w.heap[bb]? = some (.cells cs 99)) (hm : MapAt w mb es clock ks) (hH : Held w w tbx T ne d en) (hk : k.size ≤ 140737488351296) (hd : d + 1 ≤ 17592186044416) :
    Calls Tryz.prog 24 #[.pointer (some ⟨xb, 0, none⟩), .string k, .int .i64 v] w fun e w' => ∃ (r1 : Value) (r2 : Bool) (tb' : Nat) (T' : Tr) (ne' : Int) (es' : Array MapEntry) (clock' : Nat), e = .returned (.tuple #[r1, .bool r2, .int .i64 0]) ∧ TxnAt w' xb bb tb' mb ∧ MapAt w' mb es' clock' (insK ks k) ∧ Held w' w' tb' T' ne' (d + 1) (insE en k v) ∧ Touched [xb, mb] w w' ∧ ∀ B, B < w.heap.size → Above B T → Above B T' := by
  obtain ⟨init, c, hA⟩ := along_split (k := k.data.toList) hH.good.wf
  have hlen := hA.len hH.good.dep
  have hlo := hH.good.lo
  have hhi := hH.good.hi
  have hv := hH.has.val hH.good.wf (root_pre hH.good.root _) hA
  have HIN := insert_calls tbx T ne k v w init c hH.good.tree hH.good.wf (root_pre hH.good.root _) hk hA (by simp at hlen; omega) (by omega) (by omega)
  have HO := over_calls xb bb tbx mb w hx
  have c1 : w.cell? ⟨xb, 1, none⟩ = some (.pointer (some ⟨tbx, 0, none⟩)) := by rw [cell_of_blk hx.blk]; rfl
  have HS : Hid (TxnAt w xb bb tbx mb ∧ w.heap[bb]? = some (.cells cs 99) ∧ MapAt w mb es clock ks ∧ Held w w tbx T ne d en ∧ (valAt c k).isSome = decide (k ∈ keysOf en)) := ⟨hx, hb, hm, hH, hv⟩
  clear hx hb hm hH hA hlen hlo hhi hv
  go_enter Tryz.func24, Tryz.ntmps24
  go_wp2_with fail
  refine HO.mono ?_
  clear HO
  rintro e w0 ⟨rfl, hw0⟩
  rw [hw0]
  clear hw0
  go_wp2_with fail
  refine HIN.mono ?_
  clear HIN
  rintro e w1 ⟨tb', T', va, vg, rfl, hb1, hT1, hI1, -, hvg, -⟩
  have HAB : Hid (∀ B, B < w.heap.size → Above B T → Above B T') := fun B hB hA => hI1.over hB (by show B < vg; omega) hA
  have hH1 : Held w w1 tb' T' _ (d + 1) (insE en k v) := HS.out.2.2.2.1.insert hb1 hT1 hI1 HS.out.2.2.2.2
  have hx1 := HS.out.1.below hb1
  have d1 : w1.cell? ⟨xb, 1, none⟩ = some (.pointer (some ⟨tbx, 0, none⟩)) := by rw [cell_of_blk hx1.blk]; rfl
  have y1 : w1.frozen? ⟨xb, 1, none⟩ = false := frozen_of_blk hx1.blk
  obtain ⟨w2, HW2⟩ : ∃ w2, Hid (w2 = w1.setCell ⟨xb, 1, none⟩ (.pointer (some ⟨tb', 0, none⟩))) := ⟨_, rfl⟩
  have t12 : Touched [xb] w1 w2 := by rw [HW2.out]; exact (Touched.refl _ _).setCell _ _ (.inl (by simp))
  have hoff1 : Off w1 xb := hx1.off ((hb1.block _ (lt_of_heap HS.out.2.1)).trans HS.out.2.1) ((hb1.block _ (lt_of_heap HS.out.2.2.2.1.good.tree.blk)).trans HS.out.2.2.2.1.good.tree.blk)
  have hx2 : TxnAt w2 xb bb tb' mb := ⟨by rw [HW2.out, setCell_blk hx1.blk]; rfl⟩
  have hm1 := HS.out.2.2.1.below hb1
  have hmx : mb ≠ xb := fun e => by have := hm1.blk; rw [e, hx1.blk] at this; cases this
  have hm2 : MapAt w2 mb es clock ks := ⟨(t12.block _ (lt_of_heap hm1.blk) (by simpa using hmx)).trans hm1.blk, hm1.st, hm1.keys, hm1.vals⟩
  have hT2 : TreeAt w2 tb' T' _ := hH1.good.tree.offs (· ∈ [xb]) (fun b hb hn => t12.block b hb hn) (fun b hb => by simp at hb; subst hb; exact hoff1)
  have HTO := touch_calls xb bb tb' mb clock es ks k w2 hx2 hm2 hk
  have H2 : Hid (Touched [xb, mb] w w2 ∧ TxnAt w2 xb bb tb' mb ∧ Held w2 w2 tb' T' _ (d + 1) (insE en k v) ∧ ∃ es cl, w2.heap[mb]? = some (.map es cl)) := ⟨(Touched.ofBelow hb1 _).trans (t12.weaken (by simp)), hx2, hH1.move hT2, _, _, hm2.blk⟩
  clear hb1 hT1 hI1 hvg hH1 hx1 t12 hoff1 hx2 hm1 hmx hm2 hT2
  go_wp2_with fail
  rw [← HW2.out]
  clear HW2
  refine HTO.mono ?_
  clear HTO
  rintro e w3 ⟨rfl, ht3, es', clock', hm3⟩
  have HFIN : Hid (TxnAt w3 xb bb tb' mb ∧ MapAt w3 mb es' clock' (insK ks k) ∧ Held w3 w3 tb' T' (ne + plusNew (valAt c k)) (d + 1) (insE en k v) ∧ Touched [xb, mb] w w3 ∧ ∀ B, B < w.heap.size → Above B T → Above B T') := by
    obtain ⟨a, b, hmb⟩ := H2.out.2.2.2
    have hmx : xb ≠ mb := fun e => by have := hmb; rw [← e, H2.out.2.1.blk] at this; cases this
    refine ⟨⟨(ht3.block _ (lt_of_heap H2.out.2.1.blk) (by simpa using hmx)).trans H2.out.2.1.blk⟩, hm3, H2.out.2.2.1.move ?_, H2.out.1.trans (ht3.weaken (by simp)), HAB.out⟩
    exact H2.out.2.2.1.good.tree.offs (· ∈ [mb]) (fun b hb hn => ht3.block b hb hn) (fun b hb => by simp at hb; subst hb; exact .inl ⟨_, _, hmb⟩)
  clear ht3 hm3
  go_wp2
  refine bodyPost_ret (v := .tuple #[held (valAt c k), .bool (valAt c k).isSome, .int .i64 0]) (by simp [results, Tryz.results24, go_sem]) rfl ?_
  exact ⟨_, _, tb', T', _, es', clock', rfl, HFIN.out⟩
end Go.Proofs.YtpnmkfbdfggnaaaGreat
