import Derived.Test.YtpnmkfbdfggnaaaGreatTEnd
import Derived.Test.YtpnmkfbdfggnaaaGreatXHeld
import Derived.Test.YtpnmkfbdfggnaaaGreatRAlong2
import Derived.Test.YtpnmkfbdfggnaaaGreatTCommit
/- Layer 5 (txn): all watches of a tree stand beyond a bound. -/
namespace Go.Proofs.YtpnmkfbdfggnaaaGreat
open Go.RowKit
set_option linter.unusedVariables false

inductive Above (B : Nat) : Tr → Prop
  | mk {a p v ks g} (hg : B < g) (hv : ∀ x : Vl, v = some x → B < x.g) (hk : ∀ c ∈ ks, Above B c) : Above B (.nd a p v ks g)
theorem Above.g {B : Nat} {t : Tr} (h : Above B t) : B < t.g := by cases h; assumption
theorem Above.v {B : Nat} {t : Tr} (h : Above B t) : ∀ x : Vl, t.v = some x → B < x.g := by cases h; assumption
theorem Above.k {B : Nat} {t : Tr} (h : Above B t) : ∀ c ∈ t.ks, Above B c := by cases h; assumption

theorem JoinR.over {B N : Nat} {k : ByteArray} {v : Vl} {n T : Tr} (h : JoinR N k v n T) (hN : B < N) (hv : B < v.g) (hn : Above B n) : Above B T := by
  have hl : ∀ {l gl : Nat} {p : ByteArray}, N ≤ gl → Above B (.nd l p (some v) [] gl) := fun h => .mk (by omega) (fun x e => by cases e; exact hv) (fun c hc => by simp at hc)
  cases h with
  | above ha hg hp _ => exact .mk (by omega) (fun x e => by cases e; exact hv) (fun c hc => by simp at hc; subst hc; exact hn)
  | less ha hg _ hgl _ _ _ _ => exact .mk (by omega) (fun x e => by cases e) (fun c hc => by simp at hc; rcases hc with rfl | rfl; exact hl hgl; exact hn)
  | more ha hg _ hgl _ _ _ _ => exact .mk (by omega) (fun x e => by cases e) (fun c hc => by simp at hc; rcases hc with rfl | rfl; exact hn; exact hl hgl)
theorem EntR.over {B N : Nat} {k : ByteArray} {v : Vl} {t T : Tr} (h : EntR N k v t T) (hN : B < N) (hv : B < v.g) (ht : Above B t) : Above B T := by
  cases h with
  | here ha hg hp => exact .mk (by omega) (fun x e => by cases e; exact hv) ht.k
  | leaf ha hg hl hgl hp hno =>
    refine .mk (by omega) ht.v fun c hc => ?_
    simp only [List.mem_append, List.mem_singleton] at hc
    rcases hc with (hc | rfl) | hc
    · exact ht.k _ (List.mem_of_mem_take hc)
    · exact .mk (by omega) (fun x e => by cases e; exact hv) (fun c hc => by simp at hc)
    · exact ht.k _ (List.mem_of_mem_drop hc)
  | join ha hg hp hq hc hb hn hJ =>
    refine .mk (by omega) ht.v fun d hd => ?_
    simp only [List.mem_append, List.mem_singleton] at hd
    rcases hd with (hd | rfl) | hd
    · exact ht.k _ (List.mem_of_mem_take hd)
    · exact hJ.over hN hv (ht.k _ (hc ▸ List.getElem_mem hq))
    · exact ht.k _ (List.mem_of_mem_drop hd)
theorem InsR.over {B N : Nat} {k : ByteArray} {v : Vl} {t T : Tr} (h : InsR N k v t T) (hN : B < N) (hv : B < v.g) : Above B t → Above B T := by
  induction h with
  | entry hn h => exact fun ht => h.over hN hv ht
  | down hn hp h ha hg ih =>
    intro ht
    refine .mk (by omega) ht.v fun d hd => ?_
    simp only [List.mem_append, List.mem_singleton] at hd
    rcases hd with (hd | rfl) | hd
    · exact ht.k _ (List.mem_of_mem_take hd)
    · exact ih (ht.k _ (nx_mem hn).1)
    · exact ht.k _ (List.mem_of_mem_drop hd)
theorem along_above {B : Nat} {k : List UInt8} {t : Tr} {l : List Tr} (h : Along k t l) : Above B t → ∀ c ∈ l, Above B c := by
  induction h with
  | stop h => intro ht c hc; simp at hc; subst hc; exact ht
  | go h r ih =>
    intro ht c hc
    rcases List.mem_cons.1 hc with rfl | hc
    · exact ht
    · exact ih (ht.k _ (nx_mem h).1) c hc
/-- All that a commit fires stands beyond the bound. -/
theorem waysOf_above {B : Nat} {T : Tr} {ks : List ByteArray} {way : ByteArray → List Tr} (hT : Above B T) (hw : ∀ k ∈ ks, Along k.data.toList T (way k)) : ∀ x ∈ waysOf way ks, B < x := by
  intro x hx
  obtain ⟨k, hk, hx⟩ := List.mem_flatMap.1 hx
  obtain ⟨t, ht, hx⟩ := List.mem_flatMap.1 hx
  have hat := along_above (hw k hk) hT t ht
  unfold wayN at hx
  rcases List.mem_cons.1 hx with rfl | hx
  · exact hat.g
  · cases hv : t.v with
    | none => rw [hv] at hx; simp at hx
    | some v =>
      rw [hv] at hx
      by_cases hs : t.p.size = k.size
      · simp [hs] at hx
        subst hx
        exact hat.v v hv
      · simp [hs] at hx
theorem both_above {B : Nat} {gs : List Nat} (h : ∀ x ∈ gs, B < x) : ∀ x ∈ both gs, B ≤ x := by
  intro x hx
  unfold both at hx
  rcases List.mem_append.1 hx with hx | hx
  · exact Nat.le_of_lt (h x hx)
  · obtain ⟨y, hy, rfl⟩ := List.mem_map.1 hx
    have := h y hy
    omega
end Go.Proofs.YtpnmkfbdfggnaaaGreat

/- Layer 5 (txn): Set. -/
namespace Go.Proofs.YtpnmkfbdfggnaaaGreat
open Go.RowKit
open scoped Classical
set_option linter.unusedVariables false

theorem Held.move {w W W' : World} {tb : Nat} {T : Tr} {ne : Int} {d : Nat} {es : List En} (h : Held w W tb T ne d es) (ht : TreeAt W' tb T ne) : Held W' W' tb T ne d es := ⟨⟨Below.refl _ _, ht, h.good.wf, h.good.root, h.good.dep, h.good.lo, h.good.hi⟩, h.has, h.sorted, h.cnt⟩

set_option maxRecDepth 100000 in
set_option maxHeartbeats 4000000 in
theorem set_calls (xb bb tbx mb clock : Nat) (es : Array MapEntry) (T : Tr) (ne : Int) (d : Nat) (en : List En) (ks : List ByteArray) (k : ByteArray) (v : Int) (cs : Array Value) (w : World) (hx : TxnAt w xb bb tbx mb) (hb : w.heap[bb]? = some (.cells cs 99)) (hm : MapAt w mb es clock ks) (hH : Held w w tbx T ne d en) (hk : k.size ≤ 140737488351296) (hd : d + 1 ≤ 17592186044416) :
    Calls Tryz.prog 24 #[.pointer (some ⟨xb, 0, none⟩), .string k, .int .i64 v] w fun e w' => ∃ (r1 : Value) (r2 : Bool) (tb' : Nat) (T' : Tr) (ne' : Int) (es' : Array MapEntry) (clock' : Nat), e = .returned (.tuple #[r1, .bool r2, .int .i64 0]) ∧ TxnAt w' xb bb tb' mb ∧ MapAt w' mb es' clock' (insK ks k) ∧ Held w' w' tb' T' ne' (d + 1) (insE en k v) ∧ Touched [xb, mb] w w' ∧ ∀ B, B < w.heap.size → Above B T → Above B T' := by
  obtain ⟨init, c, hA⟩ := along_split (k := k.data.toList) hH.good.wf
  have hlen := hA.len hH.good.dep
  have hlo := hH.good.lo
  have hhi := hH.good.hi
  have hv := hH.has.val hH.good.wf (root_pre hH.good.root _) hA
  have HIN := insert_calls tbx T ne k v w init c hH.good.tree hH.good.wf (root_pre hH.good.root _) hk hA (by simp at hlen; omega) (by omega) (by omega)
  have HO := over_calls xb bb tbx mb w hx
  have c1 : w.cell? ⟨xb, 1, none⟩ = some (.pointer (some ⟨tbx, 0, none⟩)) := by rw [cell_of_blk hx.blk]; rfl
  have HS : Hid (TxnAt w xb bb tbx mb ∧ w.heap[bb]? = some (.cells cs 99) ∧ MapAt w mb es clock ks ∧ Held w w tbx T ne d en ∧ (valAt c k).isSome = decide (k ∈ keysOf en)) := ⟨hx, hb, hm, hH, hv⟩
  clear hx hb hm hH hA hlen hlo hhi hv
  go_enter Tryz.func24, Tryz.ntmps24
  go_wp2_with fail
  refine HO.mono ?_
  clear HO
  rintro e w0 ⟨rfl, hw0⟩
  rw [hw0]
  clear hw0
  go_wp2_with fail
  refine HIN.mono ?_
  clear HIN
  rintro e w1 ⟨tb', T', va, vg, rfl, hb1, hT1, hI1, -, hvg, -⟩
  have HAB : Hid (∀ B, B < w.heap.size → Above B T → Above B T') := fun B hB hA => hI1.over hB (by show B < vg; omega) hA
  have hH1 : Held w w1 tb' T' _ (d + 1) (insE en k v) := HS.out.2.2.2.1.insert hb1 hT1 hI1 HS.out.2.2.2.2
  have hx1 := HS.out.1.below hb1
  have d1 : w1.cell? ⟨xb, 1, none⟩ = some (.pointer (some ⟨tbx, 0, none⟩)) := by rw [cell_of_blk hx1.blk]; rfl
  have y1 : w1.frozen? ⟨xb, 1, none⟩ = false := frozen_of_blk hx1.blk
  obtain ⟨w2, HW2⟩ : ∃ w2, Hid (w2 = w1.setCell ⟨xb, 1, none⟩ (.pointer (some ⟨tb', 0, none⟩))) := ⟨_, rfl⟩
  have t12 : Touched [xb] w1 w2 := by rw [HW2.out]; exact (Touched.refl _ _).setCell _ _ (.inl (by simp))
  have hoff1 : Off w1 xb := hx1.off ((hb1.block _ (lt_of_heap HS.out.2.1)).trans HS.out.2.1) ((hb1.block _ (lt_of_heap HS.out.2.2.2.1.good.tree.blk)).trans HS.out.2.2.2.1.good.tree.blk)
  have hx2 : TxnAt w2 xb bb tb' mb := ⟨by rw [HW2.out, setCell_blk hx1.blk]; rfl⟩
  have hm1 := HS.out.2.2.1.below hb1
  have hmx : mb ≠ xb := fun e => by have := hm1.blk; rw [e, hx1.blk] at this; cases this
  have hm2 : MapAt w2 mb es clock ks := ⟨(t12.block _ (lt_of_heap hm1.blk) (by simpa using hmx)).trans hm1.blk, hm1.st, hm1.keys, hm1.vals⟩
  have hT2 : TreeAt w2 tb' T' _ := hH1.good.tree.offs (· ∈ [xb]) (fun b hb hn => t12.block b hb hn) (fun b hb => by simp at hb; subst hb; exact hoff1)
  have HTO := touch_calls xb bb tb' mb clock es ks k w2 hx2 hm2 hk
  have H2 : Hid (Touched [xb, mb] w w2 ∧ TxnAt w2 xb bb tb' mb ∧ Held w2 w2 tb' T' _ (d + 1) (insE en k v) ∧ ∃ es cl, w2.heap[mb]? = some (.map es cl)) := ⟨(Touched.ofBelow hb1 _).trans (t12.weaken (by simp)), hx2, hH1.move hT2, _, _, hm2.blk⟩
  clear hb1 hT1 hI1 hvg hH1 hx1 t12 hoff1 hx2 hm1 hmx hm2 hT2
  go_wp2_with fail
  rw [← HW2.out]
  clear HW2
  refine HTO.mono ?_
  clear HTO
  rintro e w3 ⟨rfl, ht3, es', clock', hm3⟩
  have HFIN : Hid (TxnAt w3 xb bb tb' mb ∧ MapAt w3 mb es' clock' (insK ks k) ∧ Held w3 w3 tb' T' (ne + plusNew (valAt c k)) (d + 1) (insE en k v) ∧ Touched [xb, mb] w w3 ∧ ∀ B, B < w.heap.size → Above B T → Above B T') := by
    obtain ⟨a, b, hmb⟩ := H2.out.2.2.2
    have hmx : xb ≠ mb := fun e => by have := hmb; rw [← e, H2.out.2.1.blk] at this; cases this
    refine ⟨⟨(ht3.block _ (lt_of_heap H2.out.2.1.blk) (by simpa using hmx)).trans H2.out.2.1.blk⟩, hm3, H2.out.2.2.1.move ?_, H2.out.1.trans (ht3.weaken (by simp)), HAB.out⟩
    exact H2.out.2.2.1.good.tree.offs (· ∈ [mb]) (fun b hb hn => ht3.block b hb hn) (fun b hb => by simp at hb; subst hb; exact .inl ⟨_, _, hmb⟩)
  clear ht3 hm3
  go_wp2
  refine bodyPost_ret (v := .tuple #[held (valAt c k), .bool (valAt c k).isSome, .int .i64 0]) (by simp [results, Tryz.results24, go_sem]) rfl ?_
  exact ⟨_, _, tb', T', _, es', clock', rfl, HFIN.out⟩
end Go.Proofs.YtpnmkfbdfggnaaaGreat
