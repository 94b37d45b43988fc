import Derived.Test.YtdmhffbohnfdlaaGreatRHasI
import Derived.Test.YtdmhffbohnfdlaaGreatRDel
import Derived.Test.YtdmhffbohnfdlaaGreatWSync
import Derived.Test.YtdmhffbohnfdlaaGreatRDelete
import Derived.Test.YtdmhffbohnfdlaaGreatTSet
/- Layer 3 (radix): what a tree holds behind Delete. -/
namespace Go.Proofs.YtdmhffbohnfdlaaGreat
open Go.RowKit
set_option linter.unusedVariables false

theorem has_needed (t : Tr) (k : List UInt8) (x : Value) : (∃ d ∈ neededOf t, Has d k x) ↔ Has t k x := by
  unfold neededOf
  split
  · simp
  · rename_i h
    rw [has_tr]
    simp at h
    constructor
    · exact .inr
    · rintro (⟨y, h1, -⟩ | h1)
      · rw [h.1] at h1; cases h1
      · exact h1

theorem DelR.has {N : Nat} {k : ByteArray} {t T : Tr} (h : DelR N k t T) (ht : WF t) (hp : t.path <+: k.data.toList) : ∀ (k' : List UInt8) (x : Value), Has T k' x ↔ (k' ≠ k.data.toList ∧ Has t k' x) := by
  induction h with
  | @here t a g hs ha hg =>
    intro k' x
    have hpe := path_eq hp hs
    rw [has_tr, has_tr (t := t)]
    simp only [Tr.v, Tr.ks]
    constructor
    · rintro (⟨y, h1, -⟩ | ⟨c, hc, h⟩)
      · cases h1
      · refine ⟨fun e => ?_, .inr ⟨c, hc, h⟩⟩
        have h1 := kid_longer ht hc h
        rw [e, ← hpe, path_length] at h1
        omega
    · rintro ⟨h1, ⟨y, h2, h3, h4⟩ | h2⟩
      · exact absurd (h3.trans hpe) h1
      · exact .inr h2
  | @down t c c' a g hn hs h ha hg ih =>
    obtain ⟨hc, hcp⟩ := nx_mem hn
    obtain ⟨hq, hbq⟩ := there_true hs (nx_there ht hs hn)
    have hcb : c.byte t.p.size = k[t.p.size] := by
      unfold Tr.byte
      exact key_pre hcp (by rw [path_length]; exact (ht.ext' c hc).2) hs
    have hce : t.ks[posn t.ks t.p.size k[t.p.size]] = c := ht.inj (List.getElem_mem hq) hc (by rw [hbq, hcb])
    intro k' x
    have := has_repl ht hq (by rw [key_len]; exact hs) (by rw [hbq, getD_key k _ hs]) (L := neededOf c') (A := fun k' x => False) (fun _ _ h => h.elim) (fun k2 x2 => ?_) a g k' x
    · rw [this]; simp
    · rw [has_needed, hce, ih (ht.kids' c hc) hcp k2 x2]; simp
end Go.Proofs.YtdmhffbohnfdlaaGreat

/- Layer 3 (radix): Delete keeps trees well made. -/
namespace Go.Proofs.YtdmhffbohnfdlaaGreat
open Go.RowKit
set_option linter.unusedVariables false

theorem mem_repl {ks : List Tr} {q r : Nat} {L : List Tr} {x : Tr} (h : x ∈ ks.take q ++ L ++ ks.drop r) : x ∈ ks ∨ x ∈ L := by
  simp only [List.mem_append] at h
  rcases h with (h | h) | h
  · exact .inl (List.mem_of_mem_take h)
  · exact .inr h
  · exact .inl (List.mem_of_mem_drop h)

/-- The kid at q goes. -/
theorem wf_drop {t : Tr} (h : WF t) {q a g : Nat} (v : Option Vl) : WF (.nd a t.p v (t.ks.take q ++ [] ++ t.ks.drop (q + 1)) g) := by
  refine .mk (fun c hc => ?_) (fun c hc => ?_) ?_
  · rcases mem_repl hc with hc | hc
    · exact h.kids' c hc
    · simp at hc
  · rcases mem_repl hc with hc | hc
    · exact h.ext' c hc
    · simp at hc
  · refine List.Pairwise.sublist ?_ h.ord'
    refine List.Sublist.map _ ?_
    rw [List.append_nil]
    refine List.Sublist.trans (List.Sublist.append (List.Sublist.refl _) ((List.drop_sublist_drop_left t.ks (Nat.le_succ q)))) ?_
    rw [List.take_append_drop]
    exact List.Sublist.refl _

theorem needed_mem {t d : Tr} (h : d ∈ neededOf t) : d = t ∨ d ∈ t.ks := by
  unfold neededOf at h
  split at h
  · left; simpa using h
  · exact .inr h

theorem DelR.wf {N : Nat} {k : ByteArray} {t T : Tr} (h : DelR N k t T) (ht : WF t) (hp : t.path <+: k.data.toList) : WF T ∧ T.p = t.p := by
  induction h with
  | @here t a g hs ha hg => exact ⟨.mk ht.kids' ht.ext' ht.ord', rfl⟩
  | @down t c c' a g hn hs h ha hg ih =>
    obtain ⟨hc, hcp⟩ := nx_mem hn
    have hx := ht.ext' c hc
    obtain ⟨i1, i2⟩ := ih (ht.kids' c hc) hcp
    obtain ⟨hq, hbq⟩ := there_true hs (nx_there ht hs hn)
    have hcb : c.byte t.p.size = k[t.p.size] := by
      unfold Tr.byte
      exact key_pre hcp (by rw [path_length]; exact hx.2) hs
    have hpc : c'.path = c.path := by unfold Tr.path; rw [i2]
    refine ⟨?_, rfl⟩
    have hfew := neededOf_few c'
    cases hL : neededOf c' with
    | nil => exact wf_drop ht _
    | cons J r =>
      have hr : r = [] := by rw [hL] at hfew; simp at hfew; exact hfew
      subst hr
      have hJ : J = c' ∨ J ∈ c'.ks := needed_mem (by rw [hL]; simp)
      have hJ1 : WF J ∧ c'.path <+: J.path ∧ c'.p.size ≤ J.p.size := by
        rcases hJ with rfl | hJ
        · exact ⟨i1, List.prefix_refl _, Nat.le_refl _⟩
        · exact ⟨i1.kids' _ hJ, (i1.ext' _ hJ).1, Nat.le_of_lt (i1.ext' _ hJ).2⟩
      refine wf_set ht hq hJ1.1 ?_ ?_ ?_ _
      · exact (hpc ▸ hx.1 : t.path <+: c'.path).trans hJ1.2.1
      · have := hJ1.2.2; rw [i2] at this; omega
      · rw [hbq, ← hcb, ← byte_pre hJ1.2.1 (by rw [i2]; exact hx.2)]
        unfold Tr.byte; rw [hpc]

theorem DelR.dep {N : Nat} {k : ByteArray} {t T : Tr} (h : DelR N k t T) : ∀ {n : Nat}, Dep n t → Dep n T := by
  induction h with
  | @here t a g hs ha hg =>
    intro n hd
    cases n with
    | zero => cases hd
    | succ n => exact hd
  | @down t c c' a g hn hs h ha hg ih =>
    intro n hd
    cases n with
    | zero => cases hd
    | succ n =>
      intro x hx
      rcases mem_repl hx with hx | hx
      · exact hd x hx
      · have hc := ih (hd c (nx_mem hn).1)
        rcases needed_mem hx with rfl | hx
        · exact hc
        · cases n with
          | zero => cases hc
          | succ n => exact (hc x hx).mono (Nat.le_succ _)
end Go.Proofs.YtdmhffbohnfdlaaGreat

/- Layer 4 (walk): a tree behind Delete. -/
namespace Go.Proofs.YtdmhffbohnfdlaaGreat
open Go.RowKit
set_option linter.unusedVariables false

theorem Held.delete {w W W' : World} {tb tb' N : Nat} {T T' : Tr} {ne : Int} {d : Nat} {k : ByteArray} {es : List En} (h : Held w W tb T ne d es) (hb : Below W.heap.size W W') (ht : TreeAt W' tb' T' (ne - 1)) (hi : DelR N k T T') (hk : k ∈ keysOf es) : Held w W' tb' T' (ne - 1) d (delE es k) := by
  have hp := root_pre h.good.root k.data.toList
  have hw := hi.wf h.good.wf hp
  have hc := h.cnt
  have hd := delE_count h.sorted hk
  have h2 := h.good.hi
  refine ⟨⟨h.good.below.trans (hb.mono h.good.below.size), ht, hw.1, hw.2.trans h.good.root, hi.dep h.good.dep, by omega, by omega⟩, fun k' x => ?_, delE_sorted h.sorted _, by omega⟩
  rw [hi.has h.good.wf hp, h.has]
  constructor
  · rintro ⟨h1, e, he, rfl, rfl⟩
    exact ⟨e, (mem_delE h.sorted).2 ⟨fun h3 => h1 (by rw [kyl, h3]), he⟩, rfl, rfl⟩
  · rintro ⟨e, he, rfl, rfl⟩
    obtain ⟨h1, h2⟩ := (mem_delE h.sorted).1 he
    exact ⟨fun h3 => h1 (ky_inj h3), e, h2, rfl, rfl⟩
end Go.Proofs.YtdmhffbohnfdlaaGreat

/- Layer 5 (txn): Drop. -/
namespace Go.Proofs.YtdmhffbohnfdlaaGreat
open Go.RowKit
open scoped Classical
set_option linter.unusedVariables false

theorem neededOf_above {B : Nat} {t : Tr} (h : Above B t) : ∀ c ∈ neededOf t, Above B c := by
  intro c hc
  unfold neededOf at hc
  split at hc
  · simp at hc; subst hc; exact h
  · exact h.k c hc
theorem DelR.over {B N : Nat} {k : ByteArray} {t T : Tr} (h : DelR N k t T) (hN : B < N) : Above B t → Above B T := by
  induction h with
  | here hp ha hg => exact fun ht => .mk (by omega) (fun x e => by cases e) ht.k
  | down hn hp h ha hg ih =>
    intro ht
    refine .mk (by omega) ht.v fun d hd => ?_
    simp only [List.mem_append] at hd
    rcases hd with (hd | hd) | hd
    · exact ht.k _ (List.mem_of_mem_take hd)
    · exact neededOf_above (ih (ht.k _ (nx_mem hn).1)) d hd
    · exact ht.k _ (List.mem_of_mem_drop hd)

/-- What Drop leaves. -/
def DropP (xb bb mb : Nat) (T : Tr) (d : Nat) (en : List En) (ks : List ByteArray) (k : ByteArray) (w w' : World) : Prop :=
  ∃ (tb' : Nat) (T' : Tr) (ne' : Int) (es' : Array MapEntry) (clock' : Nat), TxnAt w' xb bb tb' mb ∧ MapAt w' mb es' clock' (if k ∈ keysOf en then insK ks k else ks) ∧ Held w' w' tb' T' ne' d (delE en k) ∧ Touched [xb, mb] w w' ∧ (∀ B, B < w.heap.size → Above B T → Above B T') ∧ (marks T').length ≤ (marks T).length

set_option maxRecDepth 100000 in
set_option maxHeartbeats 4000000 in
theorem drop_calls (xb bb tbx mb clock : Nat) (es : Array MapEntry) (T : Tr) (ne : Int) (d : Nat) (en : List En) (ks : List ByteArray) (k : ByteArray) (cs : Array Value) (w : World) (hx : TxnAt w xb bb tbx mb) (hb : w.heap[bb]? = some (.cells cs 97)) (hm : MapAt w mb es clock ks) (hH : Held w w tbx T ne d en) (hk : k.size ≤ 140737488351296) (hd : d + 1 ≤ 17592186044416) :
    Calls Tryz.prog 20 #[.pointer (some ⟨xb, 0, none⟩), .string k] w fun e w' => ∃ (r1 : Value) (r2 : Bool), e = .returned (.tuple #[r1, .bool r2, .int .i64 0]) ∧ DropP xb bb mb T d en ks k w w' := by
  obtain ⟨init, c, hA⟩ := along_split (k := k.data.toList) hH.good.wf
  have hlen := hA.len hH.good.dep
  have hlo := hH.good.lo
  have hhi := hH.good.hi
  have hv := hH.has.val hH.good.wf (root_pre hH.good.root _) hA
  have HDE := delete_calls tbx T ne k w init c hH.good.tree hH.good.wf (root_pre hH.good.root _) hk hA (by simp at hlen; omega) (by omega) (by omega)
  have HO := over_calls xb bb tbx mb w hx
  have c1 : w.cell? ⟨xb, 1, none⟩ = some (.pointer (some ⟨tbx, 0, none⟩)) := by rw [cell_of_blk hx.blk]; rfl
  have HS : Hid (TxnAt w xb bb tbx mb ∧ w.heap[bb]? = some (.cells cs 97) ∧ MapAt w mb es clock ks ∧ Held w w tbx T ne d en ∧ (valAt c k).isSome = decide (k ∈ keysOf en)) := ⟨hx, hb, hm, hH, hv⟩
  clear hx hb hm hH hA hlen hlo hhi hv
  go_enter Tryz.func20, Tryz.ntmps20
  go_wp2_with fail
  refine HO.mono ?_
  clear HO
  rintro e w0 ⟨rfl, hw0⟩
  rw [hw0]
  clear hw0
  go_wp2_with fail
  refine HDE.mono ?_
  clear HDE
  rintro e w1 ⟨hb1, hcase⟩
  have hx1 := HS.out.1.below hb1
  have d1 : w1.cell? ⟨xb, 1, none⟩ = some (.pointer (some ⟨tbx, 0, none⟩)) := by rw [cell_of_blk hx1.blk]; rfl
  have y1 : w1.frozen? ⟨xb, 1, none⟩ = false := frozen_of_blk hx1.blk
  have hoff1 : Off w1 xb := hx1.off ((hb1.block _ (lt_of_heap HS.out.2.1)).trans HS.out.2.1) ((hb1.block _ (lt_of_heap HS.out.2.2.2.1.good.tree.blk)).trans HS.out.2.2.2.1.good.tree.blk)
  have hm1 := HS.out.2.2.1.below hb1
  have hmx : mb ≠ xb := fun e => by have := hm1.blk; rw [e, hx1.blk] at this; cases this
  -- behind the store
  have HST : Hid (∀ (tb' : Nat) (T' : Tr) (ne' : Int), Held w w1 tb' T' ne' d (delE en k) → ∃ w2, Hid (w2 = w1.setCell ⟨xb, 1, none⟩ (.pointer (some ⟨tb', 0, none⟩))) ∧ TxnAt w2 xb bb tb' mb ∧ MapAt w2 mb es clock ks ∧ Held w2 w2 tb' T' ne' d (delE en k) ∧ Touched [xb, mb] w w2) := fun tb' T' ne' hH1 => by
    refine ⟨_, rfl, ?_⟩
    have t12 : Touched [xb] w1 (w1.setCell ⟨xb, 1, none⟩ (.pointer (some ⟨tb', 0, none⟩))) := (Touched.refl _ _).setCell _ _ (.inl (by simp))
    refine ⟨⟨by rw [setCell_blk hx1.blk]; rfl⟩, ⟨(t12.block _ (lt_of_heap hm1.blk) (by simpa using hmx)).trans hm1.blk, hm1.st, hm1.keys, hm1.vals⟩, hH1.move ?_, (Touched.ofBelow hb1 _).trans (t12.weaken (by simp))⟩
    exact hH1.good.tree.offs (· ∈ [xb]) (fun b hb hn => t12.block b hb hn) (fun b hb => by simp at hb; subst hb; exact hoff1)
  rcases hcase with ⟨hva, rfl⟩ | ⟨x, tb', T', hva, rfl, hT1, hD1, -⟩
  · have hno : k ∉ keysOf en := of_decide_eq_false (by rw [← HS.out.2.2.2.2, hva]; rfl)
    obtain ⟨w2, HW2, hx2, hm2, hH2, ht2⟩ := HST.out tbx T ne (by rw [delE_none HS.out.2.2.2.1.sorted hno]; exact HS.out.2.2.2.1.keep hb1)
    have HFIN : Hid (DropP xb bb mb T d en ks k w w2) := ⟨tbx, T, ne, es, clock, hx2, by rw [if_neg hno]; exact hm2, hH2, ht2, fun _ _ h => h, Nat.le_refl _⟩
    clear hx2 hm2 hH2 ht2 hno hva hb1 hx1 hoff1 hm1 hmx HST HS
    go_wp2_with fail
    rw [← HW2.out]
    clear HW2
    refine bodyPost_ret (v := .tuple #[.int .i64 0, .bool false, .int .i64 0]) (by simp [results, Tryz.results20, go_sem]) rfl ?_
    exact ⟨_, _, rfl, HFIN.out⟩
  · have hin : k ∈ keysOf en := of_decide_eq_true (by rw [← HS.out.2.2.2.2, hva]; rfl)
    obtain ⟨w2, HW2, hx2, hm2, hH2, ht2⟩ := HST.out tb' T' (ne - 1) (HS.out.2.2.2.1.delete hb1 hT1 hD1 hin)
    have HTO := touch_calls xb bb tb' mb clock es ks k w2 hx2 hm2 hk
    have H2 : Hid (Touched [xb, mb] w w2 ∧ TxnAt w2 xb bb tb' mb ∧ Held w2 w2 tb' T' (ne - 1) d (delE en k) ∧ (∃ es cl, w2.heap[mb]? = some (.map es cl)) ∧ k ∈ keysOf en ∧ (∀ B, B < w.heap.size → Above B T → Above B T') ∧ (marks T').length ≤ (marks T).length) := ⟨ht2, hx2, hH2, ⟨_, _, hm2.blk⟩, hin, fun B hB hA => hD1.over hB hA, hD1.len HS.out.2.2.2.1.good.wf⟩
    obtain ⟨xv, hxv⟩ : ∃ xv, xv = x.x := ⟨_, rfl⟩
    rw [← hxv]
    clear hx2 hm2 hH2 ht2 hin hva hb1 hx1 hoff1 hm1 hmx HST HS hT1 hD1 hxv
    go_wp2_with fail
    rw [← HW2.out]
    clear HW2
    refine HTO.mono ?_
    clear HTO
    rintro e w3 ⟨rfl, ht3, es', clock', hm3⟩
    have HFIN : Hid (DropP xb bb mb T d en ks k w w3) := by
      obtain ⟨a, b, hmb⟩ := H2.out.2.2.2.1
      have hmx : xb ≠ mb := fun e => by have := hmb; rw [← e, H2.out.2.1.blk] at this; cases this
      refine ⟨tb', T', ne - 1, es', clock', ⟨(ht3.block _ (lt_of_heap H2.out.2.1.blk) (by simpa using hmx)).trans H2.out.2.1.blk⟩, by rw [if_pos H2.out.2.2.2.2.1]; exact hm3, H2.out.2.2.1.move ?_, H2.out.1.trans (ht3.weaken (by simp)), H2.out.2.2.2.2.2⟩
      exact H2.out.2.2.1.good.tree.offs (· ∈ [mb]) (fun b hb hn => ht3.block b hb hn) (fun b hb => by simp at hb; subst hb; exact .inl ⟨_, _, hmb⟩)
    clear ht3 hm3 H2
    go_wp2
    refine bodyPost_ret (v := .tuple #[xv, .bool true, .int .i64 0]) (by simp [results, Tryz.results20, go_sem]) rfl ?_
    exact ⟨_, _, rfl, HFIN.out⟩
end Go.Proofs.YtdmhffbohnfdlaaGreat
