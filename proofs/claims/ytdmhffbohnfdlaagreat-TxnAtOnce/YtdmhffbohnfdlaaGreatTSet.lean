import Derived.Test.YtdmhffbohnfdlaaGreatRDel
import Derived.Test.YtdmhffbohnfdlaaGreatRHasI
import Derived.Test.YtdmhffbohnfdlaaGreatWSync
import Derived.Test.YtdmhffbohnfdlaaGreatTCommit
/- Layer 5 (txn): how many watches a tree has. -/
namespace Go.Proofs.YtdmhffbohnfdlaaGreat
open Go.RowKit
set_option linter.unusedVariables false

def vmark : Option Vl → List Nat
  | some x => [x.g]
  | none => []
def marks : Tr → List Nat
  | .nd _ _ v ks g => g :: (vmark v ++ ks.flatMap (fun c => marks c))
theorem marks_nd (a : Nat) (p : ByteArray) (v : Option Vl) (ks : List Tr) (g : Nat) : marks (.nd a p v ks g) = g :: (vmark v ++ ks.flatMap marks) := by rw [marks]
theorem marks_tr (t : Tr) : marks t = t.g :: (vmark t.v ++ t.ks.flatMap marks) := by cases t; exact marks_nd ..
theorem len_nd (a : Nat) (p : ByteArray) (v : Option Vl) (ks : List Tr) (g : Nat) : (marks (.nd a p v ks g)).length = 1 + (vmark v).length + (ks.flatMap marks).length := by
  rw [marks_nd, List.length_cons, List.length_append]; omega
theorem len_tr (t : Tr) : (marks t).length = 1 + (vmark t.v).length + (t.ks.flatMap marks).length := by cases t; exact len_nd ..
theorem vmark_le (v : Option Vl) : (vmark v).length ≤ 1 := by cases v <;> simp [vmark]
theorem marks_repl (l : List Tr) (i : Nat) (hi : i < l.length) (m : List Tr) : ((l.take i ++ m ++ l.drop (i + 1)).flatMap marks).length + (marks l[i]).length = (l.flatMap marks).length + (m.flatMap marks).length := by
  have h : (l.flatMap marks).length = ((l.take i ++ l[i] :: l.drop (i + 1)).flatMap marks).length := by rw [← List.drop_eq_getElem_cons hi, List.take_append_drop]
  rw [h]
  simp only [List.flatMap_append, List.flatMap_cons, List.length_append]
  omega
theorem marks_put (l : List Tr) (i : Nat) (m : List Tr) : ((l.take i ++ m ++ l.drop i).flatMap marks).length = (l.flatMap marks).length + (m.flatMap marks).length := by
  have h : (l.flatMap marks).length = ((l.take i ++ l.drop i).flatMap marks).length := by rw [List.take_append_drop]
  rw [h]
  simp only [List.flatMap_append, List.length_append]
  omega
theorem JoinR.len {N : Nat} {k : ByteArray} {v : Vl} {n T : Tr} (h : JoinR N k v n T) : (marks T).length ≤ (marks n).length + 3 := by
  cases h with
  | above ha hg hp _ => rw [len_nd]; simp [vmark]; omega
  | less ha hg _ hgl _ _ _ _ => rw [len_nd]; simp [vmark, marks_nd]; omega
  | more ha hg _ hgl _ _ _ _ => rw [len_nd]; simp [vmark, marks_nd]; omega
theorem EntR.len {N : Nat} {k : ByteArray} {v : Vl} {t T : Tr} (h : EntR N k v t T) : (marks T).length ≤ (marks t).length + 3 := by
  rw [len_tr t]
  cases h with
  | here ha hg hp => rw [len_nd]; simp [vmark]; omega
  | leaf ha hg hl hgl hp hno =>
    rw [len_nd, marks_put]
    simp [vmark, marks_nd]
    omega
  | @join a g c J ha hg hp hq hc hb hn hJ =>
    have h1 := marks_repl t.ks _ hq [J]
    have h2 := hJ.len
    rw [hc] at h1
    rw [len_nd]
    simp only [List.flatMap_cons, List.flatMap_nil, List.append_nil] at h1
    omega
theorem kid_posn {t c : Tr} {k : ByteArray} (ht : WF t) (hn : nx t k.data.toList = some c) (hs : t.p.size < k.size) : ∃ hq : posn t.ks t.p.size k[t.p.size] < t.ks.length, t.ks[posn t.ks t.p.size k[t.p.size]] = c := by
  obtain ⟨hc, hcp⟩ := nx_mem hn
  obtain ⟨hq, hbq⟩ := there_true hs (nx_there ht hs hn)
  have hcb : c.byte t.p.size = k[t.p.size] := by
    unfold Tr.byte
    exact key_pre hcp (by rw [path_length]; exact (ht.ext' c hc).2) hs
  exact ⟨hq, ht.inj (List.getElem_mem hq) hc (by rw [hbq, hcb])⟩
theorem InsR.len {N : Nat} {k : ByteArray} {v : Vl} {t T : Tr} (h : InsR N k v t T) : WF t → (marks T).length ≤ (marks t).length + 3 := by
  induction h with
  | entry hn h => exact fun _ => h.len
  | @down t c c' a g hn hs h ha hg ih =>
    intro ht
    obtain ⟨hq, hce⟩ := kid_posn ht hn hs
    have h2 := ih (ht.kids' c (nx_mem hn).1)
    have h1 := marks_repl t.ks _ hq [c']
    rw [hce] at h1
    rw [len_tr t, len_nd]
    simp only [List.flatMap_cons, List.flatMap_nil, List.append_nil] at h1
    omega
theorem needed_len (t : Tr) : ((neededOf t).flatMap marks).length ≤ (marks t).length := by
  unfold neededOf
  split
  · simp
  · rw [len_tr t]; omega
theorem DelR.len {N : Nat} {k : ByteArray} {t T : Tr} (h : DelR N k t T) : WF t → (marks T).length ≤ (marks t).length := by
  induction h with
  | @here t a g hp ha hg =>
    intro _
    rw [len_tr t, len_nd]
    have : (vmark none).length = 0 := rfl
    omega
  | @down t c c' a g hn hs h ha hg ih =>
    intro ht
    obtain ⟨hq, hce⟩ := kid_posn ht hn hs
    have h2 := ih (ht.kids' c (nx_mem hn).1)
    have h1 := marks_repl t.ks _ hq (neededOf c')
    have h3 := needed_len c'
    rw [hce] at h1
    rw [len_tr t, len_nd]
    omega
theorem along_marks {k : List UInt8} {t : Tr} {l : List Tr} (h : Along k t l) : ∀ c ∈ l, ∀ x ∈ marks c, x ∈ marks t := by
  induction h with
  | stop h => intro c hc; simp at hc; subst hc; exact fun x hx => hx
  | go h r ih =>
    intro c hc x hx
    rcases List.mem_cons.1 hc with rfl | hc
    · exact hx
    · rw [marks_tr]
      exact List.mem_cons_of_mem _ (List.mem_append_right _ (List.mem_flatMap.2 ⟨_, (nx_mem h).1, ih c hc x hx⟩))
/-- All that a Fire fires is a watch of the tree. -/
theorem waysOf_marks {T : Tr} {ks : List ByteArray} {way : ByteArray → List Tr} (hw : ∀ k ∈ ks, Along k.data.toList T (way k)) : ∀ x ∈ waysOf way ks, x ∈ marks T := by
  intro x hx
  obtain ⟨k, hk, hx⟩ := List.mem_flatMap.1 hx
  obtain ⟨t, ht, hx⟩ := List.mem_flatMap.1 hx
  refine along_marks (hw k hk) t ht x ?_
  rw [marks_tr]
  unfold wayN at hx
  rcases List.mem_cons.1 hx with rfl | hx
  · exact List.mem_cons_self ..
  · refine List.mem_cons_of_mem _ (List.mem_append_left _ ?_)
    cases hv : t.v with
    | none => rw [hv] at hx; simp at hx
    | some v =>
      rw [hv] at hx
      by_cases hs : t.p.size = k.size
      · simpa [hs, vmark] using hx
      · simp [hs] at hx
end Go.Proofs.YtdmhffbohnfdlaaGreat

/- Layer 5 (txn): Set. -/
namespace Go.Proofs.YtdmhffbohnfdlaaGreat
open Go.RowKit
open scoped Classical
set_option linter.unusedVariables false

theorem Held.move {w W W' : World} {tb : Nat} {T : Tr} {ne : Int} {d : Nat} {es : List En} (h : Held w W tb T ne d es) (ht : TreeAt W' tb T ne) : Held W' W' tb T ne d es := ⟨⟨Below.refl _ _, ht, h.good.wf, h.good.root, h.good.dep, h.good.lo, h.good.hi⟩, h.has, h.sorted, h.cnt⟩

set_option maxRecDepth 100000 in
set_option maxHeartbeats 4000000 in
theorem set_calls (xb bb tbx mb clock : Nat) (es : Array MapEntry) (T : Tr) (ne : Int) (d : Nat) (en : List En) (ks : List ByteArray) (k : ByteArray) (v : Int) (cs : Array Value) (w : World) (hx : TxnAt w xb bb tbx mb) (hb : w.heap[bb]? = some (.cells cs 97)) (hm : MapAt w mb es clock ks) (hH : Held w w tbx T ne d en) (hk : k.size ≤ 140737488351296) (hd : d + 1 ≤ 17592186044416) :
    Calls Tryz.prog 22 #[.pointer (some ⟨xb, 0, none⟩), .string k, .int .i64 v] w fun e w' => ∃ (r1 : Value) (r2 : Bool) (tb' : Nat) (T' : Tr) (ne' : Int) (es' : Array MapEntry) (clock' : Nat), e = .returned (.tuple #[r1, .bool r2, .int .i64 0]) ∧ TxnAt w' xb bb tb' mb ∧ MapAt w' mb es' clock' (insK ks k) ∧ Held w' w' tb' T' ne' (d + 1) (insE en k v) ∧ Touched [xb, mb] w w' ∧ (∀ B, B < w.heap.size → Above B T → Above B T') ∧ (marks T').length ≤ (marks T).length + 3 := by
  obtain ⟨init, c, hA⟩ := along_split (k := k.data.toList) hH.good.wf
  have hlen := hA.len hH.good.dep
  have hlo := hH.good.lo
  have hhi := hH.good.hi
  have hv := hH.has.val hH.good.wf (root_pre hH.good.root _) hA
  have HIN := insert_calls tbx T ne k v w init c hH.good.tree hH.good.wf (root_pre hH.good.root _) hk hA (by simp at hlen; omega) (by omega) (by omega)
  have HO := over_calls xb bb tbx mb w hx
  have c1 : w.cell? ⟨xb, 1, none⟩ = some (.pointer (some ⟨tbx, 0, none⟩)) := by rw [cell_of_blk hx.blk]; rfl
  have HS : Hid (TxnAt w xb bb tbx mb ∧ w.heap[bb]? = some (.cells cs 97) ∧ MapAt w mb es clock ks ∧ Held w w tbx T ne d en ∧ (valAt c k).isSome = decide (k ∈ keysOf en)) := ⟨hx, hb, hm, hH, hv⟩
  clear hx hb hm hH hA hlen hlo hhi hv
  go_enter Tryz.func22, Tryz.ntmps22
  go_wp2_with fail
  refine HO.mono ?_
  clear HO
  rintro e w0 ⟨rfl, hw0⟩
  rw [hw0]
  clear hw0
  go_wp2_with fail
  refine HIN.mono ?_
  clear HIN
  rintro e w1 ⟨tb', T', va, vg, rfl, hb1, hT1, hI1, -, hvg, -⟩
  have HAB : Hid ((∀ B, B < w.heap.size → Above B T → Above B T') ∧ (marks T').length ≤ (marks T).length + 3) := ⟨fun B hB hA => hI1.over hB (by show B < vg; omega) hA, hI1.len HS.out.2.2.2.1.good.wf⟩
  have hH1 : Held w w1 tb' T' _ (d + 1) (insE en k v) := HS.out.2.2.2.1.insert hb1 hT1 hI1 HS.out.2.2.2.2
  have hx1 := HS.out.1.below hb1
  have d1 : w1.cell? ⟨xb, 1, none⟩ = some (.pointer (some ⟨tbx, 0, none⟩)) := by rw [cell_of_blk hx1.blk]; rfl
  have y1 : w1.frozen? ⟨xb, 1, none⟩ = false := frozen_of_blk hx1.blk
  obtain ⟨w2, HW2⟩ : ∃ w2, Hid (w2 = w1.setCell ⟨xb, 1, none⟩ (.pointer (some ⟨tb', 0, none⟩))) := ⟨_, rfl⟩
  have t12 : Touched [xb] w1 w2 := by rw [HW2.out]; exact (Touched.refl _ _).setCell _ _ (.inl (by simp))
  have hoff1 : Off w1 xb := hx1.off ((hb1.block _ (lt_of_heap HS.out.2.1)).trans HS.out.2.1) ((hb1.block _ (lt_of_heap HS.out.2.2.2.1.good.tree.blk)).trans HS.out.2.2.2.1.good.tree.blk)
  have hx2 : TxnAt w2 xb bb tb' mb := ⟨by rw [HW2.out, setCell_blk hx1.blk]; rfl⟩
  have hm1 := HS.out.2.2.1.below hb1
  have hmx : mb ≠ xb := fun e => by have := hm1.blk; rw [e, hx1.blk] at this; cases this
  have hm2 : MapAt w2 mb es clock ks := ⟨(t12.block _ (lt_of_heap hm1.blk) (by simpa using hmx)).trans hm1.blk, hm1.st, hm1.keys, hm1.vals⟩
  have hT2 : TreeAt w2 tb' T' _ := hH1.good.tree.offs (· ∈ [xb]) (fun b hb hn => t12.block b hb hn) (fun b hb => by simp at hb; subst hb; exact hoff1)
  have HTO := touch_calls xb bb tb' mb clock es ks k w2 hx2 hm2 hk
  have H2 : Hid (Touched [xb, mb] w w2 ∧ TxnAt w2 xb bb tb' mb ∧ Held w2 w2 tb' T' _ (d + 1) (insE en k v) ∧ ∃ es cl, w2.heap[mb]? = some (.map es cl)) := ⟨(Touched.ofBelow hb1 _).trans (t12.weaken (by simp)), hx2, hH1.move hT2, _, _, hm2.blk⟩
  clear hb1 hT1 hI1 hvg hH1 hx1 t12 hoff1 hx2 hm1 hmx hm2 hT2
  go_wp2_with fail
  rw [← HW2.out]
  clear HW2
  refine HTO.mono ?_
  clear HTO
  rintro e w3 ⟨rfl, ht3, es', clock', hm3⟩
  have HFIN : Hid (TxnAt w3 xb bb tb' mb ∧ MapAt w3 mb es' clock' (insK ks k) ∧ Held w3 w3 tb' T' (ne + plusNew (valAt c k)) (d + 1) (insE en k v) ∧ Touched [xb, mb] w w3 ∧ (∀ B, B < w.heap.size → Above B T → Above B T') ∧ (marks T').length ≤ (marks T).length + 3) := by
    obtain ⟨a, b, hmb⟩ := H2.out.2.2.2
    have hmx : xb ≠ mb := fun e => by have := hmb; rw [← e, H2.out.2.1.blk] at this; cases this
    refine ⟨⟨(ht3.block _ (lt_of_heap H2.out.2.1.blk) (by simpa using hmx)).trans H2.out.2.1.blk⟩, hm3, H2.out.2.2.1.move ?_, H2.out.1.trans (ht3.weaken (by simp)), HAB.out⟩
    exact H2.out.2.2.1.good.tree.offs (· ∈ [mb]) (fun b hb hn => ht3.block b hb hn) (fun b hb => by simp at hb; subst hb; exact .inl ⟨_, _, hmb⟩)
  clear ht3 hm3
  go_wp2
  refine bodyPost_ret (v := .tuple #[held (valAt c k), .bool (valAt c k).isSome, .int .i64 0]) (by simp [results, Tryz.results22, go_sem]) rfl ?_
  exact ⟨_, _, tb', T', _, es', clock', rfl, HFIN.out⟩
end Go.Proofs.YtdmhffbohnfdlaaGreat
