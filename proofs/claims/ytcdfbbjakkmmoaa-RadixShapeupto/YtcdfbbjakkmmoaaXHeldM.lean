import Derived.Test.YtcdfbbjakkmmoaaRDel
import Derived.Test.YtcdfbbjakkmmoaaRHasI
/- Layer 3 (radix): Delete keeps trees well made. -/
namespace Go.Proofs.Ytcdfbbjakkmmoaa
open Go.RowKit
set_option linter.unusedVariables false

theorem mem_repl {ks : List Tr} {q r : Nat} {L : List Tr} {x : Tr} (h : x ∈ ks.take q ++ L ++ ks.drop r) : x ∈ ks ∨ x ∈ L := by
  simp only [List.mem_append] at h
  rcases h with (h | h) | h
  · exact .inl (List.mem_of_mem_take h)
  · exact .inr h
  · exact .inl (List.mem_of_mem_drop h)

/-- The kid at q goes. -/
theorem wf_drop {t : Tr} (h : WF t) {q a g : Nat} (v : Option Vl) : WF (.nd a t.p v (t.ks.take q ++ [] ++ t.ks.drop (q + 1)) g) := by
  refine .mk (fun c hc => ?_) (fun c hc => ?_) ?_
  · rcases mem_repl hc with hc | hc
    · exact h.kids' c hc
    · simp at hc
  · rcases mem_repl hc with hc | hc
    · exact h.ext' c hc
    · simp at hc
  · refine List.Pairwise.sublist ?_ h.ord'
    refine List.Sublist.map _ ?_
    rw [List.append_nil]
    refine List.Sublist.trans (List.Sublist.append (List.Sublist.refl _) ((List.drop_sublist_drop_left t.ks (Nat.le_succ q)))) ?_
    rw [List.take_append_drop]
    exact List.Sublist.refl _

theorem needed_mem {t d : Tr} (h : d ∈ neededOf t) : d = t ∨ d ∈ t.ks := by
  unfold neededOf at h
  split at h
  · left; simpa using h
  · exact .inr h

theorem DelR.wf {N : Nat} {k : ByteArray} {t T : Tr} (h : DelR N k t T) (ht : WF t) (hp : t.path <+: k.data.toList) : WF T ∧ T.p = t.p := by
  induction h with
  | @here t a g hs ha hg => exact ⟨.mk ht.kids' ht.ext' ht.ord', rfl⟩
  | @down t c c' a g hn hs h ha hg ih =>
    obtain ⟨hc, hcp⟩ := nx_mem hn
    have hx := ht.ext' c hc
    obtain ⟨i1, i2⟩ := ih (ht.kids' c hc) hcp
    obtain ⟨hq, hbq⟩ := there_true hs (nx_there ht hs hn)
    have hcb : c.byte t.p.size = k[t.p.size] := by
      unfold Tr.byte
      exact key_pre hcp (by rw [path_length]; exact hx.2) hs
    have hpc : c'.path = c.path := by unfold Tr.path; rw [i2]
    refine ⟨?_, rfl⟩
    have hfew := neededOf_few c'
    cases hL : neededOf c' with
    | nil => exact wf_drop ht _
    | cons J r =>
      have hr : r = [] := by rw [hL] at hfew; simp at hfew; exact hfew
      subst hr
      have hJ : J = c' ∨ J ∈ c'.ks := needed_mem (by rw [hL]; simp)
      have hJ1 : WF J ∧ c'.path <+: J.path ∧ c'.p.size ≤ J.p.size := by
        rcases hJ with rfl | hJ
        · exact ⟨i1, List.prefix_refl _, Nat.le_refl _⟩
        · exact ⟨i1.kids' _ hJ, (i1.ext' _ hJ).1, Nat.le_of_lt (i1.ext' _ hJ).2⟩
      refine wf_set ht hq hJ1.1 ?_ ?_ ?_ _
      · exact (hpc ▸ hx.1 : t.path <+: c'.path).trans hJ1.2.1
      · have := hJ1.2.2; rw [i2] at this; omega
      · rw [hbq, ← hcb, ← byte_pre hJ1.2.1 (by rw [i2]; exact hx.2)]
        unfold Tr.byte; rw [hpc]

theorem DelR.dep {N : Nat} {k : ByteArray} {t T : Tr} (h : DelR N k t T) : ∀ {n : Nat}, Dep n t → Dep n T := by
  induction h with
  | @here t a g hs ha hg =>
    intro n hd
    cases n with
    | zero => cases hd
    | succ n => exact hd
  | @down t c c' a g hn hs h ha hg ih =>
    intro n hd
    cases n with
    | zero => cases hd
    | succ n =>
      intro x hx
      rcases mem_repl hx with hx | hx
      · exact hd x hx
      · have hc := ih (hd c (nx_mem hn).1)
        rcases needed_mem hx with rfl | hx
        · exact hc
        · cases n with
          | zero => cases hc
          | succ n => exact (hc x hx).mono (Nat.le_succ _)
end Go.Proofs.Ytcdfbbjakkmmoaa

/- Layer 4 (walk): a law gathers entries and makes newer trees meanwhile: what stays apart in memory. -/
namespace Go.Proofs.Ytcdfbbjakkmmoaa
open Go.RowKit Go.Shelf
set_option linter.unusedVariables false
attribute [local go_sem] Oper.semAt_some

/-- No cell of the block is a pointer. -/
def NP (cs : Array Value) : Prop := ∀ x ∈ cs.toList, ∀ p, x ≠ .pointer p
theorem zeroNP (n : Nat) : NP (Builtin.zeroCells #[.string ⟨#[]⟩, .int .i64 0] n) := fun x hx p => by
  simp only [Builtin.zeroCells, Array.toList_map, List.mem_map] at hx
  obtain ⟨i, -, rfl⟩ := hx
  have h2 : i % 2 = 0 ∨ i % 2 = 1 := by omega
  show (#[Value.string ⟨#[]⟩, Value.int .i64 0])[i % 2]! ≠ _
  rcases h2 with h | h <;> rw [h] <;> simp
theorem NP.append {a b : Array Value} (ha : NP a) (hb : NP b) : NP (a ++ b) := fun x hx p => by
  rw [Array.toList_append, List.mem_append] at hx
  exact hx.elim (fun h => ha x h p) (fun h => hb x h p)
theorem np_new (k : ByteArray) (v : Int) : NP [Value.string k, Value.int .i64 v].toArray := fun x hx p => by
  simp at hx
  rcases hx with rfl | rfl <;> simp
theorem np_take {cur : Array Value} (h : NP cur) (n : Nat) : NP (cur.toList.take n).toArray := fun x hx p => h x (List.mem_of_mem_take (by simpa using hx)) p
theorem np_drop {cur : Array Value} (h : NP cur) (n : Nat) : NP (cur.toList.drop n).toArray := fun x hx p => h x (List.mem_of_mem_drop (by simpa using hx)) p
theorem np_enCells (l : List En) : NP (enCells l).toArray := fun x hx p => by
  simp only [enCells, List.mem_flatMap] at hx
  obtain ⟨e, -, he⟩ := hx
  simp at he
  rcases he with rfl | rfl <;> simp

/-- A tree stays where what changes is no part of it: blocks of other kinds that hold no pointer. -/
theorem TAt.off {R : Rg} {W W' : World} {t : Tr} (E : Nat → Prop) (hk : ∀ b, b < W.heap.size → ¬ E b → W'.heap[b]? = W.heap[b]?) (hE : ∀ b, E b → ∃ cs ty, W.heap[b]? = some (.cells cs ty) ∧ NP cs ∧ ty ≠ 76 ∧ ty ≠ 97 ∧ ty ≠ 117) (h : TAt R W t) : TAt R W' t := by
  have hne : ∀ {a : Nat} {ds : Array Value} {ty' : TypeId}, W.heap[a]? = some (.cells ds ty') → ty' = 76 ∨ ty' = 97 ∨ ty' = 117 → W'.heap[a]? = W.heap[a]? := fun {a ds ty'} ha ht => hk a (lt_of_heap ha) (fun he => by
    obtain ⟨cs, ty, h1, -, h2, h3, h4⟩ := hE a he
    rw [ha] at h1
    simp at h1
    obtain ⟨-, rfl⟩ := h1
    rcases ht with h | h | h
    · exact h2 h
    · exact h3 h
    · exact h4 h)
  have hwc : ∀ {g : Nat}, Wc R.old W g → Wc R.old W' g := fun hg => by
    obtain ⟨f, hg, ho⟩ := hg
    refine ⟨f, ⟨(hne hg.blk (.inr (.inr rfl))).trans hg.blk, (hk _ hg.ltc (fun he => ?_)).trans hg.chn⟩, ho⟩
    obtain ⟨cs, ty, h1, -⟩ := hE _ he
    rw [hg.chn] at h1
    cases h1
  induction h with
  | mk blk kids val wat sub room nil psz ih =>
    refine .mk ((hne blk (.inl rfl)).trans blk) (fun j hj => ?_) (fun x hx => ?_) (hwc wat) ih room nil psz
    · obtain ⟨b, off, ha, h0, hr⟩ := kids j hj
      refine ⟨b, off, ha, (World.cell?_of_block (w := W) (hk b (World.block_lt_of_cell? W _ h0) (fun he => ?_))).trans h0, hr⟩
      obtain ⟨cs, ty, h1, hn, -⟩ := hE b he
      rw [cell_of_blk h1] at h0
      exact hn _ (by simpa using Array.mem_of_getElem? h0) _ rfl
    · have hx' := val x hx
      exact ⟨(hne hx'.blk (.inr (.inl rfl))).trans hx'.blk, hwc hx'.wat, hx'.num⟩

/-- No array of kids lies in a box that holds a pointer to a tree. -/
theorem TAt.treeBox {R : Rg} {w : World} {t : Tr} {nb tb : Nat} {ty : TypeId} {cs : Array Value} (h : TAt R w t) (hb : w.heap[nb]? = some (.cells #[.pointer (some ⟨tb, 0, none⟩)] ty)) (ht : w.heap[tb]? = some (.cells cs 68)) : TAt ⟨fun b => b = nb, R.old⟩ w t := by
  induction h with
  | mk blk kids val wat sub room nil psz ih =>
    refine .mk blk (fun j hj => ?_) val wat ih room nil psz
    obtain ⟨b, off, ha, h0, -⟩ := kids j hj
    refine ⟨b, off, ha, h0, fun e => ?_⟩
    have e' : b = nb := e
    subst e'
    rw [cell_of_blk hb] at h0
    have hsub := sub _ (List.getElem_mem hj)
    match h1 : off + j with
    | 0 =>
      rw [h1] at h0
      simp at h0
      cases hs : (‹List Tr›)[j] with
      | nd a p v ks g =>
        rw [hs] at hsub h0
        simp only [Tr.a] at h0
        subst h0
        cases hsub with
        | mk blk' _ _ _ _ _ _ _ => rw [ht] at blk'; simp at blk'
    | k + 1 => rw [h1] at h0; simp at h0
end Go.Proofs.Ytcdfbbjakkmmoaa
