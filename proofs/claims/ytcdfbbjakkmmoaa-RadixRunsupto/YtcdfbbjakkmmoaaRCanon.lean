import Derived.Test.YtcdfbbjakkmmoaaRHasI
import Derived.Test.YtcdfbbjakkmmoaaRSim
import Derived.Test.YtcdfbbjakkmmoaaRGet
import Derived.Test.YtcdfbbjakkmmoaaXHeldM
import Derived.Test.YtcdfbbjakkmmoaaXHeld
/- Layer 3 (radix): what a tree holds; the keys fix the nodes. -/
namespace Go.Proofs.Ytcdfbbjakkmmoaa
open Go.RowKit
set_option linter.unusedVariables false

def Need (t : Tr) : Prop := t.v.isSome = true ∨ 2 ≤ t.ks.length
/-- No node but the root stands without need. -/
inductive Canon : Tr → Prop
  | mk {t} (h : ∀ c ∈ t.ks, Canon c) (hn : ∀ c ∈ t.ks, Need c) : Canon t
theorem Canon.kids {t : Tr} (h : Canon t) : ∀ c ∈ t.ks, Canon c := by cases h; assumption
theorem Canon.need {t : Tr} (h : Canon t) : ∀ c ∈ t.ks, Need c := by cases h; assumption

theorem Canon.some {t : Tr} (h : Canon t) : Need t → ∃ k x, Has t k x := by
  induction h with
  | @mk t h hn ih =>
    intro hN
    rcases hN with h1 | h1
    · obtain ⟨v, hv⟩ := Option.isSome_iff_exists.1 h1
      exact ⟨_, _, .here hv⟩
    · have hm : t.ks[0] ∈ t.ks := List.getElem_mem (by omega)
      obtain ⟨k, x, hk⟩ := ih _ hm (hn _ hm)
      exact ⟨k, x, .kid hm hk⟩

theorem not_shorter {c d : Tr} (hc : WF c) (hd : WF d) (hC : Canon c) (hN : Need c) (h : ∀ k x, Has c k x → Has d k x) : ¬ c.p.size < d.p.size := by
  intro hlt
  rcases hN with h1 | h1
  · obtain ⟨v, hv⟩ := Option.isSome_iff_exists.1 h1
    have := ((h _ _ (.here hv)).pre hd).length_le
    rw [path_length, path_length] at this
    omega
  · have m0 : c.ks[0] ∈ c.ks := List.getElem_mem (by omega)
    have m1 : c.ks[1] ∈ c.ks := List.getElem_mem (by omega)
    obtain ⟨k0, x0, g0⟩ := (hC.kids _ m0).some (hC.need _ m0)
    obtain ⟨k1, x1, g1⟩ := (hC.kids _ m1).some (hC.need _ m1)
    have b0 := g0.byte hc m0
    have b1 := g1.byte hc m1
    have p0 := prefix_getD ((h _ _ (.kid m0 g0)).pre hd) c.p.size (by rw [path_length]; exact hlt)
    have p1 := prefix_getD ((h _ _ (.kid m1 g1)).pre hd) c.p.size (by rw [path_length]; exact hlt)
    have := lt_of_sorted hc.ord' (i := 0) (j := 1) (by omega) (by omega)
    rw [b0, b1, p0, p1] at this
    exact absurd this (UInt8.lt_irrefl _)

theorem same_path {c d : Tr} (hc : WF c) (hd : WF d) (hC : Canon c) (hD : Canon d) (hNc : Need c) (hNd : Need d) (h : ∀ k x, Has c k x ↔ Has d k x) : c.p = d.p := by
  have h1 := not_shorter hc hd hC hNc (fun k x => (h k x).1)
  have h2 := not_shorter hd hc hD hNd (fun k x => (h k x).2)
  obtain ⟨k, x, g⟩ := hC.some hNc
  have e : c.p.size = d.p.size := by omega
  exact key_eq (List.prefix_of_prefix_length_le (g.pre hc) (((h _ _).1 g).pre hd) (by rw [path_length]; show c.p.size ≤ d.path.length; rw [path_length]; omega)) e

theorem sorted_ext : ∀ (l m : List UInt8), l.Pairwise (· < ·) → m.Pairwise (· < ·) → (∀ b, b ∈ l ↔ b ∈ m) → l = m
  | [], [], _, _, _ => rfl
  | [], b :: m, _, _, h => by have := (h b).2 (by simp); simp at this
  | a :: l, [], _, _, h => by have := (h a).1 (by simp); simp at this
  | a :: l, b :: m, hl, hm, h => by
    rw [List.pairwise_cons] at hl hm
    have hab : a = b := by
      rcases List.mem_cons.1 ((h a).1 (by simp)) with e | e
      · exact e
      · rcases List.mem_cons.1 ((h b).2 (by simp)) with e' | e'
        · exact e'.symm
        · exact absurd (UInt8.lt_trans (hl.1 b e') (hm.1 a e)) (UInt8.lt_irrefl _)
    subst hab
    congr 1
    refine sorted_ext l m hl.2 hm.2 fun b => ⟨fun hb => ?_, fun hb => ?_⟩
    · rcases List.mem_cons.1 ((h b).1 (List.mem_cons_of_mem _ hb)) with e | e
      · subst e; exact absurd (hl.1 _ hb) (UInt8.lt_irrefl _)
      · exact e
    · rcases List.mem_cons.1 ((h b).2 (List.mem_cons_of_mem _ hb)) with e | e
      · subst e; exact absurd (hm.1 _ hb) (UInt8.lt_irrefl _)
      · exact e

theorem kid_bytes {t s : Tr} (ht : WF t) (hs : WF s) (hT : Canon t) (hp : t.p = s.p) (h : ∀ k x, Has t k x → Has s k x) : ∀ b, b ∈ t.ks.map (Tr.byte t.p.size) → b ∈ s.ks.map (Tr.byte s.p.size) := by
  intro b hb
  obtain ⟨c, hc, rfl⟩ := List.mem_map.1 hb
  obtain ⟨k, x, g⟩ := (hT.kids _ hc).some (hT.need _ hc)
  have hl : s.p.size < k.length := by
    have h1 := (g.pre (ht.kids' _ hc)).length_le
    have h2 := (ht.ext' _ hc).2
    rw [path_length] at h1
    rw [← hp]
    omega
  obtain ⟨d, hd, g', e⟩ := (h _ _ (.kid hc g)).down hs hl
  refine List.mem_map.2 ⟨d, hd, ?_⟩
  rw [e, ← hp, g.byte ht hc]

/-- Two trees in canonical form that hold the same are alike. -/
theorem canon_uniq {t : Tr} (hT : Canon t) : ∀ {s : Tr}, WF t → WF s → Canon s → t.p = s.p → (∀ k x, Has t k x ↔ Has s k x) → Sim (fun _ x y => x = y) t s := by
  induction hT with
  | @mk t hk hn ih =>
    intro s ht hs hS hp h
    have hT : Canon t := .mk hk hn
    have hpp : t.path = s.path := by unfold Tr.path; rw [hp]
    have hbytes : t.ks.map (Tr.byte t.p.size) = s.ks.map (Tr.byte s.p.size) :=
      sorted_ext _ _ ht.ord' hs.ord' fun b => ⟨kid_bytes ht hs hT hp (fun k x => (h k x).1) b, kid_bytes hs ht hS hp.symm (fun k x => (h k x).2) b⟩
    have hlen : t.ks.length = s.ks.length := by have := congrArg List.length hbytes; simpa using this
    have hv : VSim (fun _ x y => x = y) t.p t.v s.v := by
      cases htv : t.v with
      | some x =>
        obtain ⟨y, hy, e⟩ := ((h _ _).1 (.here htv)).own hs (by rw [path_length, hp]; exact Nat.le_refl _)
        rw [hy]
        exact e.symm
      | none =>
        cases hsv : s.v with
        | none => trivial
        | some y =>
          obtain ⟨x, hx, e⟩ := ((h _ _).2 (.here hsv)).own ht (by rw [path_length, hp]; exact Nat.le_refl _)
          rw [htv] at hx
          cases hx
    have hkids : SimL (fun _ x y => x = y) t.ks s.ks := by
      refine ⟨hlen, fun i h1 h2 => ?_⟩
      have mc : t.ks[i] ∈ t.ks := List.getElem_mem h1
      have md : s.ks[i] ∈ s.ks := List.getElem_mem h2
      have hb : t.ks[i].byte t.p.size = s.ks[i].byte s.p.size := by
        have := congrArg (fun l : List UInt8 => l[i]?) hbytes
        simpa [h1, h2] using this
      have hsame : ∀ k x, Has t.ks[i] k x ↔ Has s.ks[i] k x := by
        intro k x
        constructor
        · intro g
          have hl : s.p.size < k.length := by
            have h1 := (g.pre (ht.kids' _ mc)).length_le
            have h2 := (ht.ext' _ mc).2
            rw [path_length] at h1
            rw [← hp]
            omega
          obtain ⟨d, hd, g', e⟩ := ((h _ _).1 (.kid mc g)).down hs hl
          have : d = s.ks[i] := hs.inj hd md (by rw [e, ← hb, g.byte ht mc, hp])
          exact this ▸ g'
        · intro g
          have hl : t.p.size < k.length := by
            have h1 := (g.pre (hs.kids' _ md)).length_le
            have h2 := (hs.ext' _ md).2
            rw [path_length] at h1
            rw [hp]
            omega
          obtain ⟨d, hd, g', e⟩ := ((h _ _).2 (.kid md g)).down ht hl
          have : d = t.ks[i] := ht.inj hd mc (by rw [e, hb, g.byte hs md, hp])
          exact this ▸ g'
      exact ih _ mc (ht.kids' _ mc) (hs.kids' _ md) (hS.kids _ md) (same_path (ht.kids' _ mc) (hs.kids' _ md) (hT.kids _ mc) (hS.kids _ md) (hT.need _ mc) (hS.need _ md) hsame) hsame
    cases t
    cases s
    exact Sim.of hp hv hkids
end Go.Proofs.Ytcdfbbjakkmmoaa

/- Layer 3 (radix): what trees hold behind Insert, Delete. -/

/- Layer 3 (radix): Delete keeps trees well made; Insert and Delete keep the canonical form; how many entries; what Get finds. -/
namespace Go.Proofs.Ytcdfbbjakkmmoaa
open Go.RowKit
set_option linter.unusedVariables false

theorem leaf_canon {l g : Nat} {k : ByteArray} {v : Option Vl} : Canon (.nd l k v [] g) := .mk (fun c hc => by simp [Tr.ks] at hc) (fun c hc => by simp [Tr.ks] at hc)
theorem canon_of {a g : Nat} {p : ByteArray} {v : Option Vl} {ks : List Tr} (h : ∀ c ∈ ks, Canon c ∧ Need c) : Canon (.nd a p v ks g) := .mk (fun c hc => (h c hc).1) (fun c hc => (h c hc).2)
theorem Canon.both {t : Tr} (h : Canon t) : ∀ c ∈ t.ks, Canon c ∧ Need c := fun c hc => ⟨h.kids c hc, h.need c hc⟩
theorem canon_repl {t : Tr} (h : Canon t) {a g q r : Nat} {p : ByteArray} {v : Option Vl} {L : List Tr} (hL : ∀ c ∈ L, Canon c ∧ Need c) : Canon (.nd a p v (t.ks.take q ++ L ++ t.ks.drop r) g) :=
  canon_of fun c hc => (mem_repl hc).elim (h.both c) (hL c)

theorem JoinR.canon {N : Nat} {k : ByteArray} {v : Vl} {n T : Tr} (h : JoinR N k v n T) (hn : Canon n ∧ Need n) : Canon T ∧ Need T := by
  cases h with
  | above ha hg hp hl => exact ⟨canon_of fun c hc => by simp at hc; subst hc; exact hn, .inl rfl⟩
  | less => exact ⟨canon_of fun c hc => by simp at hc; rcases hc with rfl | rfl; exact ⟨leaf_canon, .inl rfl⟩; exact hn, .inr (by simp [Tr.ks])⟩
  | more => exact ⟨canon_of fun c hc => by simp at hc; rcases hc with rfl | rfl; exact hn; exact ⟨leaf_canon, .inl rfl⟩, .inr (by simp [Tr.ks])⟩
theorem EntR.canon {N : Nat} {k : ByteArray} {v : Vl} {t T : Tr} (h : EntR N k v t T) (ht : Canon t) : Canon T ∧ (Need t → Need T) := by
  cases h with
  | here ha hg hs => exact ⟨canon_of ht.both, fun _ => .inl rfl⟩
  | leaf ha hg hl hgl hs hno =>
    refine ⟨canon_repl ht fun c hc => by simp at hc; subst hc; exact ⟨leaf_canon, .inl rfl⟩, ?_⟩
    rintro (h | h)
    · exact .inl h
    · refine .inr ?_
      have := posn_le t.ks t.p.size k[t.p.size]
      simp [Tr.ks] at this ⊢
      simp [Tr.ks] at h
      omega
  | @join a g c J ha hg hs hq hc hb hn hJ =>
    refine ⟨canon_repl ht fun d hd => by simp at hd; subst hd; exact hJ.canon (ht.both c (by rw [← hc]; exact List.getElem_mem hq)), ?_⟩
    rintro (h | h)
    · exact .inl h
    · refine .inr ?_
      show 2 ≤ (t.ks.take _ ++ [J] ++ t.ks.drop _).length
      simp only [List.length_append, List.length_take, List.length_drop, List.length_singleton]
      omega
theorem InsR.canon {N : Nat} {k : ByteArray} {v : Vl} {t T : Tr} (h : InsR N k v t T) (hw : WF t) : Canon t → Canon T ∧ (Need t → Need T) := by
  induction h with
  | entry hn h => exact h.canon
  | @down t c c' a g hn hs h ha hg ih =>
    intro ht
    have hc := (nx_mem hn).1
    obtain ⟨hq, hbq⟩ := there_true hs (nx_there hw hs hn)
    obtain ⟨i1, i2⟩ := ih (hw.kids' c hc) (ht.kids c hc)
    refine ⟨canon_repl ht fun d hd => by simp at hd; subst hd; exact ⟨i1, i2 (ht.need c hc)⟩, ?_⟩
    rintro (h | h)
    · exact .inl h
    · refine .inr ?_
      show 2 ≤ (t.ks.take _ ++ [c'] ++ t.ks.drop _).length
      simp only [List.length_append, List.length_take, List.length_drop, List.length_singleton]
      omega
theorem DelR.canon {N : Nat} {k : ByteArray} {t T : Tr} (h : DelR N k t T) : Canon t → Canon T := by
  induction h with
  | here hs ha hg => exact fun ht => canon_of ht.both
  | @down t c c' a g hn hs h ha hg ih =>
    intro ht
    have hc := ih (ht.kids c (nx_mem hn).1)
    refine canon_repl ht fun d hd => ?_
    unfold neededOf at hd
    split at hd
    · rename_i h
      simp at hd
      subst hd
      refine ⟨hc, ?_⟩
      rcases Bool.or_eq_true _ _ ▸ h with h | h
      · exact .inl h
      · exact .inr (by simp at h; omega)
    · exact hc.both d hd

/-! ### how many -/

theorem nodup_le {l m : List (List UInt8)} (hl : l.Nodup) : (∀ a ∈ l, a ∈ m) → l.length ≤ m.length := by
  induction l generalizing m with
  | nil => simp
  | cons a l ih =>
    intro h
    rw [List.nodup_cons] at hl
    have ha := h a (by simp)
    have := ih hl.2 (m := m.erase a) fun b hb => by
      have hne : b ≠ a := fun e => hl.1 (e ▸ hb)
      exact (List.mem_erase_of_ne hne).2 (h b (by simp [hb]))
    rw [List.length_erase_of_mem ha] at this
    have := List.length_pos_of_mem ha
    simp
    omega

/-- The tree holds n keys. -/
def Cnt (t : Tr) (n : Int) : Prop := ∃ l : List (List UInt8), l.Nodup ∧ (∀ k, k ∈ l ↔ ∃ x, Has t k x) ∧ n = l.length
theorem Cnt.uniq {t s : Tr} {n m : Int} (h : Cnt t n) (h' : Cnt s m) (he : ∀ k, (∃ x, Has t k x) ↔ ∃ x, Has s k x) : n = m := by
  obtain ⟨l, h1, h2, rfl⟩ := h
  obtain ⟨r, h3, h4, rfl⟩ := h'
  have a := nodup_le h1 (m := r) fun a ha => (h4 a).2 ((he a).1 ((h2 a).1 ha))
  have b := nodup_le h3 (m := l) fun a ha => (h2 a).2 ((he a).2 ((h4 a).1 ha))
  omega
theorem Cnt.zero (a g : Nat) (p : ByteArray) : Cnt (.nd a p none [] g) 0 :=
  ⟨[], by simp, fun k => by simp [has_nd], rfl⟩
theorem Cnt.more {t T : Tr} {n : Int} {k : List UInt8} {y : Value} (h : Cnt t n) (hT : ∀ k' x, Has T k' x ↔ (k' = k ∧ x = y) ∨ (k' ≠ k ∧ Has t k' x)) (hk : ∀ x, ¬ Has t k x) : Cnt T (n + 1) := by
  obtain ⟨l, h1, h2, rfl⟩ := h
  refine ⟨k :: l, List.nodup_cons.2 ⟨fun e => ?_, h1⟩, fun k' => ?_, by simp⟩
  · obtain ⟨x, hx⟩ := (h2 k).1 e
    exact hk x hx
  · by_cases e : k' = k
    · subst e; simp [hT]
    · simp [hT, e, h2]
theorem Cnt.again {t T : Tr} {n : Int} {k : List UInt8} {y z : Value} (h : Cnt t n) (hT : ∀ k' x, Has T k' x ↔ (k' = k ∧ x = y) ∨ (k' ≠ k ∧ Has t k' x)) (hk : Has t k z) : Cnt T n := by
  obtain ⟨l, h1, h2, rfl⟩ := h
  refine ⟨l, h1, fun k' => ?_, rfl⟩
  rw [h2]
  by_cases e : k' = k
  · subst e
    exact ⟨fun _ => ⟨y, (hT _ _).2 (.inl ⟨rfl, rfl⟩)⟩, fun _ => ⟨z, hk⟩⟩
  · simp [hT, e]
theorem Cnt.less {t T : Tr} {n : Int} {k : List UInt8} {z : Value} (h : Cnt t n) (hT : ∀ k' x, Has T k' x ↔ (k' ≠ k ∧ Has t k' x)) (hk : Has t k z) : Cnt T (n - 1) := by
  obtain ⟨l, h1, h2, rfl⟩ := h
  have hm : k ∈ l := (h2 k).2 ⟨z, hk⟩
  refine ⟨l.erase k, h1.erase k, fun k' => ?_, ?_⟩
  · rw [h1.mem_erase_iff, h2]
    simp [hT]
  · rw [List.length_erase_of_mem hm]
    have := List.length_pos_of_mem hm
    omega
end Go.Proofs.Ytcdfbbjakkmmoaa
