/- Layer 3 (radix): what a tree holds; the keys fix the nodes. -/
import Derived.Test.YtcdfbbjakkmmoaaRHas0
import Derived.Test.YtcdfbbjakkmmoaaRSim
namespace Go.Proofs.Ytcdfbbjakkmmoaa
open Go.RowKit
set_option linter.unusedVariables false

def Need (t : Tr) : Prop := t.v.isSome = true ∨ 2 ≤ t.ks.length
/-- No node but the root stands without need. -/
inductive Canon : Tr → Prop
  | mk {t} (h : ∀ c ∈ t.ks, Canon c) (hn : ∀ c ∈ t.ks, Need c) : Canon t
theorem Canon.kids {t : Tr} (h : Canon t) : ∀ c ∈ t.ks, Canon c := by cases h; assumption
theorem Canon.need {t : Tr} (h : Canon t) : ∀ c ∈ t.ks, Need c := by cases h; assumption

theorem Canon.some {t : Tr} (h : Canon t) : Need t → ∃ k x, Has t k x := by
  induction h with
  | @mk t h hn ih =>
    intro hN
    rcases hN with h1 | h1
    · obtain ⟨v, hv⟩ := Option.isSome_iff_exists.1 h1
      exact ⟨_, _, .here hv⟩
    · have hm : t.ks[0] ∈ t.ks := List.getElem_mem (by omega)
      obtain ⟨k, x, hk⟩ := ih _ hm (hn _ hm)
      exact ⟨k, x, .kid hm hk⟩

theorem not_shorter {c d : Tr} (hc : WF c) (hd : WF d) (hC : Canon c) (hN : Need c) (h : ∀ k x, Has c k x → Has d k x) : ¬ c.p.size < d.p.size := by
  intro hlt
  rcases hN with h1 | h1
  · obtain ⟨v, hv⟩ := Option.isSome_iff_exists.1 h1
    have := ((h _ _ (.here hv)).pre hd).length_le
    rw [path_length, path_length] at this
    omega
  · have m0 : c.ks[0] ∈ c.ks := List.getElem_mem (by omega)
    have m1 : c.ks[1] ∈ c.ks := List.getElem_mem (by omega)
    obtain ⟨k0, x0, g0⟩ := (hC.kids _ m0).some (hC.need _ m0)
    obtain ⟨k1, x1, g1⟩ := (hC.kids _ m1).some (hC.need _ m1)
    have b0 := g0.byte hc m0
    have b1 := g1.byte hc m1
    have p0 := prefix_getD ((h _ _ (.kid m0 g0)).pre hd) c.p.size (by rw [path_length]; exact hlt)
    have p1 := prefix_getD ((h _ _ (.kid m1 g1)).pre hd) c.p.size (by rw [path_length]; exact hlt)
    have := lt_of_sorted hc.ord' (i := 0) (j := 1) (by omega) (by omega)
    rw [b0, b1, p0, p1] at this
    exact absurd this (UInt8.lt_irrefl _)

theorem same_path {c d : Tr} (hc : WF c) (hd : WF d) (hC : Canon c) (hD : Canon d) (hNc : Need c) (hNd : Need d) (h : ∀ k x, Has c k x ↔ Has d k x) : c.p = d.p := by
  have h1 := not_shorter hc hd hC hNc (fun k x => (h k x).1)
  have h2 := not_shorter hd hc hD hNd (fun k x => (h k x).2)
  obtain ⟨k, x, g⟩ := hC.some hNc
  have e : c.p.size = d.p.size := by omega
  exact key_eq (List.prefix_of_prefix_length_le (g.pre hc) (((h _ _).1 g).pre hd) (by rw [path_length]; show c.p.size ≤ d.path.length; rw [path_length]; omega)) e

theorem sorted_ext : ∀ (l m : List UInt8), l.Pairwise (· < ·) → m.Pairwise (· < ·) → (∀ b, b ∈ l ↔ b ∈ m) → l = m
  | [], [], _, _, _ => rfl
  | [], b :: m, _, _, h => by have := (h b).2 (by simp); simp at this
  | a :: l, [], _, _, h => by have := (h a).1 (by simp); simp at this
  | a :: l, b :: m, hl, hm, h => by
    rw [List.pairwise_cons] at hl hm
    have hab : a = b := by
      rcases List.mem_cons.1 ((h a).1 (by simp)) with e | e
      · exact e
      · rcases List.mem_cons.1 ((h b).2 (by simp)) with e' | e'
        · exact e'.symm
        · exact absurd (UInt8.lt_trans (hl.1 b e') (hm.1 a e)) (UInt8.lt_irrefl _)
    subst hab
    congr 1
    refine sorted_ext l m hl.2 hm.2 fun b => ⟨fun hb => ?_, fun hb => ?_⟩
    · rcases List.mem_cons.1 ((h b).1 (List.mem_cons_of_mem _ hb)) with e | e
      · subst e; exact absurd (hl.1 _ hb) (UInt8.lt_irrefl _)
      · exact e
    · rcases List.mem_cons.1 ((h b).2 (List.mem_cons_of_mem _ hb)) with e | e
      · subst e; exact absurd (hm.1 _ hb) (UInt8.lt_irrefl _)
      · exact e

theorem kid_bytes {t s : Tr} (ht : WF t) (hs : WF s) (hT : Canon t) (hp : t.p = s.p) (h : ∀ k x, Has t k x → Has s k x) : ∀ b, b ∈ t.ks.map (Tr.byte t.p.size) → b ∈ s.ks.map (Tr.byte s.p.size) := by
  intro b hb
  obtain ⟨c, hc, rfl⟩ := List.mem_map.1 hb
  obtain ⟨k, x, g⟩ := (hT.kids _ hc).some (hT.need _ hc)
  have hl : s.p.size < k.length := by
    have h1 := (g.pre (ht.kids' _ hc)).length_le
    have h2 := (ht.ext' _ hc).2
    rw [path_length] at h1
    rw [← hp]
    omega
  obtain ⟨d, hd, g', e⟩ := (h _ _ (.kid hc g)).down hs hl
  refine List.mem_map.2 ⟨d, hd, ?_⟩
  rw [e, ← hp, g.byte ht hc]

/-- Two trees in canonical form that hold the same are alike. -/
theorem canon_uniq {t : Tr} (hT : Canon t) : ∀ {s : Tr}, WF t → WF s → Canon s → t.p = s.p → (∀ k x, Has t k x ↔ Has s k x) → Sim (fun _ x y => x = y) t s := by
  induction hT with
  | @mk t hk hn ih =>
    intro s ht hs hS hp h
    have hT : Canon t := .mk hk hn
    have hpp : t.path = s.path := by unfold Tr.path; rw [hp]
    have hbytes : t.ks.map (Tr.byte t.p.size) = s.ks.map (Tr.byte s.p.size) :=
      sorted_ext _ _ ht.ord' hs.ord' fun b => ⟨kid_bytes ht hs hT hp (fun k x => (h k x).1) b, kid_bytes hs ht hS hp.symm (fun k x => (h k x).2) b⟩
    have hlen : t.ks.length = s.ks.length := by have := congrArg List.length hbytes; simpa using this
    have hv : VSim (fun _ x y => x = y) t.p t.v s.v := by
      cases htv : t.v with
      | some x =>
        obtain ⟨y, hy, e⟩ := ((h _ _).1 (.here htv)).own hs (by rw [path_length, hp]; exact Nat.le_refl _)
        rw [hy]
        exact e.symm
      | none =>
        cases hsv : s.v with
        | none => trivial
        | some y =>
          obtain ⟨x, hx, e⟩ := ((h _ _).2 (.here hsv)).own ht (by rw [path_length, hp]; exact Nat.le_refl _)
          rw [htv] at hx
          cases hx
    have hkids : SimL (fun _ x y => x = y) t.ks s.ks := by
      refine ⟨hlen, fun i h1 h2 => ?_⟩
      have mc : t.ks[i] ∈ t.ks := List.getElem_mem h1
      have md : s.ks[i] ∈ s.ks := List.getElem_mem h2
      have hb : t.ks[i].byte t.p.size = s.ks[i].byte s.p.size := by
        have := congrArg (fun l : List UInt8 => l[i]?) hbytes
        simpa [h1, h2] using this
      have hsame : ∀ k x, Has t.ks[i] k x ↔ Has s.ks[i] k x := by
        intro k x
        constructor
        · intro g
          have hl : s.p.size < k.length := by
            have h1 := (g.pre (ht.kids' _ mc)).length_le
            have h2 := (ht.ext' _ mc).2
            rw [path_length] at h1
            rw [← hp]
            omega
          obtain ⟨d, hd, g', e⟩ := ((h _ _).1 (.kid mc g)).down hs hl
          have : d = s.ks[i] := hs.inj hd md (by rw [e, ← hb, g.byte ht mc, hp])
          exact this ▸ g'
        · intro g
          have hl : t.p.size < k.length := by
            have h1 := (g.pre (hs.kids' _ md)).length_le
            have h2 := (hs.ext' _ md).2
            rw [path_length] at h1
            rw [hp]
            omega
          obtain ⟨d, hd, g', e⟩ := ((h _ _).2 (.kid md g)).down ht hl
          have : d = t.ks[i] := ht.inj hd mc (by rw [e, hb, g.byte hs md, hp])
          exact this ▸ g'
      exact ih _ mc (ht.kids' _ mc) (hs.kids' _ md) (hS.kids _ md) (same_path (ht.kids' _ mc) (hs.kids' _ md) (hT.kids _ mc) (hS.kids _ md) (hT.need _ mc) (hS.need _ md) hsame) hsame
    cases t
    cases s
    exact Sim.of hp hv hkids
end Go.Proofs.Ytcdfbbjakkmmoaa
