/- What WatchFirst keeps: one set, one slice, the same watches in both. -/
import Derived.Test.YtochfkjpbdfddaaWSetM
namespace Go.Proofs.Ytochfkjpbdfddaa
open Go.RowKit
set_option linter.unusedVariables false

structure FInv (W wr : World) (sb : Nat) (n : Int) (x : Value) (wl : List (Nat × Nat)) (fz : Nat → Bool) : Prop where
  below : Below W.heap.size W wr
  lsb : W.heap.size ≤ sb
  ptr : OwnV wr W.heap.size 31 x (ptrs (wl.map (·.1)))
  set : ∃ v, SAt wr W.heap.size sb n v (wl.map (·.1)) ∧ ∀ k, x.ownBlock = some k → v.ownBlock ≠ some k
  wat : ∀ p ∈ wl, WAt wr p.1 p.2 (fz p.1) ∧ W.heap.size ≤ p.1 ∧ W.heap.size ≤ p.2
  nod : (wl.map (·.1)).Nodup
  noc : (wl.map (·.2)).Nodup

section
variable {W wr w' : World} {sb : Nat} {n : Int} {x : Value} {wl : List (Nat × Nat)} {fz : Nat → Bool}

theorem FInv.later (h : FInv W wr sb n x wl fz) (hb : Below wr.heap.size wr w') : FInv W w' sb n x wl fz := by
  have ht : Touched [] wr w' := Touched.ofBelow hb []
  obtain ⟨v, hs, hsep⟩ := h.set
  exact ⟨h.below.trans (hb.mono h.below.size), h.lsb, h.ptr.touched ht (by simp), ⟨v, hs.touched ht (by simp) (by simp), hsep⟩, fun p hp => ⟨(h.wat p hp).1.below hb, (h.wat p hp).2⟩, h.nod, h.noc⟩

theorem FInv.held (h : FInv W wr sb n x wl fz) : ∀ y ∈ wl.map (·.1), ∃ c, WAt wr y c (fz y) := by
  intro y hy
  obtain ⟨p, hp, rfl⟩ := List.mem_map.1 hy
  exact ⟨p.2, (h.wat p hp).1⟩
theorem FInv.held' (h : FInv W wr sb n x wl fz) : ∀ y ∈ wl.map (·.1), ∃ c f, WAt wr y c f := fun y hy => let ⟨c, hc⟩ := h.held y hy; ⟨c, _, hc⟩

/-- A watch is put into the set, then into the slice. -/
theorem FInv.put {w2 w3 w4 : World} {v v' x' : Value} {b c : Nat} (h : FInv W w2 sb n x wl fz) (hv : SAt w2 W.heap.size sb n v (wl.map (·.1))) (hsep : ∀ k, x.ownBlock = some k → v.ownBlock ≠ some k)
    (hw : WAt w2 b c false) (hz : fz b = false) (hb : W.heap.size ≤ b) (hc : W.heap.size ≤ c) (hnb : b ∉ wl.map (·.1)) (hnc : c ∉ wl.map (·.2))
    (hs3 : SAt w3 W.heap.size sb n v' (wl.map (·.1) ++ [b])) (ht3 : Touched (sb :: v.ownBlock.toList) w2 w3) (hp3 : ∀ k, v'.ownBlock = some k → v.ownBlock = some k ∨ w2.heap.size ≤ k)
    (ho4 : OwnV w4 W.heap.size 31 x' (ptrs (wl.map (·.1)) ++ [Go.Proofs.Ytochfkjpbdfddaa.ptr b])) (hg4 : Grew w3 w4 x x') : FInv W w4 sb n x' (wl ++ [(b, c)]) fz := by
  have hx3 : OwnV w3 W.heap.size 31 x (ptrs (wl.map (·.1))) := h.ptr.touched ht3 fun k hk => by
    have h1 := own_ne (h.ptr.typed k hk) hv.blk (by decide)
    have h2 := hsep k hk
    simp [h1, h2]
  have ht4 := hg4.touched
  have wat4 : ∀ b' c' f', WAt w2 b' c' f' → WAt w4 b' c' f' := fun b' c' f' hw' => by
    have hn := hw'.ne_set hv
    have h3 : WAt w3 b' c' f' := hw'.touched ht3 (by simp [hn.1]; intro e; exact (hn.2.2 b' e).1 rfl) (by simp [hn.2.1]; intro e; exact (hn.2.2 c' e).2 rfl)
    refine h3.touched ht4 ?_ ?_
    · simp; intro e; exact own_ne (hx3.typed b' e) h3.blk (by decide) rfl
    · simp; intro e; exact own_ne_chan (hx3.typed c' e) h3.chn rfl
  refine ⟨?_, h.lsb, ?_, ⟨v', ?_, ?_⟩, ?_, ?_, ?_⟩
  · refine (h.below.trans (ht3.toBelow h.below.size ?_)).trans (ht4.toBelow (Nat.le_trans h.below.size ht3.size) ?_)
    · intro k hk
      simp at hk
      rcases hk with rfl | hk
      · exact h.lsb
      · exact (hv.own.lt k hk).1
    · intro k hk
      simp at hk
      exact (hx3.lt k hk).1
  · rw [List.map_append, ptrs_append]; exact ho4
  · rw [List.map_append]
    refine hs3.touched ht4 ?_ ?_
    · simp; intro e; exact own_ne (hx3.typed sb e) hs3.blk (by decide) rfl
    · intro k hk
      simp
      intro e
      rcases hp3 k hk with h1 | h1
      · exact hsep k e h1
      · have := (h.ptr.lt k e).2; omega
  · intro k hk e
    rcases hg4.place k hk with h1 | h1
    · rcases hp3 k e with h2 | h2
      · exact hsep k h1 h2
      · have := (h.ptr.lt k h1).2; omega
    · have := (hs3.own.lt k e).2; omega
  · intro p hp
    rcases List.mem_append.1 hp with hp | hp
    · exact ⟨wat4 _ _ _ (h.wat p hp).1, (h.wat p hp).2⟩
    · simp at hp; subst hp
      exact ⟨by show WAt w4 b c (fz b); rw [hz]; exact wat4 _ _ _ hw, hb, hc⟩
  · rw [List.map_append]
    exact List.nodup_append.2 ⟨h.nod, by simp, by intro a ha b' hb' e; simp at hb'; subst hb'; subst e; exact hnb ha⟩
  · rw [List.map_append]
    exact List.nodup_append.2 ⟨h.noc, by simp, by intro a ha b' hb' e; simp at hb'; subst hb'; subst e; exact hnc ha⟩

theorem inj_of_nodup {l : List Nat} (h : l.Nodup) {i j : Nat} (hi : i < l.length) (hj : j < l.length) (e : l[i] = l[j]) : i = j := by
  rw [List.nodup_iff_pairwise_ne, List.pairwise_iff_getElem] at h
  rcases Nat.lt_trichotomy i j with h1 | h1 | h1
  · exact absurd e (h i j hi hj h1)
  · exact h1
  · exact absurd e.symm (h j i hj hi h1)

/-- One of the watches is fired. -/
theorem FInv.fire {p : Nat × Nat} (h : FInv W wr sb n x wl fz) (hp : p ∈ wl) (ht : Touched [p.1, p.2] wr w') (hw : WAt w' p.1 p.2 true) : FInv W w' sb n x wl (fun y => y == p.1 || fz y) := by
  obtain ⟨v, hs, hsep⟩ := h.set
  have hpw := (h.wat p hp).1
  have hn := hpw.ne_set hs
  refine ⟨h.below.trans (ht.toBelow h.below.size ?_), h.lsb, h.ptr.touched ht ?_, ⟨v, hs.touched ht ?_ ?_, hsep⟩, ?_, h.nod, h.noc⟩
  · intro k hk
    simp at hk
    rcases hk with rfl | rfl
    · exact (h.wat p hp).2.1
    · exact (h.wat p hp).2.2
  · intro k hk
    simp
    exact ⟨own_ne (h.ptr.typed k hk) hpw.blk (by decide), own_ne_chan (h.ptr.typed k hk) hpw.chn⟩
  · simp; exact ⟨fun e => hn.1 e.symm, fun e => hn.2.1 e.symm⟩
  · intro k hk
    simp
    exact hn.2.2 k hk
  · intro q hq
    refine ⟨?_, (h.wat q hq).2⟩
    have hqw := (h.wat q hq).1
    by_cases he : q.1 = p.1
    · have h2 : q.2 = p.2 := by
        have := hqw
        rw [he] at this
        exact (this.chan_eq hpw).1
      rw [he, h2]
      simpa using hw
    · have hc : q.2 ≠ p.2 := by
        intro e
        obtain ⟨i, hi, rfl⟩ := List.getElem_of_mem hq
        obtain ⟨j, hj, rfl⟩ := List.getElem_of_mem hp
        have : i = j := inj_of_nodup h.noc (by simpa using hi) (by simpa using hj) (by simpa using e)
        subst this
        exact he rfl
      have : WAt w' q.1 q.2 (fz q.1) := hqw.touched ht (by simp; exact ⟨he, hqw.ne hpw⟩) (by simp; exact ⟨fun e => (hpw.ne hqw) e.symm, hc⟩)
      have hz : (q.1 == p.1) = false := by simp [he]
      show WAt w' q.1 q.2 (q.1 == p.1 || fz q.1)
      rw [hz, Bool.false_or]; exact this
end

theorem pos_none {p : Nat → Bool} {l : List Nat} (h : posOf p l < 0) : ∀ j (hj : j < l.length), p l[j] = false := by
  intro j hj
  unfold posOf at h
  cases hf : l.findIdx? p with
  | some i => rw [hf] at h; simp at h; omega
  | none => rw [List.findIdx?_eq_none_iff] at hf; exact hf _ (List.getElem_mem hj)
theorem pos_some {p : Nat → Bool} {l : List Nat} (h : ¬ posOf p l < 0) : ∃ (m : Nat) (hm : m < l.length), posOf p l = (m : Int) ∧ p l[m] = true ∧ ∀ j (hj : j < l.length), j < m → p l[j] = false := by
  unfold posOf at h ⊢
  cases hf : l.findIdx? p with
  | some i =>
    rw [List.findIdx?_eq_some_iff_getElem] at hf
    obtain ⟨hi, h1, h2⟩ := hf
    exact ⟨i, hi, rfl, h1, fun j hj hji => by simpa using h2 j hji⟩
  | none => rw [hf] at h; simp at h

/-- The least place behind one more firing. -/
theorem pos_fire {l : List Nat} {fz : Nat → Bool} (hn : l.Nodup) (i : Nat) (hi : i < l.length) :
    posOf (fun y => y == l[i] || fz y) l = if posOf fz l < 0 ∨ (i : Int) < posOf fz l then (i : Int) else posOf fz l := by
  have hne : ∀ j (hj : j < l.length), j ≠ i → (l[j] == l[i]) = false := fun j hj h => by simp; exact fun e => h (inj_of_nodup hn hj hi e)
  by_cases h : posOf fz l < 0
  · rw [if_pos (.inl h)]
    have := pos_none h
    exact posOf_hit hi (by simp) fun j hj hji => by simp only [hne j hj (by omega), this j hj, Bool.or_self]
  · obtain ⟨m, hm, he, ht, hb⟩ := pos_some h
    rw [he]
    by_cases hlt : i < m
    · rw [if_pos (.inr (by omega))]
      exact posOf_hit hi (by simp) fun j hj hji => by simp only [hne j hj (by omega), hb j hj (by omega), Bool.or_self]
    · rw [if_neg (by omega)]
      exact posOf_hit hm (by simp only [ht, Bool.or_true]) fun j hj hji => by simp only [hne j hj (by omega), hb j hj (by omega), Bool.or_self]
end Go.Proofs.Ytochfkjpbdfddaa
