/- Layer 6 (schema): tables that are written over and grow, at whatever place; what else lies in memory stays. -/
import Derived.Test.YtbpmahchinblhaaDoorSAdd
namespace Go.Proofs.YtbpmahchinblhaaDoor
open Go.RowKit
set_option linter.unusedVariables false

/-- Nothing was written but blocks of P. -/
structure KpA (P : Nat → Prop) (w w' : World) : Prop where
  os : w'.os = w.os
  tape : w'.tape = w.tape
  output : w'.output = w.output
  size : w.heap.size ≤ w'.heap.size
  block : ∀ k, k < w.heap.size → ¬ P k → w'.heap[k]? = w.heap[k]?
theorem KpA.refl (P : Nat → Prop) (w : World) : KpA P w w := ⟨rfl, rfl, rfl, Nat.le_refl _, fun _ _ _ => rfl⟩
theorem KpA.trans {P : Nat → Prop} {a b c : World} (h : KpA P a b) (k : KpA P b c) : KpA P a c :=
  ⟨k.os.trans h.os, k.tape.trans h.tape, k.output.trans h.output, Nat.le_trans h.size k.size, fun i hi hl => (k.block i (Nat.lt_of_lt_of_le hi h.size) hl).trans (h.block i hi hl)⟩
theorem KpA.ofBelow {P : Nat → Prop} {a b : World} (h : Below a.heap.size a b) : KpA P a b := ⟨h.os, h.tape, h.output, h.size, fun k hk _ => h.block k hk⟩
theorem KpA.weaken {P Q : Nat → Prop} {a b : World} (h : KpA P a b) (hq : ∀ k, P k → Q k) : KpA Q a b := ⟨h.os, h.tape, h.output, h.size, fun k hk hn => h.block k hk fun hp => hn (hq k hp)⟩
theorem KpA.ofGrew {a b : World} {u v : Value} (h : Grew a b u v) : KpA (fun k => u.ownBlock = some k) a b :=
  ⟨h.grown.os, h.grown.tape, h.grown.output, h.grown.size, fun k hk hn => h.grown.block k hk (fun e => hn e.symm)⟩
theorem KpA.set (w : World) (g j : Nat) (u : Value) : KpA (fun k => k = g) w (w.setCell ⟨g, j, none⟩ u) :=
  ⟨rfl, rfl, rfl, by simp, fun k _ hk => heap_setCell_other w ⟨g, j, none⟩ k u hk⟩
theorem KpA.below {P : Nat → Prop} {a b : World} {B : Nat} (h : KpA P a b) (hB : B ≤ a.heap.size) (hp : ∀ k, P k → B ≤ k) : Below B a b :=
  ⟨h.os, h.tape, h.output, h.size, fun k hk => h.block k (by omega) fun hq => by have := hp k hq; omega⟩

theorem row_keep {w w' : World} {B : Nat} {e : TypeId} {size : Nat} {v : Value} {n : Nat} {l : List Value} (h : w.ownsRow B e size v n l) (hk : ∀ k, v.ownBlock = some k → w'.heap[k]? = w.heap[k]?) : w'.ownsRow B e size v n l := by
  refine ⟨h.1, ?_⟩
  rcases h.2 with h0 | ⟨g, cap, cur, rfl, hb, hg, r⟩
  · exact .inl h0
  · exact .inr ⟨g, cap, cur, rfl, hb, (hk g rfl).trans hg, r⟩
theorem row_kp {P : Nat → Prop} {w w' : World} {B : Nat} {e : TypeId} {size : Nat} {v : Value} {n : Nat} {l : List Value} (h : w.ownsRow B e size v n l) (hk : KpA P w w') (hn : ∀ k, v.ownBlock = some k → ¬ P k) : w'.ownsRow B e size v n l :=
  row_keep h fun k hv => hk.block k (World.ownsRow.lt h k hv).2 (hn k hv)
theorem row_base {w : World} {B C : Nat} {e : TypeId} {size : Nat} {v : Value} {n : Nat} {l : List Value} (h : w.ownsRow B e size v n l) (hC : C ≤ B) : w.ownsRow C e size v n l := by
  refine ⟨h.1, ?_⟩
  rcases h.2 with h0 | ⟨g, cap, cur, rfl, hb, hg, r⟩
  · exact .inl h0
  · exact .inr ⟨g, cap, cur, rfl, by omega, hg, r⟩
/-- Tables of which no block was written. -/
theorem Tabs.kp {P : Nat → Prop} {w w' : World} {B : Nat} {v : Value} {ts : List TV} (h : Tabs w B v ts) (hk : KpA P w w') (hn : ∀ k, B ≤ k → k < w.heap.size → ¬ P k) : Tabs w' B v ts := by
  have r : ∀ {e : TypeId} {size : Nat} {v : Value} {n : Nat} {l : List Value}, w.ownsRow B e size v n l → w'.ownsRow B e size v n l := fun h => row_kp h hk fun k hv => hn k (World.ownsRow.lt h k hv).1 (World.ownsRow.lt h k hv).2
  exact ⟨r h.row, fun t ht => ⟨r (h.tab t ht).fs, r (h.tab t ht).xs, fun x hx => r ((h.tab t ht).ov x hx)⟩, h.afs, h.axs, h.aov, h.most, h.ok⟩

/-- Tables in memory, each slice in a block of its own, all of them blocks of P. -/
structure Wd (P : Nat → Prop) (w : World) (v : Value) (ts : List TV) : Prop where
  row : w.ownsRow 0 35 3 v ts.length (tcs ts)
  fs : ∀ (i : Nat) (t : TV), ts[i]? = some t → w.ownsRow 0 40 2 t.fv t.fs.length (fcs t.fs)
  xs : ∀ (i : Nat) (t : TV), ts[i]? = some t → w.ownsRow 0 38 5 t.xv t.xs.length (xcs t.xs)
  ov : ∀ (i : Nat) (t : TV) (j : Nat) (x : XV), ts[i]? = some t → t.xs[j]? = some x → w.ownsRow 0 3 1 x.v x.x.ov.length (ics x.x.ov)
  afs : ∀ (i : Nat) (t : TV) (i' : Nat) (t' : TV), ts[i]? = some t → ts[i']? = some t' → i ≠ i' → ∀ k, t.fv.ownBlock = some k → t'.fv.ownBlock ≠ some k
  axs : ∀ (i : Nat) (t : TV) (i' : Nat) (t' : TV), ts[i]? = some t → ts[i']? = some t' → i ≠ i' → ∀ k, t.xv.ownBlock = some k → t'.xv.ownBlock ≠ some k
  aov : ∀ (i : Nat) (t : TV) (j : Nat) (x : XV) (i' : Nat) (t' : TV) (j' : Nat) (x' : XV), ts[i]? = some t → t.xs[j]? = some x → ts[i']? = some t' → t'.xs[j']? = some x' → (i ≠ i' ∨ j ≠ j') → ∀ k, x.v.ownBlock = some k → x'.v.ownBlock ≠ some k
  pr : ∀ k, v.ownBlock = some k → P k
  pf : ∀ (i : Nat) (t : TV), ts[i]? = some t → ∀ k, t.fv.ownBlock = some k → P k
  px : ∀ (i : Nat) (t : TV), ts[i]? = some t → ∀ k, t.xv.ownBlock = some k → P k
  po : ∀ (i : Nat) (t : TV) (j : Nat) (x : XV), ts[i]? = some t → t.xs[j]? = some x → ∀ k, x.v.ownBlock = some k → P k

theorem apart_at {l : List Value} (h : ApartV l) : ∀ (i j : Nat) (a b : Value), l[i]? = some a → l[j]? = some b → i ≠ j → ∀ k, a.ownBlock = some k → b.ownBlock ≠ some k := by
  intro i j a b hi hj hne k ha hb
  obtain ⟨hi', rfl⟩ := List.getElem?_eq_some_iff.1 hi
  obtain ⟨hj', rfl⟩ := List.getElem?_eq_some_iff.1 hj
  have hp := List.pairwise_iff_getElem.1 h
  rcases Nat.lt_or_gt_of_ne hne with hl | hl
  · exact hp i j hi' hj' hl k ha hb
  · exact hp j i hj' hi' hl k hb ha
theorem Tabs.wd {P : Nat → Prop} {w : World} {B : Nat} {v : Value} {ts : List TV} (h : Tabs w B v ts) (hp : ∀ k, B ≤ k → k < w.heap.size → P k) : Wd P w v ts := by
  have mem : ∀ {i : Nat} {t : TV}, ts[i]? = some t → t ∈ ts := fun h => List.mem_of_getElem? h
  have pp : ∀ {e : TypeId} {size : Nat} {v : Value} {n : Nat} {l : List Value}, w.ownsRow B e size v n l → ∀ k, v.ownBlock = some k → P k := fun h k hv => hp k (World.ownsRow.lt h k hv).1 (World.ownsRow.lt h k hv).2
  refine ⟨row_base h.row (Nat.zero_le _), fun i t ht => row_base (h.tab t (mem ht)).fs (Nat.zero_le _), fun i t ht => row_base (h.tab t (mem ht)).xs (Nat.zero_le _), fun i t j x ht hx => row_base ((h.tab t (mem ht)).ov x (List.mem_of_getElem? hx)) (Nat.zero_le _), ?_, ?_, ?_, pp h.row, fun i t ht => pp (h.tab t (mem ht)).fs, fun i t ht => pp (h.tab t (mem ht)).xs, fun i t j x ht hx => pp ((h.tab t (mem ht)).ov x (List.mem_of_getElem? hx))⟩
  · intro i t i' t' ht ht' hne
    exact apart_at h.afs i i' _ _ (by simp [ht]) (by simp [ht']) hne
  · intro i t i' t' ht ht' hne
    exact apart_at h.axs i i' _ _ (by simp [ht]) (by simp [ht']) hne
  · intro i t j x i' t' j' x' ht hx ht' hx' hne k hk hk'
    have ha := h.aov
    unfold ApartV at ha
    rw [List.pairwise_flatMap] at ha
    by_cases e : i = i'
    · subst e
      obtain rfl : t = t' := Option.some.inj (ht.symm.trans ht')
      have := apart_at (ha.1 t (mem ht)) j j' x.v x'.v (by simp [hx]) (by simp [hx']) (by rcases hne with h | h; exact absurd rfl h; exact h)
      exact this k hk hk'
    · obtain ⟨hi, rfl⟩ := List.getElem?_eq_some_iff.1 ht
      obtain ⟨hi', rfl⟩ := List.getElem?_eq_some_iff.1 ht'
      have hp2 := List.pairwise_iff_getElem.1 ha.2
      have m1 : x.v ∈ ts[i].xs.map (·.v) := List.mem_map_of_mem (List.mem_of_getElem? hx)
      have m2 : x'.v ∈ ts[i'].xs.map (·.v) := List.mem_map_of_mem (List.mem_of_getElem? hx')
      rcases Nat.lt_or_gt_of_ne e with hl | hl
      · exact hp2 i i' hi hi' hl x.v m1 x'.v m2 k hk hk'
      · exact hp2 i' i hi' hi hl x'.v m2 x.v m1 k hk' hk
theorem Wd.kp {P Q : Nat → Prop} {w w' : World} {v : Value} {ts : List TV} (h : Wd P w v ts) (hk : KpA Q w w') (hn : ∀ k, P k → k < w.heap.size → ¬ Q k) : Wd P w' v ts := by
  have r : ∀ {e : TypeId} {size : Nat} {u : Value} {n : Nat} {l : List Value}, w.ownsRow 0 e size u n l → (∀ k, u.ownBlock = some k → P k) → w'.ownsRow 0 e size u n l := fun h hp => row_kp h hk fun k hv => hn k (hp k hv) (World.ownsRow.lt h k hv).2
  exact ⟨r h.row h.pr, fun i t ht => r (h.fs i t ht) (h.pf i t ht), fun i t ht => r (h.xs i t ht) (h.px i t ht), fun i t j x ht hx => r (h.ov i t j x ht hx) (h.po i t j x ht hx), h.afs, h.axs, h.aov, h.pr, h.pf, h.px, h.po⟩

theorem set_at {α : Type} {l : List α} {i i' : Nat} {a b : α} (h : (l.set i a)[i']? = some b) : (i' = i ∧ b = a ∧ i < l.length) ∨ (i' ≠ i ∧ l[i']? = some b) := by
  rw [List.getElem?_set] at h
  by_cases e : i = i'
  · rw [if_pos e] at h
    split at h
    · next hl => exact .inl ⟨e.symm, (Option.some.inj h).symm, by omega⟩
    · cases h
  · rw [if_neg e] at h
    exact .inr ⟨fun h' => e h'.symm, h⟩

/-- One table's fields were written over or have grown. -/
theorem Wd.putF {P : Nat → Prop} {w w2 : World} {v : Value} {ts : List TV} (h : Wd P w v ts) {i : Nat} {t : TV} (ht : ts[i]? = some t) {fs' : List Fd} {a' : Option Addr} {c' : Nat}
    (hrow : w2.ownsRow 0 35 3 v ts.length (tcs (ts.set i { t with fs := fs', fa := a', fc := c' })))
    (hf : w2.ownsRow 0 40 2 (.slice a' fs'.length c') fs'.length (fcs fs'))
    (hk : KpA (fun k => t.fv.ownBlock = some k ∨ v.ownBlock = some k) w w2)
    (hp : ∀ k, (Value.slice a' fs'.length c').ownBlock = some k → t.fv.ownBlock = some k ∨ (w.heap.size ≤ k ∧ P k)) : Wd P w2 v (ts.set i { t with fs := fs', fa := a', fc := c' }) := by
  have keep : ∀ {e : TypeId} {size : Nat} {u : Value} {n : Nat} {l : List Value}, w.ownsRow 0 e size u n l → e ≠ 35 → (∀ k, u.ownBlock = some k → t.fv.ownBlock ≠ some k) → w2.ownsRow 0 e size u n l := by
    intro e size u n l hu he hne
    refine row_kp hu hk fun k hv hq => ?_
    rcases hq with hq | hq
    · exact hne k hv hq
    · exact rows_ne hu h.row he k hq hv
  have hft := h.fs i t ht
  refine ⟨by simpa using hrow, ?_, ?_, ?_, ?_, ?_, ?_, h.pr, ?_, ?_, ?_⟩
  · intro i1 t1 h1
    rcases set_at h1 with ⟨rfl, rfl, _⟩ | ⟨hne, h1⟩
    · exact hf
    · exact keep (h.fs i1 t1 h1) (by decide) fun k hv => h.afs i1 t1 i t h1 ht hne k hv
  · intro i1 t1 h1
    rcases set_at h1 with ⟨rfl, rfl, _⟩ | ⟨hne, h1⟩
    · exact keep (h.xs i1 t ht) (by decide) fun k hv hq => rows_ne (h.xs i1 t ht) hft (by decide) k hq hv
    · exact keep (h.xs i1 t1 h1) (by decide) fun k hv hq => rows_ne (h.xs i1 t1 h1) hft (by decide) k hq hv
  · intro i1 t1 j x h1 hx
    rcases set_at h1 with ⟨rfl, rfl, _⟩ | ⟨hne, h1⟩
    · exact keep (h.ov i1 t j x ht hx) (by decide) fun k hv hq => rows_ne (h.ov i1 t j x ht hx) hft (by decide) k hq hv
    · exact keep (h.ov i1 t1 j x h1 hx) (by decide) fun k hv hq => rows_ne (h.ov i1 t1 j x h1 hx) hft (by decide) k hq hv
  · intro i1 t1 i2 t2 h1 h2 hne k hk1 hk2
    rcases set_at h1 with ⟨rfl, rfl, _⟩ | ⟨hn1, q1⟩
    · rcases set_at h2 with ⟨rfl, rfl, _⟩ | ⟨hn2, h2⟩
      · exact hne rfl
      · rcases hp k hk1 with hq | hq
        · exact h.afs _ _ _ _ ht h2 hne k hq hk2
        · have := (World.ownsRow.lt (h.fs _ _ h2) k hk2).2; omega
    · rcases set_at h2 with ⟨rfl, rfl, _⟩ | ⟨hn2, h2⟩
      · rcases hp k hk2 with hq | hq
        · exact h.afs _ _ _ _ q1 ht hne k hk1 hq
        · have := (World.ownsRow.lt (h.fs _ _ q1) k hk1).2; omega
      · exact h.afs _ _ _ _ q1 h2 hne k hk1 hk2
  · intro i1 t1 i2 t2 h1 h2 hne k hk1 hk2
    have o : ∀ {i' : Nat} {t' : TV}, (ts.set i { t with fs := fs', fa := a', fc := c' })[i']? = some t' → ∃ t0, ts[i']? = some t0 ∧ t0.xv = t'.xv := fun {i' t'} h' => by
      rcases set_at h' with ⟨rfl, rfl, _⟩ | ⟨_, h'⟩
      · exact ⟨t, ht, rfl⟩
      · exact ⟨t', h', rfl⟩
    obtain ⟨u1, g1, e1⟩ := o h1
    obtain ⟨u2, g2, e2⟩ := o h2
    exact h.axs _ _ _ _ g1 g2 hne k (e1 ▸ hk1) (e2 ▸ hk2)
  · intro i1 t1 j1 x1 i2 t2 j2 x2 h1 hx1 h2 hx2 hne k hk1 hk2
    have o : ∀ {i' : Nat} {t' : TV}, (ts.set i { t with fs := fs', fa := a', fc := c' })[i']? = some t' → ∃ t0, ts[i']? = some t0 ∧ t0.xs = t'.xs := fun {i' t'} h' => by
      rcases set_at h' with ⟨rfl, rfl, _⟩ | ⟨_, h'⟩
      · exact ⟨t, ht, rfl⟩
      · exact ⟨t', h', rfl⟩
    obtain ⟨u1, g1, e1⟩ := o h1
    obtain ⟨u2, g2, e2⟩ := o h2
    exact h.aov _ _ _ _ _ _ _ _ g1 (e1 ▸ hx1) g2 (e2 ▸ hx2) hne k hk1 hk2
  · intro i1 t1 h1 k hk1
    rcases set_at h1 with ⟨rfl, rfl, _⟩ | ⟨_, h1⟩
    · rcases hp k hk1 with hq | hq
      · exact h.pf _ _ ht k hq
      · exact hq.2
    · exact h.pf _ _ h1 k hk1
  · intro i1 t1 h1 k hk1
    rcases set_at h1 with ⟨rfl, rfl, _⟩ | ⟨_, h1⟩
    · exact h.px _ _ ht k hk1
    · exact h.px _ _ h1 k hk1
  · intro i1 t1 j x h1 hx k hk1
    rcases set_at h1 with ⟨rfl, rfl, _⟩ | ⟨_, h1⟩
    · exact h.po _ _ _ _ ht hx k hk1
    · exact h.po _ _ _ _ h1 hx k hk1

/-- One table's indexes were written over or have grown; their places are as they were, or none. -/
theorem Wd.putX {P : Nat → Prop} {w w2 : World} {v : Value} {ts : List TV} (h : Wd P w v ts) {i : Nat} {t : TV} (ht : ts[i]? = some t) {xs' : List XV} {a' : Option Addr} {c' : Nat}
    (hrow : w2.ownsRow 0 35 3 v ts.length (tcs (ts.set i { t with xs := xs', xa := a', xc := c' })))
    (hx : w2.ownsRow 0 38 5 (.slice a' xs'.length c') xs'.length (xcs xs'))
    (hk : KpA (fun k => t.xv.ownBlock = some k ∨ v.ownBlock = some k) w w2)
    (hp : ∀ k, (Value.slice a' xs'.length c').ownBlock = some k → t.xv.ownBlock = some k ∨ (w.heap.size ≤ k ∧ P k))
    (ho : ∀ (j : Nat) (x' : XV), xs'[j]? = some x' → (∃ x, t.xs[j]? = some x ∧ x'.v = x.v ∧ x'.x.ov = x.x.ov) ∨ (x'.v = .slice none 0 0 ∧ x'.x.ov = [])) : Wd P w2 v (ts.set i { t with xs := xs', xa := a', xc := c' }) := by
  have keep : ∀ {e : TypeId} {size : Nat} {u : Value} {n : Nat} {l : List Value}, w.ownsRow 0 e size u n l → e ≠ 35 → (∀ k, u.ownBlock = some k → t.xv.ownBlock ≠ some k) → w2.ownsRow 0 e size u n l := by
    intro e size u n l hu he hne
    refine row_kp hu hk fun k hv hq => ?_
    rcases hq with hq | hq
    · exact hne k hv hq
    · exact rows_ne hu h.row he k hq hv
  have hxt := h.xs i t ht
  -- an index behind it is one ahead of it, or holds no places
  have old : ∀ {i' : Nat} {t' : TV} {j : Nat} {x' : XV}, (ts.set i { t with xs := xs', xa := a', xc := c' })[i']? = some t' → t'.xs[j]? = some x' → (∃ t0 x0, ts[i']? = some t0 ∧ t0.xs[j]? = some x0 ∧ x'.v = x0.v ∧ x'.x.ov = x0.x.ov) ∨ (x'.v = .slice none 0 0 ∧ x'.x.ov = []) := by
    intro i' t' j x' h' hx'
    rcases set_at h' with ⟨rfl, rfl, _⟩ | ⟨_, h'⟩
    · rcases ho j x' hx' with ⟨x, h1, h2, h3⟩ | h1
      · exact .inl ⟨t, x, ht, h1, h2, h3⟩
      · exact .inr h1
    · exact .inl ⟨t', x', h', hx', rfl, rfl⟩
  refine ⟨by simpa using hrow, ?_, ?_, ?_, ?_, ?_, ?_, h.pr, ?_, ?_, ?_⟩
  · intro i1 t1 h1
    rcases set_at h1 with ⟨rfl, rfl, _⟩ | ⟨hne, h1⟩
    · exact keep (h.fs i1 t ht) (by decide) fun k hv hq => rows_ne (h.fs i1 t ht) hxt (by decide) k hq hv
    · exact keep (h.fs i1 t1 h1) (by decide) fun k hv hq => rows_ne (h.fs i1 t1 h1) hxt (by decide) k hq hv
  · intro i1 t1 h1
    rcases set_at h1 with ⟨rfl, rfl, _⟩ | ⟨hne, h1⟩
    · exact hx
    · exact keep (h.xs i1 t1 h1) (by decide) fun k hv => h.axs i1 t1 i t h1 ht hne k hv
  · intro i1 t1 j x h1 hx1
    rcases old h1 hx1 with ⟨t0, x0, g1, g2, e1, e2⟩ | ⟨e1, e2⟩
    · rw [e1, e2]
      exact keep (h.ov i1 t0 j x0 g1 g2) (by decide) fun k hv hq => rows_ne (h.ov i1 t0 j x0 g1 g2) hxt (by decide) k hq hv
    · rw [e1, e2]
      exact World.ownsRow_nil _ _ _ _
  · intro i1 t1 i2 t2 h1 h2 hne k hk1 hk2
    have o : ∀ {i' : Nat} {t' : TV}, (ts.set i { t with xs := xs', xa := a', xc := c' })[i']? = some t' → ∃ t0, ts[i']? = some t0 ∧ t0.fv = t'.fv := fun {i' t'} h' => by
      rcases set_at h' with ⟨rfl, rfl, _⟩ | ⟨_, h'⟩
      · exact ⟨t, ht, rfl⟩
      · exact ⟨t', h', rfl⟩
    obtain ⟨u1, g1, e1⟩ := o h1
    obtain ⟨u2, g2, e2⟩ := o h2
    exact h.afs _ _ _ _ g1 g2 hne k (e1 ▸ hk1) (e2 ▸ hk2)
  · intro i1 t1 i2 t2 h1 h2 hne k hk1 hk2
    rcases set_at h1 with ⟨rfl, rfl, _⟩ | ⟨hn1, q1⟩
    · rcases set_at h2 with ⟨rfl, rfl, _⟩ | ⟨hn2, h2⟩
      · exact hne rfl
      · rcases hp k hk1 with hq | hq
        · exact h.axs _ _ _ _ ht h2 hne k hq hk2
        · have := (World.ownsRow.lt (h.xs _ _ h2) k hk2).2; omega
    · rcases set_at h2 with ⟨rfl, rfl, _⟩ | ⟨hn2, h2⟩
      · rcases hp k hk2 with hq | hq
        · exact h.axs _ _ _ _ q1 ht hne k hk1 hq
        · have := (World.ownsRow.lt (h.xs _ _ q1) k hk1).2; omega
      · exact h.axs _ _ _ _ q1 h2 hne k hk1 hk2
  · intro i1 t1 j1 x1 i2 t2 j2 x2 h1 hx1 h2 hx2 hne k hk1 hk2
    rcases old h1 hx1 with ⟨u1, y1, g1, q1, e1, _⟩ | ⟨e1, _⟩
    · rcases old h2 hx2 with ⟨u2, y2, g2, q2, e2, _⟩ | ⟨e2, _⟩
      · exact h.aov _ _ _ _ _ _ _ _ g1 q1 g2 q2 hne k (e1 ▸ hk1) (e2 ▸ hk2)
      · rw [e2] at hk2; cases hk2
    · rw [e1] at hk1; cases hk1
  · intro i1 t1 h1 k hk1
    rcases set_at h1 with ⟨rfl, rfl, _⟩ | ⟨_, h1⟩
    · exact h.pf _ _ ht k hk1
    · exact h.pf _ _ h1 k hk1
  · intro i1 t1 h1 k hk1
    rcases set_at h1 with ⟨rfl, rfl, _⟩ | ⟨_, h1⟩
    · rcases hp k hk1 with hq | hq
      · exact h.px _ _ ht k hq
      · exact hq.2
    · exact h.px _ _ h1 k hk1
  · intro i1 t1 j x h1 hx1 k hk1
    rcases old h1 hx1 with ⟨t0, x0, g1, g2, e1, _⟩ | ⟨e1, _⟩
    · exact h.po _ _ _ _ g1 g2 k (e1 ▸ hk1)
    · rw [e1] at hk1; cases hk1

/-- One index's places were written over or have grown. -/
theorem Wd.putO {P : Nat → Prop} {w w2 : World} {v : Value} {ts : List TV} (h : Wd P w v ts) {i j : Nat} {t : TV} {x : XV} (ht : ts[i]? = some t) (hxj : t.xs[j]? = some x) {ov' : List Int} {a' : Option Addr} {c' : Nat}
    (hx : w2.ownsRow 0 38 5 t.xv t.xs.length (xcs (t.xs.set j ⟨{ x.x with ov := ov' }, a', c'⟩)))
    (ho : w2.ownsRow 0 3 1 (.slice a' ov'.length c') ov'.length (ics ov'))
    (hk : KpA (fun k => x.v.ownBlock = some k ∨ t.xv.ownBlock = some k) w w2)
    (hp : ∀ k, (Value.slice a' ov'.length c').ownBlock = some k → x.v.ownBlock = some k ∨ (w.heap.size ≤ k ∧ P k)) : Wd P w2 v (ts.set i { t with xs := t.xs.set j ⟨{ x.x with ov := ov' }, a', c'⟩ }) := by
  have hxt := h.xs i t ht
  have hot := h.ov i t j x ht hxj
  have keep : ∀ {e : TypeId} {size : Nat} {u : Value} {n : Nat} {l : List Value}, w.ownsRow 0 e size u n l → (∀ k, u.ownBlock = some k → t.xv.ownBlock ≠ some k) → (∀ k, u.ownBlock = some k → x.v.ownBlock ≠ some k) → w2.ownsRow 0 e size u n l := by
    intro e size u n l hu hne hne2
    refine row_kp hu hk fun k hv hq => ?_
    rcases hq with hq | hq
    · exact hne2 k hv hq
    · exact hne k hv hq
  have htc : tcs (ts.set i { t with xs := t.xs.set j ⟨{ x.x with ov := ov' }, a', c'⟩ }) = tcs ts := by
    have hc : ∀ (l : List TV) (i : Nat), l[i]? = some t → tcs (l.set i { t with xs := t.xs.set j ⟨{ x.x with ov := ov' }, a', c'⟩ }) = tcs l := by
      intro l
      induction l with
      | nil => intro i hi; simp at hi
      | cons u l ih =>
        intro i hi
        cases i with
        | zero =>
          simp only [List.getElem?_cons_zero, Option.some.injEq] at hi
          subst hi
          simp [tcs, TV.xv]
        | succ i =>
          simp only [List.getElem?_cons_succ] at hi
          have := ih i hi
          simp only [tcs] at this
          simp [tcs, this]
    exact hc ts i ht
  have hl : (t.xs.set j ⟨{ x.x with ov := ov' }, a', c'⟩).length = t.xs.length := by simp
  have hxv : ({ t with xs := t.xs.set j ⟨{ x.x with ov := ov' }, a', c'⟩ } : TV).xv = t.xv := by simp [TV.xv]
  refine ⟨?_, ?_, ?_, ?_, ?_, ?_, ?_, h.pr, ?_, ?_, ?_⟩
  · rw [htc, List.length_set]
    exact keep h.row (fun k hv hq => rows_ne h.row hxt (by decide) k hq hv) (fun k hv hq => rows_ne h.row hot (by decide) k hq hv)
  · intro i1 t1 h1
    rcases set_at h1 with ⟨rfl, rfl, _⟩ | ⟨hne, h1⟩
    · exact keep (h.fs i1 t ht) (fun k hv hq => rows_ne (h.fs i1 t ht) hxt (by decide) k hq hv) (fun k hv hq => rows_ne (h.fs i1 t ht) hot (by decide) k hq hv)
    · exact keep (h.fs i1 t1 h1) (fun k hv hq => rows_ne (h.fs i1 t1 h1) hxt (by decide) k hq hv) (fun k hv hq => rows_ne (h.fs i1 t1 h1) hot (by decide) k hq hv)
  · intro i1 t1 h1
    rcases set_at h1 with ⟨rfl, rfl, _⟩ | ⟨hne, h1⟩
    · rw [hxv]; dsimp only; rw [hl]; exact hx
    · exact keep (h.xs i1 t1 h1) (fun k hv => h.axs i1 t1 i t h1 ht hne k hv) (fun k hv hq => rows_ne (h.xs i1 t1 h1) hot (by decide) k hq hv)
  · intro i1 t1 j1 x1 h1 hx1
    rcases set_at h1 with ⟨rfl, rfl, _⟩ | ⟨hne, h1⟩
    · rcases set_at hx1 with ⟨rfl, rfl, _⟩ | ⟨hnj, hx1⟩
      · exact ho
      · exact keep (h.ov _ _ _ _ ht hx1) (fun k hv hq => rows_ne (h.ov _ _ _ _ ht hx1) hxt (by decide) k hq hv) (h.aov _ _ _ _ _ _ _ _ ht hx1 ht hxj (.inr hnj))
    · exact keep (h.ov _ _ _ _ h1 hx1) (fun k hv hq => rows_ne (h.ov _ _ _ _ h1 hx1) hxt (by decide) k hq hv) (h.aov _ _ _ _ _ _ _ _ h1 hx1 ht hxj (.inl hne))
  · intro i1 t1 i2 t2 h1 h2 hne k hk1 hk2
    have o : ∀ {i' : Nat} {t' : TV}, (ts.set i { t with xs := t.xs.set j ⟨{ x.x with ov := ov' }, a', c'⟩ })[i']? = some t' → ∃ t0, ts[i']? = some t0 ∧ t0.fv = t'.fv := fun {i' t'} h' => by
      rcases set_at h' with ⟨rfl, rfl, _⟩ | ⟨_, h'⟩
      · exact ⟨t, ht, rfl⟩
      · exact ⟨t', h', rfl⟩
    obtain ⟨u1, g1, e1⟩ := o h1
    obtain ⟨u2, g2, e2⟩ := o h2
    exact h.afs _ _ _ _ g1 g2 hne k (e1 ▸ hk1) (e2 ▸ hk2)
  · intro i1 t1 i2 t2 h1 h2 hne k hk1 hk2
    have o : ∀ {i' : Nat} {t' : TV}, (ts.set i { t with xs := t.xs.set j ⟨{ x.x with ov := ov' }, a', c'⟩ })[i']? = some t' → ∃ t0, ts[i']? = some t0 ∧ t0.xv = t'.xv := fun {i' t'} h' => by
      rcases set_at h' with ⟨rfl, rfl, _⟩ | ⟨_, h'⟩
      · exact ⟨t, ht, hxv.symm⟩
      · exact ⟨t', h', rfl⟩
    obtain ⟨u1, g1, e1⟩ := o h1
    obtain ⟨u2, g2, e2⟩ := o h2
    exact h.axs _ _ _ _ g1 g2 hne k (e1 ▸ hk1) (e2 ▸ hk2)
  · -- an index behind it: the one that is written, or one ahead of it
    have o : ∀ {i' : Nat} {t' : TV} {j' : Nat} {x' : XV}, (ts.set i { t with xs := t.xs.set j ⟨{ x.x with ov := ov' }, a', c'⟩ })[i']? = some t' → t'.xs[j']? = some x' → (i' = i ∧ j' = j ∧ x' = ⟨{ x.x with ov := ov' }, a', c'⟩) ∨ ((i' ≠ i ∨ j' ≠ j) ∧ ∃ t0, ts[i']? = some t0 ∧ t0.xs[j']? = some x') := by
      intro i' t' j' x' h' hx'
      rcases set_at h' with ⟨rfl, rfl, _⟩ | ⟨hne, h'⟩
      · rcases set_at hx' with ⟨rfl, rfl, _⟩ | ⟨hnj, hx'⟩
        · exact .inl ⟨rfl, rfl, rfl⟩
        · exact .inr ⟨.inr hnj, t, ht, hx'⟩
      · exact .inr ⟨.inl hne, t', h', hx'⟩
    intro i1 t1 j1 x1 i2 t2 j2 x2 h1 hx1 h2 hx2 hne k hk1 hk2
    rcases o h1 hx1 with ⟨rfl, rfl, rfl⟩ | ⟨n1, u1, g1, q1⟩
    · rcases o h2 hx2 with ⟨rfl, rfl, rfl⟩ | ⟨n2, u2, g2, q2⟩
      · rcases hne with h | h <;> exact h rfl
      · rcases hp k hk1 with hq | hq
        · exact h.aov _ _ _ _ _ _ _ _ ht hxj g2 q2 hne k hq hk2
        · have := (World.ownsRow.lt (h.ov _ _ _ _ g2 q2) k hk2).2; omega
    · rcases o h2 hx2 with ⟨rfl, rfl, rfl⟩ | ⟨n2, u2, g2, q2⟩
      · rcases hp k hk2 with hq | hq
        · exact h.aov _ _ _ _ _ _ _ _ g1 q1 ht hxj hne k hk1 hq
        · have := (World.ownsRow.lt (h.ov _ _ _ _ g1 q1) k hk1).2; omega
      · exact h.aov _ _ _ _ _ _ _ _ g1 q1 g2 q2 hne k hk1 hk2
  · intro i1 t1 h1 k hk1
    rcases set_at h1 with ⟨rfl, rfl, _⟩ | ⟨_, h1⟩
    · exact h.pf _ _ ht k hk1
    · exact h.pf _ _ h1 k hk1
  · intro i1 t1 h1 k hk1
    rcases set_at h1 with ⟨rfl, rfl, _⟩ | ⟨_, h1⟩
    · exact h.px _ _ ht k (by rw [← hxv]; exact hk1)
    · exact h.px _ _ h1 k hk1
  · intro i1 t1 j1 x1 h1 hx1 k hk1
    rcases set_at h1 with ⟨rfl, rfl, _⟩ | ⟨_, h1⟩
    · rcases set_at hx1 with ⟨rfl, rfl, _⟩ | ⟨_, hx1⟩
      · rcases hp k hk1 with hq | hq
        · exact h.po _ _ _ _ ht hxj k hq
        · exact hq.2
      · exact h.po _ _ _ _ ht hx1 k hk1
    · exact h.po _ _ _ _ h1 hx1 k hk1

/-! ### Cells of what is written -/

theorem tcs_setF {ts : List TV} {i : Nat} {t : TV} (h : ts[i]? = some t) (fs' : List Fd) (a' : Option Addr) (c' : Nat) : (tcs ts).set (i * 3 + 1) (.slice a' fs'.length c') = tcs (ts.set i { t with fs := fs', fa := a', fc := c' }) := by
  induction ts generalizing i with
  | nil => simp at h
  | cons u l ih =>
    cases i with
    | zero =>
      simp only [List.getElem?_cons_zero, Option.some.injEq] at h
      subst h
      simp [tcs]
    | succ i =>
      simp only [List.getElem?_cons_succ] at h
      have := ih h
      simp only [tcs, List.flatMap_cons, List.set_cons_succ] at this ⊢
      rw [← this, List.set_append_right _ _ (by simp; omega)]
      congr 1
      simp only [List.length_cons, List.length_nil]
      rw [show (i + 1) * 3 + 1 - (0 + 1 + 1 + 1) = i * 3 + 1 by omega]
theorem tcs_setX {ts : List TV} {i : Nat} {t : TV} (h : ts[i]? = some t) (xs' : List XV) (a' : Option Addr) (c' : Nat) : (tcs ts).set (i * 3 + 2) (.slice a' xs'.length c') = tcs (ts.set i { t with xs := xs', xa := a', xc := c' }) := by
  induction ts generalizing i with
  | nil => simp at h
  | cons u l ih =>
    cases i with
    | zero =>
      simp only [List.getElem?_cons_zero, Option.some.injEq] at h
      subst h
      simp [tcs]
    | succ i =>
      simp only [List.getElem?_cons_succ] at h
      have := ih h
      simp only [tcs, List.flatMap_cons, List.set_cons_succ] at this ⊢
      rw [← this, List.set_append_right _ _ (by simp; omega)]
      congr 1
      simp only [List.length_cons, List.length_nil]
      rw [show (i + 1) * 3 + 2 - (0 + 1 + 1 + 1) = i * 3 + 2 by omega]
theorem xcs_setN {xs : List XV} {j : Nat} {x : XV} (h : xs[j]? = some x) (n : ByteArray) : (xcs xs).set (j * 5) (.string n) = xcs (xs.set j { x with x := { x.x with n := n } }) := by
  induction xs generalizing j with
  | nil => simp at h
  | cons u l ih =>
    cases j with
    | zero =>
      simp only [List.getElem?_cons_zero, Option.some.injEq] at h
      subst h
      simp [xcs]
    | succ j =>
      simp only [List.getElem?_cons_succ] at h
      have := ih h
      simp only [xcs, List.flatMap_cons, List.set_cons_succ] at this ⊢
      rw [← this, List.set_append_right _ _ (by simp; omega)]
      congr 1
      simp only [List.length_cons, List.length_nil]
      rw [show (j + 1) * 5 - (0 + 1 + 1 + 1 + 1 + 1) = j * 5 by omega]
theorem xcs_setO {xs : List XV} {j : Nat} {x : XV} (h : xs[j]? = some x) (ov' : List Int) (a' : Option Addr) (c' : Nat) : (xcs xs).set (j * 5 + 1) (.slice a' ov'.length c') = xcs (xs.set j ⟨{ x.x with ov := ov' }, a', c'⟩) := by
  induction xs generalizing j with
  | nil => simp at h
  | cons u l ih =>
    cases j with
    | zero =>
      simp only [List.getElem?_cons_zero, Option.some.injEq] at h
      subst h
      simp [xcs]
    | succ j =>
      simp only [List.getElem?_cons_succ] at h
      have := ih h
      simp only [xcs, List.flatMap_cons, List.set_cons_succ] at this ⊢
      rw [← this, List.set_append_right _ _ (by simp; omega)]
      congr 1
      simp only [List.length_cons, List.length_nil]
      rw [show (j + 1) * 5 + 1 - (0 + 1 + 1 + 1 + 1 + 1) = j * 5 + 1 by omega]
theorem xcs_sameO {xs : List XV} {j : Nat} {x : XV} (h : xs[j]? = some x) (ov' : List Int) (hl : ov'.length = x.x.ov.length) : xcs (xs.set j ⟨{ x.x with ov := ov' }, x.va, x.vc⟩) = xcs xs := by
  rw [← xcs_setO h, hl]
  have hv : (xcs xs)[j * 5 + 1]? = some x.v := by
    have := flat_at (fun x : XV => [Value.string x.x.n, x.v, .bool x.x.u, .bool x.x.l, .bool x.x.s]) 5 (fun _ => rfl) xs j 1 x h (by decide)
    exact this
  obtain ⟨hlt, he⟩ := List.getElem?_eq_some_iff.1 hv
  have : Value.slice x.va x.x.ov.length x.vc = (xcs xs)[j * 5 + 1] := he.symm
  rw [this]
  exact List.set_getElem_self _
end Go.Proofs.YtbpmahchinblhaaDoor
