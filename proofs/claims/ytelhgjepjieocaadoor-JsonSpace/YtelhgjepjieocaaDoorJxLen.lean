import Derived.Test.YtelhgjepjieocaaDoorJxVal
/- Layer 18 (json): what stands between two items of a list or object. -/
namespace Go.Proofs.YtelhgjepjieocaaDoor
open Go.RowKit Go.Sort
set_option linter.unusedVariables false

/-- What a step of the reader answers that yields a value. -/
def VlR (w : World) (rb : Nat) (s : ByteArray) (r : Except Int (Js × List UInt8)) (e : Ending) (w' : World) : Prop :=
  Frm (fun k => k = rb) w w' ∧ match r with
  | .ok (v, r) => ∃ cs S, e = .returned (.tuple #[.agg cs, .int .i64 0]) ∧ (∃ n, Rd w' rb s n r) ∧ JAt w' S v cs ∧ ∀ k, S k → w.heap.size ≤ k ∧ k < w'.heap.size
  | .error c => (∃ kk, e = .returned (.tuple #[.agg (jC kk 0 ⟨#[]⟩ (.slice none 0 0) (.slice none 0 0)), .int .i64 c])) ∧ (c = 181 ∨ c = 182 ∨ c = 183) ∧ ∃ l n, Rd w' rb s n l
def spR : Except Int (Js × List UInt8) → Except Int (Js × List UInt8)
  | .ok (v, r) => .ok (v, spL r)
  | .error c => .error c
def valF (k d : Nat) (l : List UInt8) : Except Int (Js × List UInt8) := spR (bareF k d (spL l))
theorem jC_all (k n : Int) (t : ByteArray) (a b : Option Addr) (x y z u : Nat) : (jC k n t (.slice a x y) (.slice b z u)).size = 5 ∧ ∀ v ∈ (jC k n t (.slice a x y) (.slice b z u)).toList, v.oneCell' = true := by
  refine ⟨rfl, fun v hv => ?_⟩
  simp [jC] at hv
  rcases hv with rfl | rfl | rfl | rfl | rfl <;> rfl
theorem row_own {w : World} {B n : Nat} {e : TypeId} {size : Nat} {v : Value} {l : List Value} {k : Nat} (h : w.ownsRow B e size v n l) (hk : v.ownBlock = some k) : ∃ cs, w.heap[k]? = some (.cells cs e) := by
  rcases h.2 with ⟨rfl, h0⟩ | ⟨g, cap, cur, rfl, _, hg, _⟩
  · cases hk
  · cases hk; exact ⟨_, hg⟩
structure WhI (w : World) (rb gv gr mb : Nat) (s : ByteArray) (kind : Int) (S : Nat → Prop) (m : Nat) (l' : List UInt8) (nsM ns : List (List UInt8)) (its : List Js) (nv iv : Value) (css : List (Array Value)) (wr : World) : Prop where
  rd : Rd wr rb s m l'
  mp : MpAt wr mb (nsM.map nmB)
  bx : Blk wr gv (jC kind 0 ⟨#[]⟩ nv iv) 26
  rs : Blk wr gr jZ 26
  nm : Ow wr w.heap.size 9 nv (ns.map strV)
  it : OwI wr w.heap.size S iv its css
  sb : ∀ k, S k → w.heap.size ≤ k ∧ k < wr.heap.size
  gb : w.heap.size ≤ gv ∧ w.heap.size ≤ gr ∧ w.heap.size ≤ mb ∧ gv ≠ gr
  nS : ¬ S gv ∧ ¬ S gr ∧ ¬ S mb
  nN : ∀ k, nv.ownBlock = some k → ¬ S k
  nI : ∀ k, iv.ownBlock = some k → ¬ S k ∧ k ≠ gv ∧ k ≠ gr
  frm : Frm (fun k => k = rb) w wr
  rbl : rb < w.heap.size
section
variable {w wr w' : World} {rb gv gr mb m m' : Nat} {s : ByteArray} {kind : Int} {S : Nat → Prop} {l' l2 : List UInt8} {nsM ns ks : List (List UInt8)} {its : List Js} {nv iv nv' iv' : Value} {css : List (Array Value)}
theorem WhI.nvM (h : WhI w rb gv gr mb s kind S m l' nsM ns its nv iv css wr) {k : Nat} (hk : nv.ownBlock = some k) : k ≠ rb ∧ k ≠ mb ∧ k ≠ gv ∧ k ≠ gr ∧ iv.ownBlock ≠ some k := by
  obtain ⟨cs, hc⟩ := row_own h.nm hk
  obtain ⟨es, clock, hm⟩ := h.mp
  refine ⟨fun e => ?_, fun e => ?_, fun e => ?_, fun e => ?_, fun e => ?_⟩
  · have := (h.nm.lt k hk).1; have := h.rbl; omega
  · rw [e, hm.blk] at hc; cases hc
  · have hb : wr.heap[gv]? = _ := h.bx
    rw [e, hb] at hc
    simp at hc
  · have hb : wr.heap[gr]? = _ := h.rs
    rw [e, hb] at hc
    simp at hc
  · obtain ⟨cs', hc'⟩ := row_own h.it.row e
    rw [hc'] at hc
    simp at hc
theorem WhI.ivM (h : WhI w rb gv gr mb s kind S m l' nsM ns its nv iv css wr) {k : Nat} (hk : iv.ownBlock = some k) : k ≠ rb ∧ k ≠ mb := by
  obtain ⟨cs, hc⟩ := row_own h.it.row hk
  obtain ⟨es, clock, hm⟩ := h.mp
  refine ⟨fun e => ?_, fun e => ?_⟩
  · have := (h.it.lt k hk).1; have := h.rbl; omega
  · rw [e, hm.blk] at hc; cases hc
/-- The reader and the map have gone on. -/
theorem WhI.step (h : WhI w rb gv gr mb s kind S m l' nsM ns its nv iv css wr) (hf : Frm (fun k => k = rb ∨ k = mb) wr w') (hr : Rd w' rb s m' l2) (hm : MpAt w' mb (ks.map nmB)) (hw : Frm (fun k => k = rb) w w') : WhI w rb gv gr mb s kind S m' l2 ks ns its nv iv css w' := by
  have hgb := h.gb
  have hrb := h.rbl
  obtain ⟨es, clock, hmm⟩ := h.mp
  have g1 : gv ≠ mb := fun e => by
    have hb : wr.heap[gv]? = _ := h.bx
    rw [e, hmm.blk] at hb; cases hb
  have g2 : gr ≠ mb := fun e => by
    have hb : wr.heap[gr]? = _ := h.rs
    rw [e, hmm.blk] at hb; cases hb
  refine ⟨hr, hm, (hf.block gv h.bx.lt (by omega)).trans h.bx, (hf.block gr h.rs.lt (by omega)).trans h.rs, h.nm.frm hf fun k hk e => ?_, h.it.frm hf (fun k hk e => ?_) (fun k hk e => ?_), fun k hk => ⟨(h.sb k hk).1, Nat.lt_of_lt_of_le (h.sb k hk).2 hf.size⟩, h.gb, h.nS, h.nN, h.nI, hw, h.rbl⟩
  · obtain ⟨a, b, _⟩ := h.nvM hk
    rcases e with e | e
    · exact a e
    · exact b e
  · obtain ⟨a, b⟩ := h.ivM hk
    rcases e with e | e
    · exact a e
    · exact b e
  · rcases e with e | e
    · have := (h.sb k hk).1; omega
    · exact h.nS.2.2 (by rw [← e]; exact hk)
theorem WhI.read (h : WhI w rb gv gr mb s kind S m l' nsM ns its nv iv css wr) (hf : Frm (fun k => k = rb) wr w') (hr : Rd w' rb s m' l2) : WhI w rb gv gr mb s kind S m' l2 nsM ns its nv iv css w' :=
  h.step hf.left hr (h.mp.frm hf (by have := h.gb; have := h.rbl; omega)) (h.frm.trans hf)
theorem WhI.more (h : WhI w rb gv gr mb s kind S m l' nsM ns its nv iv css wr) (hb : Below wr.heap.size wr w') : WhI w rb gv gr mb s kind S m l' nsM ns its nv iv css w' := h.read (Frm.ofBelow hb _) (h.rd.below hb)
/-- A name is put behind the others. -/
theorem WhI.pushN {t : List UInt8} (h : WhI w rb gv gr mb s kind S m l' nsM ns its nv iv css wr) (ho : Ow w' w.heap.size 9 nv' (ns.map strV ++ [strV t])) (hg : Grew wr w' nv nv') :
    WhI w rb gv gr mb s kind S m l' nsM (ns ++ [t]) its nv' iv css (w'.setCell ⟨gv, 3, none⟩ nv') := by
  have hf := Frm.ofGrewT hg
  have hF : Frm (fun k => k = gv) w' (w'.setCell ⟨gv, 3, none⟩ nv') := (Frm.refl (fun k => k = gv) w').setCell ⟨gv, 3, none⟩ _ (.inl rfl)
  have hgb := h.gb
  have hrb := h.rbl
  have hsz := hf.size
  have hbx : Blk w' gv (jC kind 0 ⟨#[]⟩ nv iv) 26 := (hf.block gv h.bx.lt (fun e => (h.nvM e).2.2.1 rfl)).trans h.bx
  have hrs : Blk w' gr jZ 26 := (hf.block gr h.rs.lt (fun e => (h.nvM e).2.2.2.1 rfl)).trans h.rs
  have hmp := h.mp.frm hf (fun e => (h.nvM e).2.1 rfl)
  have hit : OwI w' w.heap.size S iv its css := h.it.frm hf (fun k hk e => (h.nvM e).2.2.2.2 hk) (fun k hk e => h.nN k e hk)
  have hpl : ∀ k, nv'.ownBlock = some k → ¬ S k ∧ k ≠ gv := fun k hk => by
    rcases hg.place k hk with e | e
    · exact ⟨h.nN k e, (h.nvM e).2.2.1⟩
    · exact ⟨fun hs => by have := (h.sb k hs).2; omega, fun e2 => by have := h.bx.lt; omega⟩
  have hmb : mb ≠ gv := fun e => by
    obtain ⟨es, clock, hm⟩ := hmp
    have hb : w'.heap[gv]? = _ := hbx
    rw [← e, hm.blk] at hb; cases hb
  refine ⟨(h.rd.frm hf (fun e => (h.nvM e).1 rfl)).frm hF (by omega), hmp.frm hF hmb, ?_, (hF.block gr hrs.lt hgb.2.2.2.symm).trans hrs, ?_, hit.frm hF (fun k hk e => (h.nI k hk).2.1 e) (fun k hk e => h.nS.1 (by rw [← e]; exact hk)), fun k hk => ⟨(h.sb k hk).1, by have := (h.sb k hk).2; rw [World.size_setCell]; omega⟩, hgb, h.nS, fun k hk => (hpl k hk).1, h.nI, ?_, hrb⟩
  · have := Lib.heap_setCell_same (i := 3) hbx nv'
    exact this
  · rw [List.map_append]
    exact ho.frm hF fun k hk e => (hpl k hk).2 e
  · exact (h.frm.compJ hf (fun i hi e => by have := (h.nm.lt i e).1; omega)).compJ hF (fun i hi e => by omega)
/-- An item is put behind the others. -/
theorem WhI.pushI {x : Js} {S2 : Nat → Prop} {cs : Array Value} (h : WhI w rb gv gr mb s kind S m l' nsM ns its nv iv css wr) (hx : JAt wr S2 x cs) (h5 : cs.size = 5) (hS2 : ∀ k, S2 k → w.heap.size ≤ k ∧ k < wr.heap.size ∧ k ≠ gv ∧ k ≠ gr ∧ k ≠ mb ∧ nv.ownBlock ≠ some k ∧ iv.ownBlock ≠ some k)
    (ho : w'.ownsRow w.heap.size 26 5 iv' (its.length + 1) (flC css ++ cs.toList)) (hg : Grew wr w' iv iv') :
    WhI w rb gv gr mb s kind (fun k => S k ∨ S2 k) m l' nsM ns (its ++ [x]) nv iv' (css ++ [cs]) (w'.setCell ⟨gv, 4, none⟩ iv') := by
  have hf := Frm.ofGrewT hg
  have hF : Frm (fun k => k = gv) w' (w'.setCell ⟨gv, 4, none⟩ iv') := (Frm.refl (fun k => k = gv) w').setCell ⟨gv, 4, none⟩ _ (.inl rfl)
  have hgb := h.gb
  have hrb := h.rbl
  have hsz := hf.size
  have hbx : Blk w' gv (jC kind 0 ⟨#[]⟩ nv iv) 26 := (hf.block gv h.bx.lt (fun e => (h.nI _ e).2.1 rfl)).trans h.bx
  have hrs : Blk w' gr jZ 26 := (hf.block gr h.rs.lt (fun e => (h.nI _ e).2.2 rfl)).trans h.rs
  have hmp := h.mp.frm hf (fun e => (h.ivM e).2 rfl)
  have hnm : Ow w' w.heap.size 9 nv (ns.map strV) := h.nm.frm hf fun k hk e => (h.nvM hk).2.2.2.2 e
  have hpl : ∀ k, iv'.ownBlock = some k → (¬ S k ∧ ¬ S2 k) ∧ k ≠ gv ∧ k ≠ gr := fun k hk => by
    rcases hg.place k hk with e | e
    · exact ⟨⟨(h.nI k e).1, fun hs => (hS2 k hs).2.2.2.2.2.2 e⟩, (h.nI k e).2⟩
    · exact ⟨⟨fun hs => by have := (h.sb k hs).2; omega, fun hs => by have := (hS2 k hs).2.1; omega⟩, fun e2 => by have := h.bx.lt; omega, fun e2 => by have := h.rs.lt; omega⟩
  have hmb : mb ≠ gv := fun e => by
    obtain ⟨es, clock, hm⟩ := hmp
    have hb : w'.heap[gv]? = _ := hbx
    rw [← e, hm.blk] at hb; cases hb
  have hlen := h.it.len
  have hI : OwI w' w.heap.size (fun k => S k ∨ S2 k) iv' (its ++ [x]) (css ++ [cs]) := by
    refine ⟨?_, fun c hc => ?_, by simp [hlen], fun k h1 h2 => ?_⟩
    · rw [List.length_append, List.length_singleton]
      have : flC (css ++ [cs]) = flC css ++ cs.toList := by simp [flC]
      rw [this]; exact ho
    · rcases List.mem_append.1 hc with hc | hc
      · exact h.it.five c hc
      · rw [List.mem_singleton.1 hc]; exact h5
    · rcases Nat.lt_or_ge k its.length with hk | hk
      · have h2' : k < css.length := by omega
        rw [List.getElem_append_left hk, List.getElem_append_left h2']
        exact JAt.mono (fun k hk => .inl hk) _ _ (JAt.frm hf (fun j hj e => (h.nI j e).1 hj) _ _ (h.it.at_ k hk h2'))
      · have hk' : k = its.length := by simp at h1; omega
        subst hk'
        have e1 : (its ++ [x])[its.length]'h1 = x := by simp
        have e2 : (css ++ [cs])[its.length]'h2 = cs := by simp [← hlen]
        rw [e1, e2]
        exact JAt.mono (fun k hk => .inr hk) _ _ (JAt.frm hf (fun j hj e => (hS2 j hj).2.2.2.2.2.2 e) _ _ hx)
  refine ⟨(h.rd.frm hf (fun e => (h.ivM e).1 rfl)).frm hF (by omega), hmp.frm hF hmb, ?_, (hF.block gr hrs.lt hgb.2.2.2.symm).trans hrs, hnm.frm hF (fun k hk e => (h.nvM hk).2.2.1 e), hI.frm hF (fun k hk e => (hpl k hk).2.1 e) (fun k hk e => ?_), fun k hk => ?_, hgb, ⟨fun hs => ?_, fun hs => ?_, fun hs => ?_⟩, fun k hk hs => ?_, fun k hk => ⟨fun hs => ?_, (hpl k hk).2⟩, ?_, hrb⟩
  · have := Lib.heap_setCell_same (i := 4) hbx iv'
    exact this
  · rcases hk with hk | hk
    · exact h.nS.1 (by rw [← e]; exact hk)
    · exact (hS2 k hk).2.2.1 e
  · rw [World.size_setCell]
    rcases hk with hk | hk
    · have := h.sb k hk; omega
    · have := hS2 k hk; omega
  · rcases hs with hs | hs
    · exact h.nS.1 hs
    · exact (hS2 _ hs).2.2.1 rfl
  · rcases hs with hs | hs
    · exact h.nS.2.1 hs
    · exact (hS2 _ hs).2.2.2.1 rfl
  · rcases hs with hs | hs
    · exact h.nS.2.2 hs
    · exact (hS2 _ hs).2.2.2.2.1 rfl
  · rcases hs with hs | hs
    · exact h.nN k hk hs
    · exact (hS2 _ hs).2.2.2.2.2.1 hk
  · rcases hs with hs | hs
    · exact (hpl k hk).1.1 hs
    · exact (hpl k hk).1.2 hs
  · exact (h.frm.compJ hf (fun i hi e => by have := (h.it.lt i e).1; omega)).compJ hF (fun i hi e => by omega)
end
end Go.Proofs.YtelhgjepjieocaaDoor

/- Layer 18 (json): what is read is no longer than what was there. -/
namespace Go.Proofs.YtelhgjepjieocaaDoor
open Go.RowKit Go.Sort
set_option linter.unusedVariables false

theorem tkL_len (l : List UInt8) (c : Nat) : (tkL l c).length ≤ l.length := by unfold tkL; split <;> simp
theorem numP_len {l r : List UInt8} {k n : Int} (h : numP l = some (k, n, r)) : r.length ≤ l.length := by
  have hr : (numR l).length ≤ l.length := by
    have := congrArg List.length (numT_R l)
    rw [List.length_append] at this
    omega
  unfold numP at h
  split at h
  · split at h
    · simp only [Option.some.injEq, Prod.mk.injEq] at h
      rw [← h.2.2]; exact hr
    · cases h
  · cases h
theorem wordP_len {l r : List UInt8} {k n : Int} (h : wordP l = some (k, n, r)) : r.length ≤ l.length := by
  unfold wordP at h
  split at h
  · simp only [Option.some.injEq, Prod.mk.injEq] at h
    rw [← h.2.2, List.length_drop]; omega
  · split at h
    · simp only [Option.some.injEq, Prod.mk.injEq] at h
      rw [← h.2.2, List.length_drop]; omega
    · split at h
      · simp only [Option.some.injEq, Prod.mk.injEq] at h
        rw [← h.2.2, List.length_drop]; omega
      · cases h
theorem chF_len : ∀ (k : Nat) {l t r : List UInt8}, chF k l = some (t, r) → r.length ≤ l.length
  | 0, l, t, r, h => by cases h
  | k + 1, l, t, r, h => by
    by_cases h34 : hdN l = some 34
    · rw [chF_end h34] at h
      simp only [Option.some.injEq, Prod.mk.injEq] at h
      rw [← h.2]; simp
    · rw [chF_step h34] at h
      cases hc : charP l with
      | none => rw [hc] at h; cases h
      | some p =>
        obtain ⟨c, r'⟩ := p
        rw [hc] at h
        have e9 : chS k (some (c, r')) = (chF k r').map fun p => (c.toUInt8 :: p.1, p.2) := rfl
        rw [e9] at h
        cases hk : chF k r' with
        | none => rw [hk] at h; cases h
        | some q =>
          obtain ⟨t', r2⟩ := q
          rw [hk] at h
          simp only [Option.map_some, Option.some.injEq, Prod.mk.injEq] at h
          have h1 := chF_len k hk
          have h2 := (charP_len hc).2
          rw [← h.2]; omega
theorem textP_len {l t r : List UInt8} (h : textP l = some (t, r)) : r.length < l.length := by
  unfold textP at h
  split at h
  · have h1 := chF_len _ h
    cases l with
    | nil => rename_i h2; cases h2
    | cons x l => simp at h1 ⊢; omega
  · cases h
theorem nameP_len {ns : List (List UInt8)} {l t r : List UInt8} (h : nameP ns l = .ok (t, r)) : r.length ≤ l.length := by
  unfold nameP at h
  have h0 := spL_len l
  split at h
  · cases h
  · rename_i t' r' ht
    have h1 := textP_len ht
    split at h
    · cases h
    · split at h
      · cases h
        have := spL_len r'
        simp; omega
      · cases h
theorem nameP_err {ns : List (List UInt8)} {l : List UInt8} {c : Int} (h : nameP ns l = .error c) : c = 181 ∨ c = 182 ∨ c = 183 := by
  unfold nameP at h
  split at h
  · cases h; exact .inl rfl
  · split at h
    · cases h; exact .inr (.inr rfl)
    · split at h
      · cases h
      · cases h; exact .inl rfl
theorem bareF_lens : ∀ (k : Nat), (∀ (d : Nat) (l : List UInt8) (x : Js) (r : List UInt8), bareF k d l = .ok (x, r) → r.length ≤ l.length) ∧ (∀ (kind : Int) (e d : Nat) (l : List UInt8) (ns : List (List UInt8)) (its : List Js) (x : Js) (r : List UInt8), elF k kind e d l ns its = .ok (x, r) → r.length ≤ l.length)
  | 0 => ⟨fun d l x r h => (by unfold bareF at h; cases h), fun kind e d l ns its x r h => (by unfold elF at h; cases h)⟩
  | k + 1 => by
    obtain ⟨ih1, ih2⟩ := bareF_lens k
    refine ⟨fun d l x r h => ?_, fun kind e d l ns its x r h => ?_⟩
    · unfold bareF at h
      have h0 := spL_len l.tail
      have h00 : l.tail.length ≤ l.length := by simp
      have hw : ∀ (kind : Int) (e : Nat), (if d = 16 then Except.error 182 else if hdN (spL l.tail) = some e then .ok (.mk kind 0 [] [] [], (spL l.tail).tail) else elF k kind e d (spL l.tail) [] []) = Except.ok (x, r) → r.length ≤ l.length := fun kind e h => by
        split at h
        · cases h
        · split at h
          · cases h; simp at h00 ⊢; simp at h0; omega
          · have := ih2 _ _ _ _ _ _ _ _ h; omega
      split at h
      · exact hw _ _ h
      · split at h
        · exact hw _ _ h
        · split at h
          · cases ht : textP l with
            | none => rw [ht] at h; cases h
            | some p =>
              obtain ⟨t, r'⟩ := p
              rw [ht] at h
              cases h
              have := textP_len ht; omega
          · split at h
            · cases ht : numP l with
              | none => rw [ht] at h; cases h
              | some p =>
                obtain ⟨a, b, r'⟩ := p
                rw [ht] at h
                cases h
                exact numP_len ht
            · cases ht : wordP l with
              | none => rw [ht] at h; cases h
              | some p =>
                obtain ⟨a, b, r'⟩ := p
                rw [ht] at h
                cases h
                exact wordP_len ht
    · unfold elF at h
      have hn : ∀ ns' l1, elN kind ns l = .ok (ns', l1) → l1.length ≤ l.length := fun ns' l1 h => by
        unfold elN at h
        split at h
        · split at h
          · rename_i hq; cases h; exact nameP_len hq
          · cases h
        · cases h; exact Nat.le_refl _
      split at h
      · cases h
      · rename_i ns' l1 hq
        have h1 := hn _ _ hq
        split at h
        · cases h
        · rename_i y r1 hb
          have h2 := ih1 _ _ _ _ hb
          have h3 := spL_len l1
          have h4 := spL_len r1
          split at h
          · cases h; simp; omega
          · split at h
            · have h5 := ih2 _ _ _ _ _ _ _ _ h
              simp at h5; omega
            · cases h
end Go.Proofs.YtelhgjepjieocaaDoor
