/- Layer 18 (json): the document's lists and objects: what stands between two items. -/
import Derived.Test.YtelhgjepjieocaaDoorJxLen
import Derived.Test.YtelhgjepjieocaaDoorJxRfN
import Derived.Test.YtelhgjepjieocaaDoorJxRng
namespace Go.Proofs.YtelhgjepjieocaaDoor
open Go.RowKit Go.Sort
set_option linter.unusedVariables false

theorem ret_cell2 {fn : Func} {R : Ending → World → Prop} {a : Act} {w : World} {g i j k : Nat} {cs : Array Value} {e f : Value} {T : TypeId} (hres : fn.results = #[.cell i T, .tmp j, .tmp k]) (ht : a.tmps.getD i undef = .pointer (some ⟨g, 0, none⟩)) (h3 : a.tmps.getD j undef = e) (h4 : a.tmps.getD k undef = f) (hd : a.defers = [])
    (hl : (loadVar T ⟨g, 0, none⟩).run Tryd.prog w = .ok (.agg cs) w) (hR : R (.returned (.tuple #[.agg cs, e, f])) w) : bodyPost Tryd.prog fn R .ret a w := by
  refine bodyPost_ret ?_ hd hR
  have ht' : a.tmps[i]?.getD undef = .pointer (some ⟨g, 0, none⟩) := by simpa using ht
  have h3' : a.tmps[j]?.getD undef = e := by simpa using h3
  have h4' : a.tmps[k]?.getD undef = f := by simpa using h4
  simp [results, hres, ht', h3', h4', asAddr, hl]
def noB : Nat → Prop := fun _ => False
/-- What the document's Value answers. -/
def RvR (w : World) (s : ByteArray) (r : Except Int (Js × List UInt8)) (e : Ending) (w' : World) : Prop := Frm noB w w' ∧ match r with
  | .ok (v, l) => ∃ (cs : Array Value) (S : Nat → Prop) (m : Nat), e = .returned (.tuple #[.agg cs, .int .i64 (m : Int), .int .i64 0]) ∧ m ≤ s.size ∧ tl s m = l ∧ JAt w' S v cs ∧ ∀ k, S k → w.heap.size ≤ k ∧ k < w'.heap.size
  | .error c => e = .returned (.tuple #[.agg jZ, .int .i64 0, .int .i64 c]) ∧ (c = 181 ∨ c = 182 ∨ c = 183)
/-- Every value up to a bound of the fuel is read so by the document. -/
def DSpec (s : ByteArray) (K0 : Nat) : Prop := ∀ (k : Nat), k ≤ K0 → ∀ (d : Nat) (w : World) (n : Nat), n ≤ s.size → 2 * (tl s n).length + 1 ≤ k → d ≤ 16 →
  Calls Tryd.prog 25 #[.string s, .int .i64 (n : Int), .int .i64 ((d : Int) + 1)] w (RvR w s (bareF k d (tl s n)))
theorem elF_sp (k : Nat) (kind : Int) (e d : Nat) (l : List UInt8) (ns : List (List UInt8)) (its : List Js) : elF k kind e d (spL l) ns its = elF k kind e d l ns its := by
  cases k with
  | zero => unfold elF; rfl
  | succ k =>
    unfold elF elN
    by_cases h6 : kind = 6
    · rw [if_pos h6, if_pos h6]
      have : nameP ns (spL l) = nameP ns l := by unfold nameP; rw [spL_spL]
      rw [this]
    · rw [if_neg h6, if_neg h6]
      simp only [spL_spL]
structure InI (w : World) (gv gr : Nat) (kind : Int) (S : Nat → Prop) (ns : List (List UInt8)) (its : List Js) (nv iv : Value) (css : List (Array Value)) (wr : World) : Prop where
  bx : Blk wr gv (jC kind 0 ⟨#[]⟩ nv iv) 26
  rs : Blk wr gr jZ 26
  nm : Ow wr w.heap.size 9 nv (ns.map strV)
  it : OwI wr w.heap.size S iv its css
  sb : ∀ k, S k → w.heap.size ≤ k ∧ k < wr.heap.size
  gb : w.heap.size ≤ gv ∧ w.heap.size ≤ gr ∧ gv ≠ gr
  nS : ¬ S gv ∧ ¬ S gr
  nN : ∀ k, nv.ownBlock = some k → ¬ S k
  nI : ∀ k, iv.ownBlock = some k → ¬ S k ∧ k ≠ gv ∧ k ≠ gr
  frm : Frm noB w wr
section
variable {w wr w' : World} {gv gr : Nat} {kind : Int} {S : Nat → Prop} {ns : List (List UInt8)} {its : List Js} {nv iv nv' iv' : Value} {css : List (Array Value)}
theorem InI.nvM (h : InI w gv gr kind S ns its nv iv css wr) {k : Nat} (hk : nv.ownBlock = some k) : k ≠ gv ∧ k ≠ gr ∧ iv.ownBlock ≠ some k := by
  obtain ⟨cs, hc⟩ := row_own h.nm hk
  refine ⟨fun e => ?_, fun e => ?_, fun e => ?_⟩
  · have hb : wr.heap[gv]? = _ := h.bx
    rw [e, hb] at hc
    simp at hc
  · have hb : wr.heap[gr]? = _ := h.rs
    rw [e, hb] at hc
    simp at hc
  · obtain ⟨cs', hc'⟩ := row_own h.it.row e
    rw [hc'] at hc
    simp at hc
theorem InI.step (h : InI w gv gr kind S ns its nv iv css wr) (hf : Frm noB wr w') : InI w gv gr kind S ns its nv iv css w' :=
  ⟨(hf.block gv h.bx.lt id).trans h.bx, (hf.block gr h.rs.lt id).trans h.rs, h.nm.frm hf fun _ _ h => h, h.it.frm hf (fun _ _ h => h) (fun _ _ h => h), fun k hk => ⟨(h.sb k hk).1, Nat.lt_of_lt_of_le (h.sb k hk).2 hf.size⟩, h.gb, h.nS, h.nN, h.nI, h.frm.trans hf⟩
theorem InI.more (h : InI w gv gr kind S ns its nv iv css wr) (hb : Below wr.heap.size wr w') : InI w gv gr kind S ns its nv iv css w' := h.step (Frm.ofBelow hb _)
/-- A name is put behind the others. -/
theorem InI.pushN {t : List UInt8} (h : InI w gv gr kind S ns its nv iv css wr) (ho : Ow w' w.heap.size 9 nv' (ns.map strV ++ [strV t])) (hg : Grew wr w' nv nv') :
    InI w gv gr kind S (ns ++ [t]) its nv' iv css (w'.setCell ⟨gv, 3, none⟩ nv') := by
  have hf := Frm.ofGrewT hg
  have hF : Frm (fun k => k = gv) w' (w'.setCell ⟨gv, 3, none⟩ nv') := (Frm.refl (fun k => k = gv) w').setCell ⟨gv, 3, none⟩ _ (.inl rfl)
  have hgb := h.gb
  have hsz := hf.size
  have hbx : Blk w' gv (jC kind 0 ⟨#[]⟩ nv iv) 26 := (hf.block gv h.bx.lt (fun e => (h.nvM e).1 rfl)).trans h.bx
  have hrs : Blk w' gr jZ 26 := (hf.block gr h.rs.lt (fun e => (h.nvM e).2.1 rfl)).trans h.rs
  have hit : OwI w' w.heap.size S iv its css := h.it.frm hf (fun k hk e => (h.nvM e).2.2 hk) (fun k hk e => h.nN k e hk)
  have hpl : ∀ k, nv'.ownBlock = some k → ¬ S k ∧ k ≠ gv := fun k hk => by
    rcases hg.place k hk with e | e
    · exact ⟨h.nN k e, (h.nvM e).1⟩
    · exact ⟨fun hs => by have := (h.sb k hs).2; omega, fun e2 => by have := h.bx.lt; omega⟩
  refine ⟨?_, (hF.block gr hrs.lt hgb.2.2.symm).trans hrs, ?_, hit.frm hF (fun k hk e => (h.nI k hk).2.1 e) (fun k hk e => h.nS.1 (by rw [← e]; exact hk)), fun k hk => ⟨(h.sb k hk).1, by have := (h.sb k hk).2; rw [World.size_setCell]; omega⟩, hgb, h.nS, fun k hk => (hpl k hk).1, h.nI, ?_⟩
  · have := Lib.heap_setCell_same (i := 3) hbx nv'
    exact this
  · rw [List.map_append]
    exact ho.frm hF fun k hk e => (hpl k hk).2 e
  · exact (h.frm.compJ hf (fun i hi e => by have := (h.nm.lt i e).1; omega)).compJ hF (fun i hi e => by omega)
/-- An item is put behind the others. -/
theorem InI.pushI {x : Js} {S2 : Nat → Prop} {cs : Array Value} (h : InI w gv gr kind S ns its nv iv css wr) (hx : JAt wr S2 x cs) (h5 : cs.size = 5) (hS2 : ∀ k, S2 k → w.heap.size ≤ k ∧ k < wr.heap.size ∧ k ≠ gv ∧ k ≠ gr ∧ nv.ownBlock ≠ some k ∧ iv.ownBlock ≠ some k)
    (ho : w'.ownsRow w.heap.size 26 5 iv' (its.length + 1) (flC css ++ cs.toList)) (hg : Grew wr w' iv iv') :
    InI w gv gr kind (fun k => S k ∨ S2 k) ns (its ++ [x]) nv iv' (css ++ [cs]) (w'.setCell ⟨gv, 4, none⟩ iv') := by
  have hf := Frm.ofGrewT hg
  have hF : Frm (fun k => k = gv) w' (w'.setCell ⟨gv, 4, none⟩ iv') := (Frm.refl (fun k => k = gv) w').setCell ⟨gv, 4, none⟩ _ (.inl rfl)
  have hgb := h.gb
  have hsz := hf.size
  have hbx : Blk w' gv (jC kind 0 ⟨#[]⟩ nv iv) 26 := (hf.block gv h.bx.lt (fun e => (h.nI _ e).2.1 rfl)).trans h.bx
  have hrs : Blk w' gr jZ 26 := (hf.block gr h.rs.lt (fun e => (h.nI _ e).2.2 rfl)).trans h.rs
  have hnm : Ow w' w.heap.size 9 nv (ns.map strV) := h.nm.frm hf fun k hk e => (h.nvM hk).2.2 e
  have hpl : ∀ k, iv'.ownBlock = some k → (¬ S k ∧ ¬ S2 k) ∧ k ≠ gv ∧ k ≠ gr := fun k hk => by
    rcases hg.place k hk with e | e
    · exact ⟨⟨(h.nI k e).1, fun hs => (hS2 k hs).2.2.2.2.2 e⟩, (h.nI k e).2⟩
    · exact ⟨⟨fun hs => by have := (h.sb k hs).2; omega, fun hs => by have := (hS2 k hs).2.1; omega⟩, fun e2 => by have := h.bx.lt; omega, fun e2 => by have := h.rs.lt; omega⟩
  have hlen := h.it.len
  have hI : OwI w' w.heap.size (fun k => S k ∨ S2 k) iv' (its ++ [x]) (css ++ [cs]) := by
    refine ⟨?_, fun c hc => ?_, by simp [hlen], fun k h1 h2 => ?_⟩
    · rw [List.length_append, List.length_singleton]
      have : flC (css ++ [cs]) = flC css ++ cs.toList := by simp [flC]
      rw [this]; exact ho
    · rcases List.mem_append.1 hc with hc | hc
      · exact h.it.five c hc
      · rw [List.mem_singleton.1 hc]; exact h5
    · rcases Nat.lt_or_ge k its.length with hk | hk
      · have h2' : k < css.length := by omega
        rw [List.getElem_append_left hk, List.getElem_append_left h2']
        exact JAt.mono (fun k hk => .inl hk) _ _ (JAt.frm hf (fun j hj e => (h.nI j e).1 hj) _ _ (h.it.at_ k hk h2'))
      · have hk' : k = its.length := by simp at h1; omega
        subst hk'
        have e1 : (its ++ [x])[its.length]'h1 = x := by simp
        have e2 : (css ++ [cs])[its.length]'h2 = cs := by simp [← hlen]
        rw [e1, e2]
        exact JAt.mono (fun k hk => .inr hk) _ _ (JAt.frm hf (fun j hj e => (hS2 j hj).2.2.2.2.2 e) _ _ hx)
  refine ⟨?_, (hF.block gr hrs.lt hgb.2.2.symm).trans hrs, hnm.frm hF (fun k hk e => (h.nvM hk).1 e), hI.frm hF (fun k hk e => (hpl k hk).2.1 e) (fun k hk e => ?_), fun k hk => ?_, hgb, ⟨fun hs => ?_, fun hs => ?_⟩, fun k hk hs => ?_, fun k hk => ⟨fun hs => ?_, (hpl k hk).2⟩, ?_⟩
  · have := Lib.heap_setCell_same (i := 4) hbx iv'
    exact this
  · rcases hk with hk | hk
    · exact h.nS.1 (by rw [← e]; exact hk)
    · exact (hS2 _ hk).2.2.1 e
  · rw [World.size_setCell]
    rcases hk with hk | hk
    · have := h.sb k hk; omega
    · have := hS2 k hk; omega
  · rcases hs with hs | hs
    · exact h.nS.1 hs
    · exact (hS2 _ hs).2.2.1 rfl
  · rcases hs with hs | hs
    · exact h.nS.2 hs
    · exact (hS2 _ hs).2.2.2.1 rfl
  · rcases hs with hs | hs
    · exact h.nN k hk hs
    · exact (hS2 _ hs).2.2.2.2.1 hk
  · rcases hs with hs | hs
    · exact (hpl k hk).1.1 hs
    · exact (hpl k hk).1.2 hs
  · exact (h.frm.compJ hf (fun i hi e => by have := (h.it.lt i e).1; omega)).compJ hF (fun i hi e => by omega)
/-- The whole value, ended. -/
theorem InI.whole {na ia : Option Addr} {nc ic : Nat} (h : InI w gv gr kind S ns its (.slice na ns.length nc) (.slice ia its.length ic) css wr) :
    ∃ S' : Nat → Prop, JAt wr S' (.mk kind 0 [] ns its) (jC kind 0 ⟨#[]⟩ (.slice na ns.length nc) (.slice ia its.length ic)) ∧ (∀ k, S' k → w.heap.size ≤ k ∧ k < wr.heap.size) ∧ ¬ S' gr := by
  refine ⟨fun k => S k ∨ (Value.slice na ns.length nc).ownBlock = some k ∨ (Value.slice ia its.length ic).ownBlock = some k, ?_, fun k hk => ?_, fun hk => ?_⟩
  · unfold JAt
    refine ⟨na, nc, ia, ic, rfl, h.nm.v, fun a e _ => .inr (.inl (by rw [e]; rfl)), fun a e _ => .inr (.inr (by rw [e]; rfl)), ?_⟩
    have h1 := ItAt.of h.it its.length 0 (by omega)
    rw [List.drop_zero] at h1
    exact ItAt.mono (fun k hk => .inl hk) _ _ _ h1
  · rcases hk with hk | hk | hk
    · exact h.sb k hk
    · exact h.nm.lt k hk
    · exact h.it.lt k hk
  · rcases hk with hk | hk | hk
    · exact h.nS.2 hk
    · exact (h.nvM hk).2.1 rfl
    · exact (h.nI _ hk).2.2 rfl
end
end Go.Proofs.YtelhgjepjieocaaDoor
