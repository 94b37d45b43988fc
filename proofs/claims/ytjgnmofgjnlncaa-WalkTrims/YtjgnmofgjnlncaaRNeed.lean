import Derived.Test.YtjgnmofgjnlncaaXFrom
import Derived.Test.YtjgnmofgjnlncaaXAlive4
import Derived.Deep.Slices
import Derived.SizedLaws
import Derived.ProofKit
import Derived.Test.YtjgnmofgjnlncaaRIns
/- Layer 4 (walk): the slice in which a law gathers entries. -/
namespace Go.Proofs.Ytjgnmofgjnlncaa
open Go.RowKit Go.Shelf
set_option linter.unusedVariables false
attribute [local go_sem] Oper.semAt_some

def enCells (l : List En) : List Value := l.flatMap fun e => [.string e.1, .int .i64 e.2]
theorem enCells_length (l : List En) : (enCells l).length = l.length * 2 := by
  induction l with
  | nil => rfl
  | cons e l ih => simp only [enCells, List.flatMap_cons, List.length_append, List.length_cons, List.length_nil] at ih ⊢; omega
theorem enCells_snoc (l : List En) (e : En) : enCells (l ++ [e]) = enCells l ++ [.string e.1, .int .i64 e.2] := by simp [enCells]
theorem enCells_get (l : List En) : ∀ (i : Nat) (h : i < l.length), (enCells l)[i * 2]? = some (.string l[i].1) ∧ (enCells l)[i * 2 + 1]? = some (.int .i64 l[i].2) := by
  induction l with
  | nil => intro i h; simp at h
  | cons e l ih =>
    intro i h
    have hc : enCells (e :: l) = .string e.1 :: .int .i64 e.2 :: enCells l := rfl
    rw [hc]
    cases i with
    | zero => exact ⟨rfl, rfl⟩
    | succ i =>
      have := ih i (by simpa using h)
      rw [show (i + 1) * 2 = i * 2 + 1 + 1 by omega]
      simpa using this
def OwnE (W : World) (B : Nat) (v : Value) (l : List En) : Prop := W.ownsRow B 35 2 v l.length (enCells l)
theorem infoE : (Try.prog.info? 35).map (fun i => (i.zero, i.size, i.bytes)) = some (some (.agg #[.string ⟨#[]⟩, .int .i64 0]), 2, 24) := by kernel_rfl
theorem OwnE.ents {W : World} {B : Nat} {v : Value} {l : List En} (h : OwnE W B v l) (hz : ∀ e ∈ l, e.1.size ≤ 140737488351296) : ∃ ao cap, v = .slice ao l.length cap ∧ EntsAt W ao l := by
  rcases h.2 with ⟨rfl, h0⟩ | ⟨g, cap, cur, rfl, hb, hg, hnc, hcm, hcs, htake⟩
  · exact ⟨none, 0, by rw [h0], fun i hi => by omega⟩
  · refine ⟨_, cap, rfl, fun i hi => ⟨g, 0, rfl, ?_, ?_, hz _ (List.getElem_mem hi)⟩⟩
    · have h1 := World.ownsRow.cellAt h (i * 2) (by omega)
      rw [(enCells_get l i hi).1] at h1
      rw [Nat.zero_add]; exact h1
    · have h1 := World.ownsRow.cellAt h (i * 2 + 1) (by omega)
      rw [(enCells_get l i hi).2] at h1
      rw [Nat.zero_add]; exact h1
theorem entry_new (W : World) (k : ByteArray) (v : Int) : ∀ j u, ([Value.string k, Value.int .i64 v] : List Value)[j]? = some u → (W.alloc (.cells #[.string k, .int .i64 v] 35)).cell? ((⟨W.heap.size, 0, none⟩ : Addr).add j) = some u := cells_new W [.string k, .int .i64 v] 35

/-- The law's own slice lies in its box. -/
structure GoI (w₀ : World) (bg : Nat) (l : List En) (W : World) : Prop where
  below : Below w₀.heap.size w₀ W
  got : ∃ ao n cap, W.heap[bg]? = some (.cells #[.slice ao n cap] 22) ∧ OwnE W w₀.heap.size (.slice ao n cap) l
theorem GoI.ownFrom {w₀ : World} {bg B : Nat} (hB : w₀.heap.size ≤ B) : OwnFrom B (fun (l : List En) W => GoI w₀ bg l W) := fun l A C row hs hg hr => by
  obtain ⟨ao, n, cap, h1, h2⟩ := hs.got
  refine ⟨hs.below.grown hg hs.below.size (fun r e => by have := (hr r e).1; omega), ao, n, cap, heap_kept h1 hg (fun r e => (hr r e).2), World.ownsRow.kept h2 hg ?_⟩
  rcases h2.2 with ⟨h3, _⟩ | ⟨g, cap', cur, h3, _, hgb, _⟩
  · exact .inl (by rw [h3]; rfl)
  · refine .inr fun e' => ?_
    rw [h3] at e'
    obtain ⟨-, o, ho, hc⟩ := hr g (by simpa [Value.ownBlock] using e'.symm)
    rw [hgb] at ho; cases ho; cases hc
/-- What an append and the store back leave. -/
theorem GoI.appended {w₀ W w1 : World} {bg : Nat} {l : List En} {ao : Option Addr} {n cap : Nat} {ao' : Option Addr} {n' cap' : Nat} {k : ByteArray} {v : Int} {tmp : Obj} {m : Nat} (hm : m = l.length + 1) (hbg : w₀.heap.size ≤ bg) (hb : Below w₀.heap.size w₀ W) (hbox : W.heap[bg]? = some (.cells #[.slice ao n cap] 22)) (hown : OwnE W w₀.heap.size (.slice ao n cap) l)
    (ho : w1.ownsRow w₀.heap.size 35 2 (.slice ao' n' cap') m (enCells l ++ [.string k, .int .i64 v])) (hg : (W.alloc tmp).grownBy w1 (Value.slice ao n cap).ownBlock) :
    w1.heap[bg]? = some (.cells #[.slice ao n cap] 22) ∧ KeepsOthers W (w1.setCell ⟨bg, 0, none⟩ (.slice ao' n' cap')) ∧ Kp w₀.heap.size (fun _ => False) W (w1.setCell ⟨bg, 0, none⟩ (.slice ao' n' cap')) ∧ GoI w₀ bg (l ++ [(k, v)]) (w1.setCell ⟨bg, 0, none⟩ (.slice ao' n' cap')) := by
  subst hm
  have typed : ∀ r, (Value.slice ao n cap).ownBlock = some r → w₀.heap.size ≤ r ∧ ∃ cs, W.heap[r]? = some (.cells cs 35) := fun r hr => ⟨(World.ownsRow.lt hown r hr).1, ownsRow_typed hown r hr⟩
  have kept : ∀ b, b < W.heap.size → some b ≠ (Value.slice ao n cap).ownBlock → w1.heap[b]? = W.heap[b]? := fun b hlt hne => (hg.block b (by simp; omega) hne).trans (Below.heap_alloc _ _ _ hlt)
  have keptT : ∀ (b : Nat) (cs : Array Value) (ty : TypeId), W.heap[b]? = some (.cells cs ty) → ty ≠ 35 → w1.heap[b]? = some (.cells cs ty) := fun b cs ty hbk hty => (kept b (lt_of_heap hbk) (fun e => by
    obtain ⟨ds, hd⟩ := (typed b e.symm).2
    rw [hbk] at hd
    simp at hd
    exact hty hd.2)).trans hbk
  have box1 := keptT bg _ _ hbox (by decide)
  have hsz : W.heap.size ≤ w1.heap.size := by have := hg.size; simp at this; omega
  have below1 : Below w₀.heap.size W w1 := ((Below.refl _ W).alloc hb.size tmp).grown hg (by have := hb.size; simp; omega) (fun r e => (typed r e).1)
  refine ⟨box1, ⟨by rw [size_setCell']; exact hsz, fun b o ho' hc => ?_⟩, ⟨below1.setCell (p := ⟨bg, 0, none⟩) hbg _, fun b cs ty hbk hty _ => ?_⟩, (hb.trans below1).setCell (p := ⟨bg, 0, none⟩) hbg _, ao', n', cap', ?_, ?_⟩
  · rw [heap_setCell_other _ _ _ _ (fun e => by
      have e' : b = bg := e
      subst e'
      rw [hbox] at ho'; cases ho'; cases hc)]
    exact (kept b (lt_of_heap ho') (fun e => by
      obtain ⟨ds, hd⟩ := (typed b e.symm).2
      rw [ho'] at hd; cases hd; cases hc)).trans ho'
  · have hne : ty ≠ 35 ∧ ty ≠ 22 := by
      rcases hty with rfl | rfl | rfl | rfl <;> exact ⟨by decide, by decide⟩
    rw [heap_setCell_other _ _ _ _ (fun e => by
      have e' : b = bg := e
      subst e'
      rw [hbox] at hbk
      simp at hbk
      exact hne.2 hbk.2.symm), keptT b cs ty hbk hne.1, hbk]
  · rw [setCell_blk box1]; rfl
  · unfold OwnE
    rw [enCells_snoc, List.length_append]
    refine ownsRow_setCell_other ho (fun e => ?_) _
    exact own_ne (ownsRow_typed ho _ e) box1 (by decide) rfl
end Go.Proofs.Ytjgnmofgjnlncaa

/- An argument of type []Entry, opened. -/
namespace Go.Proofs.Ytjgnmofgjnlncaa
open Go.RowKit Go.Deep Go.ChangeShapes Go.WideShapes
set_option linter.unusedVariables false

def enData {H : Type} (p : En) : DataW H := .agg [.lit (.string p.1.data.toList), .lit (.int .i64 p.2)]
theorem cells_entry : Try.prog.cellsOf 35 = 2 := by kernel_rfl
theorem cells_int4 : Try.prog.cellsOf 3 = 1 := by kernel_rfl
theorem cells_str4 : Try.prog.cellsOf 9 = 1 := by kernel_rfl
theorem bytes_entry : Try.prog.bytesOf 35 = 24 := by kernel_rfl

set_option maxRecDepth 100000 in
theorem open_ents {H : Type} {enc : TypeId × Value → H} {W : World} {fuel : Nat} {ao : Option Addr} {len cap : Nat} {x : DataW H × List MemPlace}
    (h : DataW.trod enc Try.prog W 0 (fun _ => true) true fuel 22 [.slice ao len cap] = some x) :
    ∃ (ps : List En) (spare : List (DataW H)), ps.length = len ∧ (x.1 = .nil ∧ ps = [] ∨ x.1 = .slice (ps.map enData) spare) ∧ ((∀ p ∈ ps, p.1.size ≤ 140737488351296) → EntsAt W ao ps) := by
  rcases open_slice Try.underlying22 h with ⟨hc, hx⟩ | ⟨a, len', cap', m, n, D, Pl, hc, hb, hl, hm, hmm, hx, hel⟩
  · simp at hc
    obtain ⟨rfl, rfl, rfl⟩ := hc
    exact ⟨[], [], rfl, .inl ⟨by rw [hx], rfl⟩, fun _ i hp => by simp at hp⟩
  · simp at hc
    obtain ⟨rfl, rfl, rfl⟩ := hc
    simp only [if_true] at hmm
    subst hmm
    rw [cells_entry] at hel
    have each : ∀ i, i < len → ∃ p : En, D i = enData p ∧ W.cell? (a.add (i * 2)) = some (.string p.1) ∧ W.cell? (a.add (i * 2 + 1)) = some (.int .i64 p.2) := by
      intro i hi
      obtain ⟨cs', h1, h2⟩ := hel i (by omega)
      obtain ⟨_, hlen, hcell⟩ := World.cells?_some h1
      obtain ⟨xs, k, hk, hxy, _, hxl, hf⟩ := DataW.trod_struct Try.underlying35 h2
      match xs, hxl, cs', hlen with
      | [y0, y1], _, [v0, v1], _ =>
        have g0 := hf 0 _ rfl
        have g1 := hf 1 _ rfl
        simp [cells_int4, cells_str4] at g0 g1
        have e0 := hcell 0 (by omega)
        have e1 := hcell 1 (by omega)
        rw [add_add] at e0 e1
        obtain ⟨s0, q0, r0, w0⟩ := DataW.trod_string Try.underlying9 g0
        obtain ⟨n1, q1, r1, w1⟩ := DataW.trod_int Try.underlying3 g1
        simp at q0 q1
        subst q0 q1
        simp only [Prod.mk.injEq] at hxy
        refine ⟨(s0, n1), ?_, by simpa using e0, by simpa using e1⟩
        rw [hxy.1]
        simp [enData, r0, r1]
    obtain ⟨f, hf⟩ : ∃ f : Nat → En, ∀ i, i < len → _ := @choose_lt En ⟨(⟨#[]⟩, 0)⟩ len _ each
    refine ⟨(List.range len).map f, (List.range (m - len)).map fun j => D (len + j), by simp, .inr ?_, ?_⟩
    · rw [hx]
      simp only [DataW.slice.injEq, and_true]
      rw [List.map_map]
      exact List.map_congr_left fun i hi => (hf i (List.mem_range.1 hi)).1
    · intro hts i hi
      have hi' : i < len := by simpa using hi
      obtain ⟨_, c0, c1⟩ := hf i hi'
      obtain ⟨b, off, spot⟩ := a
      have hspot : spot = none := by simpa [Addr.add] using World.cell?_spot (hf 0 (by omega)).2.1
      subst hspot
      refine ⟨b, off, rfl, ?_, ?_, hts _ (List.getElem_mem hi)⟩
      · rw [← add_plain]; simpa using c0
      · rw [Nat.add_assoc, ← add_plain]; simpa using c1

theorem mem_weightsAll4 {H : Type} {P : Program} {e : TypeId} : ∀ {l : List (DataW H)} {d : DataW H}, d ∈ l → ∀ n ∈ d.weights P e, n ∈ DataW.weightsAll P e l
  | d0 :: l, d, hd, n, hn => by
    simp only [DataW.weightsAll, List.mem_append]
    rcases List.mem_cons.1 hd with rfl | h
    · exact .inl hn
    · exact .inr (mem_weightsAll4 h n hn)
  | [], _, hd, _, _ => by simp at hd

/-- By the form's own reach: how long the list and its texts can be. -/
theorem ents_reach {H : Type} {ps : List En} {spare : List (DataW H)} {d : DataW H} (hd : d = .nil ∧ ps = [] ∨ d = .slice (ps.map enData) spare) (hw : ∀ n ∈ d.weights Try.prog 22, n ≤ reachBytes) :
    ps.length * 24 ≤ 140737488351232 ∧ ∀ p ∈ ps, p.1.size ≤ 140737488351232 := by
  rcases hd with ⟨_, rfl⟩ | rfl
  · simp
  · simp only [DataW.weights, Try.underlying22, bytes_entry] at hw
    refine ⟨?_, ?_⟩
    · have := hw _ (List.mem_cons_self ..)
      simp only [List.length_map, reachBytes] at this
      omega
    · intro p hp
      have := hw p.1.data.toList.length (List.mem_cons_of_mem _ (List.mem_append_left _ (mem_weightsAll4 (List.mem_map_of_mem hp) _ (by
        simp [enData, DataW.weights, Try.underlying35, DataW.weightsEach]))))
      simpa [reachBytes] using this
end Go.Proofs.Ytjgnmofgjnlncaa

/- Layer 3 (radix): needed. -/
namespace Go.Proofs.Ytjgnmofgjnlncaa
open Go.RowKit
set_option linter.unusedVariables false
variable {R : Nat → Prop}

/-- What takes a node's place in a tree. -/
def neededOf (t : Tr) : List Tr := if t.v.isSome || decide (1 < t.ks.length) then [t] else t.ks
theorem neededOf_few (t : Tr) : (neededOf t).length ≤ 1 := by
  unfold neededOf
  split
  · simp
  · rename_i h
    simp at h
    omega

set_option maxRecDepth 100000 in
theorem needed_calls (t : Tr) (w : World) (h : TAt R w t) (hf : t.ks.length ≤ 1000) (hR : ∀ b, R b → b < w.heap.size) :
    Calls Try.prog 55 #[.pointer (some ⟨t.a, 0, none⟩)] w fun e w' => ∃ x : SlV, e = .returned (.slice x.ao x.ks.length x.cap) ∧ x.ks = neededOf t ∧ x.At R w' ∧ Below w.heap.size w w' := by
  obtain ⟨-, -, -, c1, -, -, -, -, -⟩ := h.cells
  obtain ⟨y, hy, hyA, c2⟩ := h.slv
  have hyl : y.ks.length ≤ 1000 := by rw [hy]; exact hf
  have HY : Hid (y.ks = t.ks ∧ y.At R w) := ⟨hy, hyA⟩
  have hone : w.heap.size < (w.alloc (.cells #[.pointer (some ⟨t.a, 0, none⟩)] 64)).heap.size := by simp [World.size_alloc]
  have HONE : Hid (neededOf t = [t] → ∃ x : SlV, Ending.returned (.slice (some ⟨w.heap.size, 0, none⟩) 1 1) = .returned (.slice x.ao x.ks.length x.cap) ∧ x.ks = neededOf t ∧ x.At R (w.alloc (.cells #[.pointer (some ⟨t.a, 0, none⟩)] 64)) ∧ Below w.heap.size w (w.alloc (.cells #[.pointer (some ⟨t.a, 0, none⟩)] 64))) := fun hn =>
    ⟨⟨some ⟨w.heap.size, 0, none⟩, 1, [t]⟩, rfl, hn.symm, one_kid (fun e => by have := hR _ e; omega) (heap_alloc_new _ _), (Below.refl _ _).alloc (Nat.le_refl _) _⟩
  clear hone
  cases hv : t.v with
  | some v =>
    have HN : Hid (neededOf t = [t]) := by show _ = _; unfold neededOf; rw [hv]; rfl
    rw [hv] at c1
    simp only [vptr] at c1
    clear h hy hyA hv
    go_enter Try.func55, Try.ntmps55
    go_wp2
    go_ret
    exact HONE.out HN.out
  | none =>
    rw [hv] at c1
    simp only [vptr] at c1
    by_cases hl : 1 < y.ks.length
    · have HN : Hid (neededOf t = [t]) := by show _ = _; unfold neededOf; rw [hv]; rw [hy] at hl; simp [hl]
      have hd : decide ((y.ks.length : Int) > 1) = true := by simpa using (show (1 : Int) < y.ks.length by omega)
      have hd1 : (1 : Int) < (y.ks.length : Int) := by omega
      clear h hy hyA hv
      go_enter Try.func55, Try.ntmps55
      go_wp2
      go_ret
      exact HONE.out HN.out
    · have HN : Hid (neededOf t = t.ks) := by show _ = _; unfold neededOf; rw [hv]; rw [hy] at hl; simp [hl]
      have hd1 : ¬ (1 : Int) < (y.ks.length : Int) := by omega
      have hd : decide ((y.ks.length : Int) > 1) = false := by simp; omega
      clear h hy hyA hv
      go_enter Try.func55, Try.ntmps55
      go_wp2
      go_ret
      exact ⟨y, rfl, by rw [HN.out]; exact HY.out.1, HY.out.2, Below.refl _ _⟩
end Go.Proofs.Ytjgnmofgjnlncaa
