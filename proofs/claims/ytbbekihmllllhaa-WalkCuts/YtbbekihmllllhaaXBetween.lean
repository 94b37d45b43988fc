/- Layer 4 (walk): Between. -/
import Derived.Test.YtbbekihmllllhaaXUnder
namespace Go.Proofs.Ytbbekihmllllhaa
open Go.RowKit Go.Shelf
set_option linter.unusedVariables false
attribute [local go_sem] Oper.semAt_some

def bef (hi : ByteArray) (e : En) : Bool := decide (Lt (kyl e) (kyb hi))
/-- The entries from lo on, ahead of hi. -/
def btw (n : Nat) (t : Tr) (lo hi : ByteArray) : List En := (fil n t lo).filter (bef hi)
def bwP (lo hi : ByteArray) (e : En) : Bool := notLt (kyb lo) e && bef hi e
theorem btw_stop {n : Nat} {t : Tr} {lo hi : ByteArray} (hw : WF t) {q : List En} {x : En} (h : q ++ [x] <+: fil n t lo) (hq : ∀ y ∈ q, bef hi y = true) (hx : bef hi x = false) : btw n t lo hi = q := by
  refine filter_stop h hq hx fun r hr' y hy => ?_
  have hs := fil_sorted (n := n) hw lo
  rw [← hr', List.pairwise_append] at hs
  have h1 : EnLt x y := hs.2.2 x (by simp) y hy
  unfold bef at hx ⊢
  rw [decide_eq_false_iff_not] at hx ⊢
  exact fun h2 => hx (lt_tr h1 h2)

/-- Between two rounds of Between's own loop. -/
structure BtI (us fs : List En) (J : List (El us) → World → Prop) (l Y Bp : Nat) (hi : ByteArray) (pre : List (El fs)) (W : World) : Prop where
  got : ∃ ys : List (El us), ys.map (·.1) = pre.map (·.1) ∧ J ys W
  ybox : W.heap[Y]? = some (.cells #[.func (.yield l) #[] #[]] 68)
  pbox : W.heap[Bp]? = some (.cells #[.string hi] 9)

set_option maxRecDepth 100000 in
set_option maxHeartbeats 4000000 in
theorem between_seq (w₀ : World) (tb : Nat) (T : Tr) (ne : Int) (d : Nat) (hT : Tin w₀ tb T ne d) (lo hi : ByteArray) (hlo : lo.size ≤ 140737488355328) (X : Nat → Prop) (Bt Bl Bp : Nat) (w : World) (hb : Below w₀.heap.size w₀ w) (hX : ∀ b, X b → b < w.heap.size)
    (ht : w.heap[Bt]? = some (.cells #[.pointer (some ⟨tb, 0, none⟩)] 24)) (hlb : w.heap[Bl]? = some (.cells #[.string lo] 9)) (hl : w.heap[Bp]? = some (.cells #[.string hi] 9)) (hxp : ¬ X Bp) :
    SeqY (Kp w₀.heap.size X) 36 #[.pointer (some ⟨Bt, 0, none⟩), .pointer (some ⟨Bl, 0, none⟩), .pointer (some ⟨Bp, 0, none⟩)] (encE (btw (d + 1) T lo hi)) (fun ys => ys.map (·.1) = btw (d + 1) T lo hi) (fun ys => ys.map (·.1) <+: btw (d + 1) T lo hi) (fil (d + 1) T lo).length w := by
  intro l J Jx W hW hlt hJ hJx hY h0
  show Calls Try.prog _ #[.func (.yield l) #[] #[], .pointer (some ⟨Bt, 0, none⟩), .pointer (some ⟨Bl, 0, none⟩), .pointer (some ⟨Bp, 0, none⟩)] W _
  have c1 : W.cell? ⟨Bt, 0, none⟩ = some (.pointer (some ⟨tb, 0, none⟩)) := by rw [hW.cell (lt_of_heap ht), cell_of_blk ht]; rfl
  have c2 : W.cell? ⟨Bl, 0, none⟩ = some (.string lo) := by rw [hW.cell (lt_of_heap hlb), cell_of_blk hlb]; rfl
  obtain ⟨w1, HW1⟩ : ∃ w1, Hid (w1 = W.alloc (.cells #[.func (.yield l) #[] #[]] 68)) := ⟨_, rfl⟩
  have hb1 : Below W.heap.size W w1 := by rw [HW1.out]; exact (Below.refl _ _).alloc (Nat.le_refl _) _
  have q1 : w1.heap[W.heap.size]? = some (.cells #[.func (.yield l) #[] #[]] 68) := by rw [HW1.out]; exact heap_alloc_new _ _
  have hs1 : w1.heap.size = W.heap.size + 1 := by rw [HW1.out]; simp [World.size_alloc]
  have c1' : w1.cell? ⟨Bt, 0, none⟩ = some (.pointer (some ⟨tb, 0, none⟩)) := by rw [hb1.cell (World.block_lt_of_cell? W _ c1)]; exact c1
  have c2' : w1.cell? ⟨Bl, 0, none⟩ = some (.string lo) := by rw [hb1.cell (World.block_lt_of_cell? W _ c2)]; exact c2
  have HF := from_calls (some ⟨tb, 0, none⟩) lo w1
  have p1 : w1.heap[Bp]? = some (.cells #[.string hi] 9) := (hb1.block _ (by have := lt_of_heap hl; have := hW.size; omega)).trans ((hW.block _ (lt_of_heap hl)).trans hl)
  have HQ : Hid (Below W.heap.size W w1 ∧ w1.heap[W.heap.size]? = some (.cells #[.func (.yield l) #[] #[]] 68) ∧ w1.heap[Bp]? = some (.cells #[.string hi] 9)) := ⟨hb1, q1, p1⟩
  have hmm := hW.size
  have hbl := lt_of_heap hl
  rw [HW1.out] at c1' c2'
  clear hb1 q1 p1
  refine (callsIn_wide (n := 8)).1 ?_
  refine callsIn_of_wp_marks Try.func36 rfl trivial ?_ rfl
  refine wpIn_wide.2 ?_
  simp only [Try.ntmps36, List.size_toArray, List.length_cons, List.length_nil, Nat.reduceAdd, Nat.reduceSub, Array.replicate_succ, Array.replicate_zero, List.push_toArray, List.append_toArray, List.nil_append, List.cons_append]
  go_wp2_with fail
  rw [← HW1.out]
  clear HW1 c1' c2' c1 c2
  refine HF.mono ?_
  clear HF
  rintro e w2 ⟨rfl, hw2⟩
  obtain ⟨hb2, hs2, d1, d2⟩ := from_boxes hw2
  have HB2 : Hid (Below W.heap.size W w2) := HQ.out.1.trans (hb2.mono HQ.out.1.size)
  have y2 : w2.heap[W.heap.size]? = some (.cells #[.func (.yield l) #[] #[]] 68) := (hb2.block _ (by omega)).trans HQ.out.2.1
  have p2 : w2.heap[Bp]? = some (.cells #[.string hi] 9) := (hb2.block _ (by omega)).trans HQ.out.2.2
  have hyx : ¬ X W.heap.size := fun h => by have := hX _ h; omega
  have hb02 : Below w₀.heap.size w₀ w2 := (hb.trans (hW.mono hb.size)).trans (HB2.out.mono (hb.trans (hW.mono hb.size)).size)
  have hn2 : w₀.heap.size ≤ w2.heap.size := hb02.size
  rw [hs1] at d1 d2 hs2 ⊢
  clear hw2 hb2
  go_wp2_with fail
  refine (wpIn_wide (n := 8)).1 ?_
  refine range_law (n := 8) (by omega) (gf := 34) (lb := #[.pointer (some ⟨W.heap.size + 1, 0, none⟩), .pointer (some ⟨W.heap.size + 1 + 1, 0, none⟩)]) rfl (enters_of Try.func34 (by kernel_rfl) rfl)
    (from_seq w₀ tb T ne d hT lo hlo X (W.heap.size + 1) (W.heap.size + 1 + 1) w2 hb02 (fun b h => by have := hX b h; omega) d1 d2) (fun h1 h2 => h1.trans h2) ?hKb (Below.refl _ _) (fun _ => rfl)
    (BtI (btw (d + 1) T lo hi) (fil (d + 1) T lo) J l W.heap.size Bp hi)
    (fun c pre W' => c = .ret ∧ ((∃ (ys : List (El (btw (d + 1) T lo hi))) (pre' : List (El (fil (d + 1) T lo))) (x : El (fil (d + 1) T lo)), pre = pre' ++ [x] ∧ bef hi x.1 = false ∧ ys.map (·.1) = pre'.map (·.1) ∧ J ys W') ∨ (∃ ys : List (El (btw (d + 1) T lo hi)), ys.map (·.1) = pre.map (·.1) ∧ Jx ys W')))
    ?hI ?hIx ?h0 ?a1 ?assign ?body ?done ?stop
  case assign =>
    intro l' m x W' K hK
    dsimp only [encE]
    gi_wp2
    exact hK
  case hKb =>
    intro W' l' o o' hl' h1 h2
    refine ⟨(Below.refl _ W').grown (grownBy_putObj' W' l' o') (by have := lt_of_heap h1; omega) (fun k e => by cases e; omega), fun b cs ty hbb _ _ => World.putObj_heap_other (fun e => ?_)⟩
    subst e
    rw [h1] at hbb
    cases hbb
    cases h2
  case hI =>
    intro pre A C row hs hg hr
    obtain ⟨ys, h1, h2⟩ := hs.got
    exact ⟨⟨ys, h1, hJ _ _ _ _ h2 hg (fun r e => ⟨by have := (hr r e).1; omega, (hr r e).2⟩)⟩, heap_kept hs.ybox hg (fun r e => (hr r e).2), heap_kept hs.pbox hg (fun r e => (hr r e).2)⟩
  case hIx =>
    rintro c pre A C row ⟨hc, hs⟩ hg hr
    refine ⟨hc, ?_⟩
    rcases hs with ⟨ys, pre', x, e1, e2, e3, h2⟩ | ⟨ys, e1, h2⟩
    · exact .inl ⟨ys, pre', x, e1, e2, e3, hJ _ _ _ _ h2 hg (fun r e => ⟨by have := (hr r e).1; omega, (hr r e).2⟩)⟩
    · exact .inr ⟨ys, e1, hJx _ _ _ _ h2 hg (fun r e => ⟨by have := (hr r e).1; omega, (hr r e).2⟩)⟩
  case h0 => exact ⟨⟨[], rfl, ownFrom_abs hJ _ _ _ h0 HB2.out⟩, y2, p2⟩
  case body =>
    rintro l' m pre x W' hsz' hI' hlen
    have cp : W'.cell? ⟨Bp, 0, none⟩ = some (.string hi) := by rw [cell_of_blk hI'.pbox]; rfl
    have cy : W'.cell? ⟨W.heap.size, 0, none⟩ = some (.func (.yield l) #[] #[]) := by rw [cell_of_blk hI'.ybox]; rfl
    have hls := less_lt x.1.1 hi
    have HI' : Hid _ := hI'
    clear hI'
    cases hbg : bef hi x.1 with
    | true =>
      rw [show decide (Lt x.1.1.data.toList hi.data.toList) = true from hbg] at hls
      obtain ⟨ys, hy1, hy2⟩ := HI'.out.got
      have hxu : x.1 ∈ btw (d + 1) T lo hi := List.mem_filter.2 ⟨x.2, hbg⟩
      have hyl : ys.length = pre.length := by have := congrArg List.length hy1; simpa using this
      obtain ⟨fn, tmps, assign, body, hy, hR⟩ := hY (m - 1) ys ⟨x.1, hxu⟩ W' hy2 (by omega)
      dsimp only [encE] at hy
      have HYS : Hid (ys.map (·.1) = pre.map (·.1)) := hy1
      clear hy1 hy2 hyl
      gi_wp2_with fail
      refine ⟨fun h => (by cases h), ?_⟩
      have hR' : RoundIn (Fence.wide.inRound l') (m - 1) Try.prog l fn tmps assign body W' _ := hR
      refine hR'.mono ?_
      clear hR hR' hy
      rintro e w4 (⟨rfl, hj4, hk4, hf4⟩ | ⟨rfl, hj4, hf4⟩)
      · have HR : Hid (KeepsFrom w2.heap.size W' w4 ∧ Kp w₀.heap.size X W' w4 ∧ BtI (btw (d + 1) T lo hi) (fil (d + 1) T lo) J l W.heap.size Bp hi (pre ++ [x]) w4) := by
          refine ⟨⟨hf4.size, fun k o hk ho hc => hf4.same k o (by omega) ho hc⟩, hk4, ⟨ys ++ [⟨x.1, hxu⟩], by simp [HYS.out], hj4⟩, ?_, ?_⟩
          · rw [hk4.kept _ _ _ HI'.out.ybox (.inr (.inr (.inr rfl))) hyx]; exact HI'.out.ybox
          · rw [hk4.kept _ _ _ HI'.out.pbox (.inr (.inl rfl)) hxp]; exact HI'.out.pbox
        clear hj4 hk4 hf4
        gi_wp2
        exact HR.out
      · have HR : Hid (KeepsFrom w2.heap.size W' w4 ∧ Jx (ys ++ [⟨x.1, hxu⟩]) w4) := ⟨⟨hf4.size, fun k o hk ho hc => hf4.same k o (by omega) ho hc⟩, hj4⟩
        clear hj4 hf4
        gi_wp2
        exact ⟨HR.out.1, rfl, .inr ⟨_, by simp [HYS.out], HR.out.2⟩⟩
    | false =>
      rw [show decide (Lt x.1.1.data.toList hi.data.toList) = false from hbg] at hls
      gi_wp2_with fail
      refine ⟨fun _ h => (by cases h), ?_⟩
      gi_wp2
      obtain ⟨ys, hy1, hy2⟩ := HI'.out.got
      exact ⟨KeepsFrom.refl _ _, rfl, .inl ⟨ys, pre, x, rfl, hbg, hy1, hy2⟩⟩
  case done =>
    rintro D xs W' hD hS hI' hK
    obtain ⟨ys, hy1, hy2⟩ := hI'.got
    have hall : fil (d + 1) T lo = btw (d + 1) T lo hi := by
      unfold btw
      rw [filter_all]
      intro e he
      rw [← hS, ← hy1] at he
      obtain ⟨y, -, rfl⟩ := List.mem_map.1 he
      exact (List.mem_filter.1 y.2).2
    have HR : Hid (ys.map (·.1) = btw (d + 1) T lo hi ∧ J ys W') := ⟨by rw [hy1, hS]; exact hall, hy2⟩
    clear hI' hy1 hy2 hS
    gi_wp2
    refine ⟨by simp, .inl ⟨_, _, rfl, run_takeDeferred hK, ?_⟩⟩
    exact ⟨_, results_none rfl _ _ _, ⟨_, rfl⟩, .inl ⟨ys, HR.out.1, hJ.putObj _ HR.out.2 (by omega) hK rfl⟩⟩
  case stop =>
    rintro D c xs W' hD hSp ⟨rfl, hx⟩ hK
    have HR : Hid ((∃ ys : List (El (btw (d + 1) T lo hi)), ys.map (·.1) = btw (d + 1) T lo hi ∧ J ys W') ∨ (∃ ys : List (El (btw (d + 1) T lo hi)), ys.map (·.1) <+: btw (d + 1) T lo hi ∧ Jx ys W')) := by
      rcases hx with ⟨ys, pre', x, rfl, e2, e3, h2⟩ | ⟨ys, e1, h2⟩
      · refine .inl ⟨ys, ?_, h2⟩
        rw [List.map_append] at hSp
        rw [e3]
        refine (btw_stop hT.wf hSp (fun y hy => ?_) e2).symm
        rw [← e3] at hy
        obtain ⟨z, -, rfl⟩ := List.mem_map.1 hy
        exact (List.mem_filter.1 z.2).2
      · refine .inr ⟨ys, ?_, h2⟩
        rw [← e1] at hSp
        refine filter_pre hSp fun y hy => ?_
        obtain ⟨z, -, rfl⟩ := List.mem_map.1 hy
        exact (List.mem_filter.1 z.2).2
    clear hx
    gi_wp2
    refine ⟨by simp, .inl ⟨_, _, rfl, run_takeDeferred hK, ?_⟩⟩
    refine ⟨_, results_none rfl _ _ _, ⟨_, rfl⟩, ?_⟩
    rcases HR.out with ⟨ys, h1, h2⟩ | ⟨ys, h1, h2⟩
    · exact .inl ⟨ys, h1, hJ.putObj _ h2 (by omega) hK rfl⟩
    · exact .inr ⟨ys, h1, hJx.putObj _ h2 (by omega) hK rfl⟩


theorem between_calls (ao : Option Addr) (lo hi : ByteArray) (w : World) :
    Calls Try.prog 15 #[.pointer ao, .string lo, .string hi] w fun e w' => e = .returned (.func (.func 36) #[] #[.pointer (some ⟨w.heap.size, 0, none⟩), .pointer (some ⟨w.heap.size + 1, 0, none⟩), .pointer (some ⟨w.heap.size + 1 + 1, 0, none⟩)]) ∧ w' = ((w.alloc (.cells #[.pointer ao] 24)).alloc (.cells #[.string lo] 9)).alloc (.cells #[.string hi] 9) := by
  have hmf : ∀ (fn : Fn) (first cap : Array Value) (w : World), (Instr.makeFunc fn first cap).run Try.prog w = .ok (.func fn first cap) w := fun _ _ _ _ => rfl
  go_enter Try.func15, Try.ntmps15
  go_wp2
  go_ret
  exact ⟨rfl, rfl⟩
theorem box_blocks3 {w w1 : World} {ao : Option Addr} {lo hi : ByteArray} (h : w1 = ((w.alloc (.cells #[.pointer ao] 24)).alloc (.cells #[.string lo] 9)).alloc (.cells #[.string hi] 9)) :
    Below w.heap.size w w1 ∧ w1.heap.size = w.heap.size + 3 ∧ w1.heap[w.heap.size]? = some (.cells #[.pointer ao] 24) ∧ w1.heap[w.heap.size + 1]? = some (.cells #[.string lo] 9) ∧ w1.heap[w.heap.size + 1 + 1]? = some (.cells #[.string hi] 9) := by
  obtain ⟨b1, s1, e1, e2⟩ := box_blocks (w := w) (ao := ao) (lo := lo) rfl
  subst h
  refine ⟨b1.alloc (by omega) _, by rw [World.size_alloc, s1], ?_, ?_, ?_⟩
  · rw [Below.heap_alloc _ _ _ (by omega)]; exact e1
  · rw [Below.heap_alloc _ _ _ (by omega)]; exact e2
  · have := heap_alloc_new ((w.alloc (.cells #[.pointer ao] 24)).alloc (.cells #[.string lo] 9)) (.cells #[.string hi] 9)
    rwa [s1] at this
end Go.Proofs.Ytbbekihmllllhaa
