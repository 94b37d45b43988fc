/- Layer 4 (walk): Under. -/
import Derived.Test.YtnmndjplbcpglaaXFrom
namespace Go.Proofs.Ytnmndjplbcpglaa
open Go.RowKit Go.Shelf
set_option linter.unusedVariables false
attribute [local go_sem] Oper.semAt_some

def beg (p : ByteArray) (e : En) : Bool := begB (kyl e) (kyb p)
/-- The entries under p. -/
def und (n : Nat) (t : Tr) (p : ByteArray) : List En := (fil n t p).filter (beg p)

theorem filter_pre {α : Type} {p : α → Bool} {q l : List α} (h : q <+: l) (hq : ∀ x ∈ q, p x = true) : q <+: l.filter p := by
  obtain ⟨r, rfl⟩ := h
  rw [List.filter_append, filter_all hq]
  exact ⟨_, rfl⟩
/-- Behind an entry from p on that does not begin with p comes none that does. -/
theorem beg_gone {p : List UInt8} {x y : List UInt8} (hx : ¬ Lt x p) (hb : ¬ p <+: x) (hxy : Lt x y) : ¬ p <+: y := by
  intro hy
  rcases lt_tot p x with h | h | h
  · exact lt_asy hxy (by obtain ⟨z, rfl⟩ := hy; exact lt_more h hb z)
  · exact hb (by rw [h]; exact List.prefix_refl _)
  · exact hx h
theorem filter_stop {α : Type} {p : α → Bool} {q l : List α} {x : α} (h : q ++ [x] <+: l) (hq : ∀ y ∈ q, p y = true) (hx : p x = false) (hr : ∀ r, q ++ [x] ++ r = l → ∀ y ∈ r, p y = false) : l.filter p = q := by
  obtain ⟨r, hr'⟩ := h
  have := hr r hr'
  rw [← hr', List.filter_append, List.filter_append, filter_all hq, filter_none' this]
  simp [hx]

theorem ents_size {w : World} {n : Nat} : ∀ {t : Tr}, TAt nR w t → ∀ e ∈ ents n t, e.1.size ≤ 140737488351296 := by
  induction n with
  | zero => intro t _ e he; cases he
  | succ n ih =>
    intro t ht e he
    rcases List.mem_append.1 he with h | h
    · unfold ownE at h
      split at h
      · simp at h; subst h; exact ht.psz'
      · cases h
    · obtain ⟨c, hc, h⟩ := List.mem_flatMap.1 h
      exact ih (ht.sub' c hc) e h
theorem fil_size {w : World} {n : Nat} {t : Tr} {lo : ByteArray} (ht : TAt nR w t) : ∀ e ∈ fil n t lo, e.1.size ≤ 140737488351296 := fun e he => ents_size ht e (List.mem_filter.1 he).1
theorem fil_sorted {n : Nat} {t : Tr} (hw : WF t) (lo : ByteArray) : (fil n t lo).Pairwise EnLt := (ents_sorted hw).filter _
theorem fil_ge {n : Nat} {t : Tr} {lo : ByteArray} (hr : t.p = kE) : ∀ e ∈ fil n t lo, ¬ Lt (kyl e) (kyb lo) := fun e he => by
  rw [fil_root hr] at he
  have := (List.mem_filter.1 he).2
  simpa [notLt] using this
theorem und_stop {n : Nat} {t : Tr} {p : ByteArray} (hw : WF t) (hr : t.p = kE) {q : List En} {x : En} (h : q ++ [x] <+: fil n t p) (hq : ∀ y ∈ q, beg p y = true) (hx : beg p x = false) : und n t p = q := by
  refine filter_stop h hq hx fun r hr' y hy => ?_
  have hs := fil_sorted (n := n) hw p
  rw [← hr', List.pairwise_append] at hs
  have h1 : EnLt x y := hs.2.2 x (by simp) y hy
  have hxm : x ∈ fil n t p := by rw [← hr']; simp
  have := beg_gone (fil_ge hr x hxm) (fun h => by unfold beg begB at hx; rw [List.isPrefixOf_iff_prefix.2 h] at hx; cases hx) h1
  unfold beg begB
  rw [Bool.eq_false_iff, ne_eq, List.isPrefixOf_iff_prefix]
  exact this

/-- Between two rounds of Under's own loop. -/
structure UnI (us fs : List En) (J : List (El us) → World → Prop) (l Y Bp : Nat) (p : ByteArray) (pre : List (El fs)) (W : World) : Prop where
  got : ∃ ys : List (El us), ys.map (·.1) = pre.map (·.1) ∧ J ys W
  ybox : W.heap[Y]? = some (.cells #[.func (.yield l) #[] #[]] 59)
  pbox : W.heap[Bp]? = some (.cells #[.string p] 9)

set_option maxRecDepth 100000 in
set_option maxHeartbeats 4000000 in
theorem under_seq (w₀ : World) (tb : Nat) (T : Tr) (ne : Int) (d : Nat) (hT : Tin w₀ tb T ne d) (p : ByteArray) (hp : p.size ≤ 140737488355328) (X : Nat → Prop) (Bt Bp : Nat) (w : World) (hb : Below w₀.heap.size w₀ w) (hX : ∀ b, X b → b < w.heap.size)
    (ht : w.heap[Bt]? = some (.cells #[.pointer (some ⟨tb, 0, none⟩)] 24)) (hl : w.heap[Bp]? = some (.cells #[.string p] 9)) (hxp : ¬ X Bp) :
    SeqY (Kp w₀.heap.size X) 59 #[.pointer (some ⟨Bt, 0, none⟩), .pointer (some ⟨Bp, 0, none⟩)] (encE (und (d + 1) T p)) (fun ys => ys.map (·.1) = und (d + 1) T p) (fun ys => ys.map (·.1) <+: und (d + 1) T p) (fil (d + 1) T p).length w := by
  intro l J Jx W hW hlt hJ hJx hY h0
  show Calls Try.prog _ #[.func (.yield l) #[] #[], .pointer (some ⟨Bt, 0, none⟩), .pointer (some ⟨Bp, 0, none⟩)] W _
  have c1 : W.cell? ⟨Bt, 0, none⟩ = some (.pointer (some ⟨tb, 0, none⟩)) := by rw [hW.cell (lt_of_heap ht), cell_of_blk ht]; rfl
  have c2 : W.cell? ⟨Bp, 0, none⟩ = some (.string p) := by rw [hW.cell (lt_of_heap hl), cell_of_blk hl]; rfl
  obtain ⟨w1, HW1⟩ : ∃ w1, Hid (w1 = W.alloc (.cells #[.func (.yield l) #[] #[]] 59)) := ⟨_, rfl⟩
  have hb1 : Below W.heap.size W w1 := by rw [HW1.out]; exact (Below.refl _ _).alloc (Nat.le_refl _) _
  have q1 : w1.heap[W.heap.size]? = some (.cells #[.func (.yield l) #[] #[]] 59) := by rw [HW1.out]; exact heap_alloc_new _ _
  have hs1 : w1.heap.size = W.heap.size + 1 := by rw [HW1.out]; simp [World.size_alloc]
  have c1' : w1.cell? ⟨Bt, 0, none⟩ = some (.pointer (some ⟨tb, 0, none⟩)) := by rw [hb1.cell (World.block_lt_of_cell? W _ c1)]; exact c1
  have c2' : w1.cell? ⟨Bp, 0, none⟩ = some (.string p) := by rw [hb1.cell (World.block_lt_of_cell? W _ c2)]; exact c2
  have HF := from_calls (some ⟨tb, 0, none⟩) p w1
  have p1 : w1.heap[Bp]? = some (.cells #[.string p] 9) := (hb1.block _ (by have := lt_of_heap hl; have := hW.size; omega)).trans ((hW.block _ (lt_of_heap hl)).trans hl)
  have HQ : Hid (Below W.heap.size W w1 ∧ w1.heap[W.heap.size]? = some (.cells #[.func (.yield l) #[] #[]] 59) ∧ w1.heap[Bp]? = some (.cells #[.string p] 9)) := ⟨hb1, q1, p1⟩
  have hmm := hW.size
  have hbl := lt_of_heap hl
  rw [HW1.out] at c1' c2'
  clear hb1 q1 p1
  refine (callsIn_wide (n := 8)).1 ?_
  refine callsIn_of_wp_marks Try.func59 rfl trivial ?_ rfl
  refine wpIn_wide.2 ?_
  simp only [Try.ntmps59, List.size_toArray, List.length_cons, List.length_nil, Nat.reduceAdd, Nat.reduceSub, Array.replicate_succ, Array.replicate_zero, List.push_toArray, List.append_toArray, List.nil_append, List.cons_append]
  go_wp2_with fail
  rw [← HW1.out]
  clear HW1 c1' c2' c1 c2
  refine HF.mono ?_
  clear HF
  rintro e w2 ⟨rfl, hw2⟩
  obtain ⟨hb2, hs2, d1, d2⟩ := from_boxes hw2
  have HB2 : Hid (Below W.heap.size W w2) := HQ.out.1.trans (hb2.mono HQ.out.1.size)
  have y2 : w2.heap[W.heap.size]? = some (.cells #[.func (.yield l) #[] #[]] 59) := (hb2.block _ (by omega)).trans HQ.out.2.1
  have p2 : w2.heap[Bp]? = some (.cells #[.string p] 9) := (hb2.block _ (by omega)).trans HQ.out.2.2
  have hyx : ¬ X W.heap.size := fun h => by have := hX _ h; omega
  have hb02 : Below w₀.heap.size w₀ w2 := (hb.trans (hW.mono hb.size)).trans (HB2.out.mono (hb.trans (hW.mono hb.size)).size)
  have hn2 : w₀.heap.size ≤ w2.heap.size := hb02.size
  rw [hs1] at d1 d2 hs2 ⊢
  clear hw2 hb2
  go_wp2_with fail
  refine (wpIn_wide (n := 8)).1 ?_
  refine range_law (n := 8) (by omega) (gf := 43) (lb := #[.pointer (some ⟨W.heap.size + 1, 0, none⟩), .pointer (some ⟨W.heap.size + 1 + 1, 0, none⟩)]) rfl (enters_of Try.func43 (by kernel_rfl) rfl)
    (from_seq w₀ tb T ne d hT p hp X (W.heap.size + 1) (W.heap.size + 1 + 1) w2 hb02 (fun b h => by have := hX b h; omega) d1 d2) (fun h1 h2 => h1.trans h2) ?hKb (Below.refl _ _) (fun _ => rfl)
    (UnI (und (d + 1) T p) (fil (d + 1) T p) J l W.heap.size Bp p)
    (fun c pre W' => c = .ret ∧ ((∃ (ys : List (El (und (d + 1) T p))) (pre' : List (El (fil (d + 1) T p))) (x : El (fil (d + 1) T p)), pre = pre' ++ [x] ∧ beg p x.1 = false ∧ ys.map (·.1) = pre'.map (·.1) ∧ J ys W') ∨ (∃ ys : List (El (und (d + 1) T p)), ys.map (·.1) = pre.map (·.1) ∧ Jx ys W')))
    ?hI ?hIx ?h0 ?a1 ?assign ?body ?done ?stop
  case assign =>
    intro l' m x W' K hK
    dsimp only [encE]
    gi_wp2
    exact hK
  case hKb =>
    intro W' l' o o' hl' h1 h2
    refine ⟨(Below.refl _ W').grown (grownBy_putObj' W' l' o') (by have := lt_of_heap h1; omega) (fun k e => by cases e; omega), fun b cs ty hbb _ _ => World.putObj_heap_other (fun e => ?_)⟩
    subst e
    rw [h1] at hbb
    cases hbb
    cases h2
  case hI =>
    intro pre A C row hs hg hr
    obtain ⟨ys, h1, h2⟩ := hs.got
    exact ⟨⟨ys, h1, hJ _ _ _ _ h2 hg (fun r e => ⟨by have := (hr r e).1; omega, (hr r e).2⟩)⟩, heap_kept hs.ybox hg (fun r e => (hr r e).2), heap_kept hs.pbox hg (fun r e => (hr r e).2)⟩
  case hIx =>
    rintro c pre A C row ⟨hc, hs⟩ hg hr
    refine ⟨hc, ?_⟩
    rcases hs with ⟨ys, pre', x, e1, e2, e3, h2⟩ | ⟨ys, e1, h2⟩
    · exact .inl ⟨ys, pre', x, e1, e2, e3, hJ _ _ _ _ h2 hg (fun r e => ⟨by have := (hr r e).1; omega, (hr r e).2⟩)⟩
    · exact .inr ⟨ys, e1, hJx _ _ _ _ h2 hg (fun r e => ⟨by have := (hr r e).1; omega, (hr r e).2⟩)⟩
  case h0 => exact ⟨⟨[], rfl, ownFrom_abs hJ _ _ _ h0 HB2.out⟩, y2, p2⟩
  case body =>
    rintro l' m pre x W' hsz' hI' hlen
    have cp : W'.cell? ⟨Bp, 0, none⟩ = some (.string p) := by rw [cell_of_blk hI'.pbox]; rfl
    have cy : W'.cell? ⟨W.heap.size, 0, none⟩ = some (.func (.yield l) #[] #[]) := by rw [cell_of_blk hI'.ybox]; rfl
    have hxz := fil_size hT.tree.tat x.1 x.2
    have HH := hasPrefix_calls x.1.1 p W' (by omega) (by omega)
    have HI' : Hid _ := hI'
    clear hI'
    cases hbg : beg p x.1 with
    | true =>
      have hbg' : begB x.1.1.data.toList p.data.toList = true := hbg
      rw [hbg'] at HH
      obtain ⟨ys, hy1, hy2⟩ := HI'.out.got
      have hxu : x.1 ∈ und (d + 1) T p := List.mem_filter.2 ⟨x.2, hbg⟩
      have hyl : ys.length = pre.length := by have := congrArg List.length hy1; simpa using this
      obtain ⟨fn, tmps, assign, body, hy, hR⟩ := hY (m - 1) ys ⟨x.1, hxu⟩ W' hy2 (by omega)
      dsimp only [encE] at hy
      have HYS : Hid (ys.map (·.1) = pre.map (·.1)) := hy1
      clear hy1 hy2 hbg' hyl
      gi_wp2_with fail
      refine ⟨trivial, fun h => (by cases h), ?_⟩
      refine (CallsIn.inRound l' (callsIn_wide.2 HH)).mono ?_
      clear HH
      rintro e w3 ⟨rfl, hw3⟩
      rw [hw3]
      clear hw3 w3
      gi_wp2_with fail
      refine ⟨fun h => (by cases h), ?_⟩
      have hR' : RoundIn (Fence.wide.inRound l') (m - 1) Try.prog l fn tmps assign body W' _ := hR
      refine hR'.mono ?_
      clear hR hR' hy
      rintro e w4 (⟨rfl, hj4, hk4, hf4⟩ | ⟨rfl, hj4, hf4⟩)
      · have HR : Hid (KeepsFrom w2.heap.size W' w4 ∧ Kp w₀.heap.size X W' w4 ∧ UnI (und (d + 1) T p) (fil (d + 1) T p) J l W.heap.size Bp p (pre ++ [x]) w4) := by
          refine ⟨⟨hf4.size, fun k o hk ho hc => hf4.same k o (by omega) ho hc⟩, hk4, ⟨ys ++ [⟨x.1, hxu⟩], by simp [HYS.out], hj4⟩, ?_, ?_⟩
          · rw [hk4.kept _ _ _ HI'.out.ybox (.inr (.inr (.inr (.inl rfl)))) hyx]; exact HI'.out.ybox
          · rw [hk4.kept _ _ _ HI'.out.pbox (.inr (.inl rfl)) hxp]; exact HI'.out.pbox
        clear hj4 hk4 hf4
        gi_wp2
        exact HR.out
      · have HR : Hid (KeepsFrom w2.heap.size W' w4 ∧ Jx (ys ++ [⟨x.1, hxu⟩]) w4) := ⟨⟨hf4.size, fun k o hk ho hc => hf4.same k o (by omega) ho hc⟩, hj4⟩
        clear hj4 hf4
        gi_wp2
        exact ⟨HR.out.1, rfl, .inr ⟨_, by simp [HYS.out], HR.out.2⟩⟩
    | false =>
      have hbg' : begB x.1.1.data.toList p.data.toList = false := hbg
      rw [hbg'] at HH
      gi_wp2_with fail
      refine ⟨trivial, fun h => (by cases h), ?_⟩
      refine (CallsIn.inRound l' (callsIn_wide.2 HH)).mono ?_
      clear HH
      rintro e w3 ⟨rfl, hw3⟩
      rw [hw3]
      clear hw3 w3
      gi_wp2_with fail
      refine ⟨fun _ h => (by cases h), ?_⟩
      gi_wp2
      obtain ⟨ys, hy1, hy2⟩ := HI'.out.got
      exact ⟨KeepsFrom.refl _ _, rfl, .inl ⟨ys, pre, x, rfl, hbg, hy1, hy2⟩⟩
  case done =>
    rintro D xs W' hD hS hI' hK
    obtain ⟨ys, hy1, hy2⟩ := hI'.got
    have hall : fil (d + 1) T p = und (d + 1) T p := by
      unfold und
      rw [filter_all]
      intro e he
      rw [← hS, ← hy1] at he
      obtain ⟨y, -, rfl⟩ := List.mem_map.1 he
      exact (List.mem_filter.1 y.2).2
    have HR : Hid (ys.map (·.1) = und (d + 1) T p ∧ J ys W') := ⟨by rw [hy1, hS]; exact hall, hy2⟩
    clear hI' hy1 hy2 hS
    gi_wp2
    refine ⟨by simp, .inl ⟨_, _, rfl, run_takeDeferred hK, ?_⟩⟩
    exact ⟨_, results_none rfl _ _ _, ⟨_, rfl⟩, .inl ⟨ys, HR.out.1, hJ.putObj _ HR.out.2 (by omega) hK rfl⟩⟩
  case stop =>
    rintro D c xs W' hD hSp ⟨rfl, hx⟩ hK
    have HR : Hid ((∃ ys : List (El (und (d + 1) T p)), ys.map (·.1) = und (d + 1) T p ∧ J ys W') ∨ (∃ ys : List (El (und (d + 1) T p)), ys.map (·.1) <+: und (d + 1) T p ∧ Jx ys W')) := by
      rcases hx with ⟨ys, pre', x, rfl, e2, e3, h2⟩ | ⟨ys, e1, h2⟩
      · refine .inl ⟨ys, ?_, h2⟩
        rw [List.map_append] at hSp
        rw [e3]
        refine (und_stop hT.wf hT.root hSp (fun y hy => ?_) e2).symm
        rw [← e3] at hy
        obtain ⟨z, -, rfl⟩ := List.mem_map.1 hy
        exact (List.mem_filter.1 z.2).2
      · refine .inr ⟨ys, ?_, h2⟩
        rw [← e1] at hSp
        refine filter_pre hSp fun y hy => ?_
        obtain ⟨z, -, rfl⟩ := List.mem_map.1 hy
        exact (List.mem_filter.1 z.2).2
    clear hx
    gi_wp2
    refine ⟨by simp, .inl ⟨_, _, rfl, run_takeDeferred hK, ?_⟩⟩
    refine ⟨_, results_none rfl _ _ _, ⟨_, rfl⟩, ?_⟩
    rcases HR.out with ⟨ys, h1, h2⟩ | ⟨ys, h1, h2⟩
    · exact .inl ⟨ys, h1, hJ.putObj _ h2 (by omega) hK rfl⟩
    · exact .inr ⟨ys, h1, hJx.putObj _ h2 (by omega) hK rfl⟩

theorem under_calls (ao : Option Addr) (p : ByteArray) (w : World) :
    Calls Try.prog 35 #[.pointer ao, .string p] w fun e w' => e = .returned (.func (.func 59) #[] #[.pointer (some ⟨w.heap.size, 0, none⟩), .pointer (some ⟨w.heap.size + 1, 0, none⟩)]) ∧ w' = (w.alloc (.cells #[.pointer ao] 24)).alloc (.cells #[.string p] 9) := by
  have hmf : ∀ (fn : Fn) (first cap : Array Value) (w : World), (Instr.makeFunc fn first cap).run Try.prog w = .ok (.func fn first cap) w := fun _ _ _ _ => rfl
  go_enter Try.func35, Try.ntmps35
  go_wp2
  go_ret
  exact ⟨rfl, rfl⟩
theorem box_blocks {w w1 : World} {ao : Option Addr} {lo : ByteArray} (h : w1 = (w.alloc (.cells #[.pointer ao] 24)).alloc (.cells #[.string lo] 9)) :
    Below w.heap.size w w1 ∧ w1.heap.size = w.heap.size + 2 ∧ w1.heap[w.heap.size]? = some (.cells #[.pointer ao] 24) ∧ w1.heap[w.heap.size + 1]? = some (.cells #[.string lo] 9) := by
  subst h
  refine ⟨((Below.refl _ w).alloc (Nat.le_refl _) _).alloc (by simp) _, by simp [World.size_alloc], ?_, ?_⟩
  · rw [Below.heap_alloc _ _ _ (by simp)]; exact heap_alloc_new _ _
  · have := heap_alloc_new (w.alloc (.cells #[.pointer ao] 24)) (.cells #[.string lo] 9)
    rwa [World.size_alloc] at this
end Go.Proofs.Ytnmndjplbcpglaa
