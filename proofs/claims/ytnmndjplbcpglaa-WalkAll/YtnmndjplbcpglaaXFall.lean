/- Layer 4 (walk): fall, Back. -/
import Derived.Test.YtnmndjplbcpglaaXBackN
namespace Go.Proofs.Ytnmndjplbcpglaa
open Go.RowKit Go.Shelf
set_option linter.unusedVariables false
attribute [local go_sem] Oper.semAt_some
theorem run_store_fnF {P : Program} {w : World} (a : Addr) (m : Mode) (f : Fn) (x y : Array Value) : (store a (.func f x y) m).run P w = stored P w a (.func f x y) m := run_store P w a _ m rfl
attribute [local go_sem] run_store_fnF

/-- The entries beneath a node, falling. -/
def fallE (n : Nat) (t : Tr) : List En := (ents n t).reverse
theorem ownE_rev (t : Tr) : (ownE t).reverse = ownE t := by unfold ownE; cases t.v <;> rfl
theorem rev_flat {α β : Type} (f : α → List β) : ∀ l : List α, (l.flatMap f).reverse = l.reverse.flatMap fun x => (f x).reverse
  | [] => rfl
  | x :: l => by simp [rev_flat f l]
theorem fallE_succ (n : Nat) (t : Tr) : fallE (n + 1) t = (t.ks.reverse.flatMap (fallE n)) ++ ownE t := by
  unfold fallE
  show (ownE t ++ t.ks.flatMap (ents n)).reverse = _
  rw [List.reverse_append, rev_flat, ownE_rev]
/-- What has come of the kids, the last first. -/
theorem down_flat {β : Type} (f : Tr → List β) (ks : List Tr) (pre : List (Fin ks.length)) (h : pre.map (·.val) = downTo ks.length pre.length) (hl : pre.length ≤ ks.length) : pre.flatMap (fun i => f ks[i.val]) = (ks.reverse.take pre.length).flatMap f := by
  have e : pre.map (fun i => ks[i.val]) = ks.reverse.take pre.length := by
    refine List.ext_getElem (by simp; omega) fun i h1 h2 => ?_
    have hi : i < pre.length := by simpa using h1
    have hv : (pre.map (·.val))[i]'(by simpa using hi) = (downTo ks.length pre.length)[i]'(by rw [downTo_length]; exact hi) := by simp only [h]
    have hv' : pre[i].val = ks.length - 1 - i := by simpa [downTo] using hv
    simp [hv']
  rw [← e, List.flatMap_map]

theorem kp_grownF {n₀ : Nat} {X : Nat → Prop} {A B : World} {row : Option Nat} (hg : A.grownBy B row) (hr : ∀ r, row = some r → n₀ ≤ r ∧ ∃ o : Obj, A.heap[r]? = some o ∧ isMark o = true) (hn : n₀ ≤ A.heap.size) : Kp n₀ X A B :=
  ⟨(Below.refl _ A).grown hg hn (fun k e => (hr k e).1), fun b cs ty hbb _ _ => hg.block b (lt_of_heap hbb) (fun e => by
    obtain ⟨-, o, ho, hc⟩ := hr b e.symm
    rw [hbb] at ho; cases ho; cases hc)⟩

set_option maxRecDepth 100000 in
set_option maxHeartbeats 2000000 in
theorem giveF_calls (l n₀ : Nat) (X : Nat → Prop) (es : List En) (J Jx : List (El es) → World → Prop) (hJ : Abs J) (hN : ∀ xs W, ¬ Jx xs W) (hY : YOk l n₀ X es J Jx) (t : Tr) (pre : List (El es)) (W : World) (hn : n₀ ≤ W.heap.size) (ht : TAt nR W t) (hj : J pre W) (hp : pre.map (·.1) ++ ownE t <+: es) :
    Calls Try.prog 47 #[nodeV t, .func (.yield l) #[] #[]] W fun e W' =>
      e = .returned (.bool true) ∧ ∃ ys : List (El es), ys.map (·.1) = ownE t ∧ J (pre ++ ys) W' ∧ Kp n₀ X W W' ∧ KeepsFrom (l + 1) W W' := by
  obtain ⟨w1, HW1⟩ : ∃ w1, Hid (w1 = W.alloc (.cells #[.pointer (some ⟨t.a, 0, none⟩)] 63)) := ⟨_, rfl⟩
  have hb1 : Below W.heap.size W w1 := by rw [HW1.out]; exact (Below.refl _ _).alloc (Nat.le_refl _) _
  have q1 : w1.heap[W.heap.size]? = some (.cells #[.pointer (some ⟨t.a, 0, none⟩)] 63) := by rw [HW1.out]; exact heap_alloc_new _ _
  have HV := value_calls t w1 (ht.keep hb1)
  have HB1 : Hid (Below W.heap.size W w1) := hb1
  unfold nodeV
  unfold nodeV at HV
  have HT : Hid (TAt nR W t) := ht
  have HJ : Hid (J pre W) := hj
  have hlt1 := lt_of_heap q1
  cases hv : t.v with
  | none =>
    rw [hv] at HV
    have ho : ownE t = [] := by unfold ownE; rw [hv]
    rw [ho]
    simp only [held, Option.isSome_none] at HV
    clear q1 ht hb1 hj
    refine (callsIn_wide (n := 8)).1 ?_
    refine callsIn_of_wp Try.func47 rfl trivial ?_ rfl
    simp only [Try.ntmps47, List.size_toArray, List.length_cons, List.length_nil, Nat.reduceAdd, Nat.reduceSub, Array.replicate_succ, Array.replicate_zero, List.push_toArray, List.append_toArray, List.nil_append, List.cons_append]
    gi_wp2_with fail
    refine ⟨trivial, ?_⟩
    rw [← HW1.out]
    refine (callsIn_wide.2 HV).mono ?_
    clear HV HW1
    rintro e w2 ⟨rfl, hb2⟩
    have HB2 : Hid (Below W.heap.size W w2) := HB1.out.trans (hb2.mono HB1.out.size)
    clear hb2
    gi_wp2_with fail
    refine ⟨trivial, ?_⟩
    gi_wp2_with fail
    refine ⟨fun _ h => (by cases h), ?_⟩
    gi_wp2
    go_ret
    exact ⟨rfl, [], rfl, by rw [List.append_nil]; exact hJ _ _ _ HJ.out HB2.out, Kp.ofBelow HB2.out hn, keepsFrom_below HB2.out⟩
  | some v =>
    rw [hv] at HV
    obtain ⟨n, hn1⟩ := (ht.val' v hv).num
    have ho : ownE t = [(t.p, n)] := by unfold ownE; rw [hv]; simp [hn1, intOf]
    rw [ho] at hp ⊢
    have hx : (t.p, n) ∈ es := hp.subset (by simp)
    simp only [held, Option.isSome_some, hn1] at HV
    clear ht hb1 hj
    refine (callsIn_wide (n := 8)).1 ?_
    refine callsIn_of_wp Try.func47 rfl trivial ?_ rfl
    simp only [Try.ntmps47, List.size_toArray, List.length_cons, List.length_nil, Nat.reduceAdd, Nat.reduceSub, Array.replicate_succ, Array.replicate_zero, List.push_toArray, List.append_toArray, List.nil_append, List.cons_append]
    gi_wp2_with fail
    refine ⟨trivial, ?_⟩
    rw [← HW1.out]
    refine (callsIn_wide.2 HV).mono ?_
    clear HV HW1
    rintro e w2 ⟨rfl, hb2⟩
    have HB2 : Hid (Below W.heap.size W w2) := HB1.out.trans (hb2.mono HB1.out.size)
    have q2 : w2.cell? ⟨W.heap.size, 0, none⟩ = some (.pointer (some ⟨t.a, 0, none⟩)) := by rw [hb2.cell (by exact hlt1), cell_of_blk q1]; rfl
    have HP := path_calls (R := nR) t w2 (HT.out.keep HB2.out)
    unfold nodeV at HP
    clear hb2 q1
    gi_wp2_with fail
    refine ⟨trivial, ?_⟩
    refine (callsIn_wide.2 HP).mono ?_
    clear HP
    rintro e w3 ⟨rfl, hb3⟩
    have HB3 : Hid (Below W.heap.size W w3) := HB2.out.trans (hb3.mono HB2.out.size)
    obtain ⟨fn, tmps, assign, body, hy, hR⟩ := hY 7 pre ⟨(t.p, n), hx⟩ w3 (hJ _ _ _ HJ.out HB3.out) (by rw [List.map_append]; exact hp)
    dsimp only [encE] at hy
    clear hb3 q2
    gi_wp2_with fail
    refine hR.mono ?_
    clear hR hy
    rintro e w4 (⟨rfl, hJ4, hk4, hf4⟩ | ⟨rfl, hJx4, -⟩)
    · have HR : Hid (J (pre ++ [⟨(t.p, n), hx⟩]) w4 ∧ Kp n₀ X W w4 ∧ KeepsFrom (l + 1) W w4) := ⟨hJ4, (Kp.ofBelow HB3.out hn).trans hk4, (keepsFrom_below HB3.out).trans hf4⟩
      clear hJ4 hk4 hf4
      gi_wp2
      go_ret
      exact ⟨rfl, [⟨(t.p, n), hx⟩], rfl, HR.out.1, HR.out.2.1, HR.out.2.2⟩
    · exact (hN _ _ hJx4).elim

theorem size_setCell'' (w : World) (a : Addr) (u : Value) : (w.setCell a u).heap.size = w.heap.size := by simp [World.setCell]
/-- Between two kids. -/
structure FaI (w₀ : World) (X : Nat → Prop) (l : Nat) {es : List En} (J : List (El es) → World → Prop) (pre : List (El es)) (W : World) (w3 : World) (out : List En) (wr : World) : Prop where
  base : Below w₀.heap.size w₀ wr
  kp : Kp w₀.heap.size X w3 wr
  kf : KeepsFrom (l + 1) W wr
  got : ∃ ys : List (El es), ys.map (·.1) = out ∧ J (pre ++ ys) wr
theorem FaI.ownM {w₀ : World} {X : Nat → Prop} {l B0 : Nat} {es : List En} {J : List (El es) → World → Prop} {pre : List (El es)} {W w3 : World} {β : Type} {P : β → Prop} {f : β → List En} (hJ : OwnM B0 J) (h0 : w₀.heap.size ≤ W.heap.size) (hB : B0 ≤ W.heap.size) (hW : W.heap.size ≤ w3.heap.size) : OwnM w3.heap.size (fun (s : β) wr => P s ∧ FaI w₀ X l J pre W w3 (f s) wr) := fun s A C row hs hg hr => by
  obtain ⟨hp, h⟩ := hs
  obtain ⟨ys, h1, h2⟩ := h.got
  refine ⟨hp, h.base.grown hg h.base.size (fun r e => by have := (hr r e).1; omega), h.kp.trans (kp_grownF hg (fun r e => ⟨by have := (hr r e).1; omega, (hr r e).2⟩) h.base.size), ⟨Nat.le_trans h.kf.size hg.size, fun k o hk ho hc => ?_⟩, ys, h1, hJ _ _ _ _ h2 hg (fun r e => ⟨by have := (hr r e).1; omega, (hr r e).2⟩)⟩
  have hlt := lt_of_heap ho
  exact (hg.block k (lt_of_heap (h.kf.same k o hk ho hc)) (fun e => by have := (hr k e.symm).1; omega)).trans (h.kf.same k o hk ho hc)
theorem FaI.absK {w₀ : World} {X : Nat → Prop} {l B0 : Nat} {es : List En} {J : List (El es) → World → Prop} {pre : List (El es)} {W w3 : World} {β : Type} {P : β → Prop} {f : β → List En} (hJ : AbsK B0 J) (h0 : w₀.heap.size ≤ W.heap.size) (hB : B0 ≤ W.heap.size) (hW : W.heap.size ≤ w3.heap.size) : AbsK w3.heap.size (fun (s : β) wr => P s ∧ FaI w₀ X l J pre W w3 (f s) wr) := fun s A b i cs ty u hs hb hX ht => by
  obtain ⟨hp, h⟩ := hs
  obtain ⟨ys, h1, h2⟩ := h.got
  refine ⟨hp, h.base.setCell (p := ⟨b, i, none⟩) (by show w₀.heap.size ≤ b; omega) _, ⟨h.kp.below.setCell (p := ⟨b, i, none⟩) (by show w₀.heap.size ≤ b; omega) _, fun k ds t hk htk hx => ?_⟩, ⟨by rw [size_setCell'']; exact h.kf.size, fun k o hk ho hc => ?_⟩, ys, h1, hJ _ _ _ _ _ _ _ h2 (by omega) hX ht⟩
  · have hlt := lt_of_heap hk
    exact (heap_setCell_other _ _ _ _ (fun e => by have e' : k = b := e; omega)).trans (h.kp.kept k ds t hk htk hx)
  · have hlt := lt_of_heap ho
    exact (heap_setCell_other _ _ _ _ (fun e => by have e' : k = b := e; omega)).trans (h.kf.same k o hk ho hc)
theorem results_cellF {fn : Func} {t : Tmp} {ty : TypeId} {ad : Addr} {v : Value} {tmps : Array Value} {P : Program} {w : World} (h : fn.results = #[.cell t ty]) (ht : tmps.getD t undef = .pointer (some ad)) (hl : (loadVar ty ad).run P w = .ok v w) :
    (results fn tmps).run P w = .ok v w := by
  have ht' : tmps[t]?.getD undef = .pointer (some ad) := by simpa using ht
  simp [results, h, ht', hl, asAddr]
theorem load_truthF {w : World} {b : Nat} {v : Value} (h : w.heap[b]? = some (.cells #[v] 4)) : (loadVar 4 ⟨b, 0, none⟩).run Try.prog w = .ok v w := by
  have hc : w.cell? ⟨b, 0, none⟩ = some v := by rw [cell_of_blk h]; rfl
  simp [loadVar, Sem.run_bind, Result.andThen, hc, go_sem]

set_option maxRecDepth 100000 in
set_option maxHeartbeats 4000000 in
theorem fall_calls (w₀ : World) (l B0 : Nat) (X : Nat → Prop) (es : List En) (J Jx : List (El es) → World → Prop) (hJ : OwnM B0 J) (hJk : AbsK B0 J) (hN : ∀ xs W, ¬ Jx xs W) (hY : YOk l w₀.heap.size X es J Jx) (hX : ∀ b, X b → b < B0) (hl : l < B0) (n : Nat) :
    ∀ (t : Tr) (pre : List (El es)) (W : World), Dep n t → WF t → TAt nR w₀ t → Below w₀.heap.size w₀ W → B0 ≤ W.heap.size → J pre W → pre.map (·.1) ++ fallE n t <+: es →
    Calls Try.prog 23 #[nodeV t, .func (.yield l) #[] #[]] W fun e W' => e = .returned (.bool true) ∧ ∃ ys : List (El es), ys.map (·.1) = fallE n t ∧ J (pre ++ ys) W' ∧ Kp w₀.heap.size X W W' ∧ KeepsFrom (l + 1) W W' := by
  induction n with
  | zero => intro t pre W hd; cases hd
  | succ n ih =>
    intro t pre W hd hw ht hb hB hj hp
    have hnot : ∀ (x : Bool) (w : World), (Op.unary .not (.bool x)).run Try.prog w = .ok (.bool (!x)) w := fun _ _ => rfl
    rw [fallE_succ] at hp ⊢
    have hfew := hw.few
    obtain ⟨w1, HW1⟩ : ∃ w1, Hid (w1 = ((W.alloc (.cells #[.pointer (some ⟨t.a, 0, none⟩)] 63)).alloc (.cells #[.func (.yield l) #[] #[]] 59)).alloc (.cells #[.bool false] 4)) := ⟨_, rfl⟩
    have s0 : (W.alloc (.cells #[.pointer (some ⟨t.a, 0, none⟩)] 63)).heap.size = W.heap.size + 1 := by simp [World.size_alloc]
    have s1 : ((W.alloc (.cells #[.pointer (some ⟨t.a, 0, none⟩)] 63)).alloc (.cells #[.func (.yield l) #[] #[]] 59)).heap.size = W.heap.size + 1 + 1 := by rw [World.size_alloc, s0]
    have hb1 : Below W.heap.size W w1 := by rw [HW1.out]; exact (((Below.refl _ _).alloc (Nat.le_refl _) _).alloc (by omega) _).alloc (by omega) _
    have q2 : w1.heap[W.heap.size]? = some (.cells #[.pointer (some ⟨t.a, 0, none⟩)] 63) := by rw [HW1.out, Below.heap_alloc _ _ _ (by omega), Below.heap_alloc _ _ _ (by omega)]; exact heap_alloc_new _ _
    have q3 : w1.heap[W.heap.size + 1]? = some (.cells #[.func (.yield l) #[] #[]] 59) := by rw [HW1.out, Below.heap_alloc _ _ _ (by omega), ← s0]; exact heap_alloc_new _ _
    have q4 : w1.heap[W.heap.size + 1 + 1]? = some (.cells #[.bool false] 4) := by rw [HW1.out, ← s1]; exact heap_alloc_new _ _
    have hb01 : Below w₀.heap.size w₀ w1 := hb.trans (hb1.mono hb.size)
    have HK := kids_blk (R := nR) t w1 (ht.keep hb01) (by omega)
    have k1 : w1.cell? ⟨W.heap.size, 0, none⟩ = some (.pointer (some ⟨t.a, 0, none⟩)) := by rw [cell_of_blk q2]; rfl
    have H1 : Hid (Below W.heap.size W w1 ∧ Below w₀.heap.size w₀ w1 ∧ w1.heap[W.heap.size]? = some (.cells #[.pointer (some ⟨t.a, 0, none⟩)] 63) ∧ w1.heap[W.heap.size + 1]? = some (.cells #[.func (.yield l) #[] #[]] 59) ∧ w1.heap[W.heap.size + 1 + 1]? = some (.cells #[.bool false] 4)) := ⟨hb1, hb01, q2, q3, q4⟩
    have HT : Hid (TAt nR w₀ t ∧ WF t ∧ Dep (n + 1) t) := ⟨ht, hw, hd⟩
    have hbs := hb.size
    clear hb1 q2 q3 q4 s0 s1 hb01 ht hw hd
    unfold nodeV
    unfold nodeV at HK
    refine (callsIn_wide (n := 8)).1 ?_
    refine callsIn_of_wp_marks Try.func23 rfl trivial ?_ rfl
    refine wpIn_wide.2 ?_
    simp only [Try.ntmps23, List.size_toArray, List.length_cons, List.length_nil, Nat.reduceAdd, Nat.reduceSub, Array.replicate_succ, Array.replicate_zero, List.push_toArray, List.append_toArray, List.nil_append, List.cons_append]
    go_wp2_with fail
    rw [← HW1.out]
    clear HW1
    refine HK.mono ?_
    clear HK
    rintro e w2 ⟨kb, rfl, hb2, hkb, M, hM, hMs, hMc⟩
    have HBW := backwardN_calls (some ⟨kb, 0, none⟩) t.ks.length t.ks.length w2
    have hb02 : Below W.heap.size W w2 := H1.out.1.trans (hb2.mono H1.out.1.size)
    have H2 : Hid (Below W.heap.size W w2 ∧ w2.heap[kb]? = some (.cells M 63) ∧ (∀ i (h : i < t.ks.length), M[i]? = some (.pointer (some ⟨t.ks[i].a, 0, none⟩))) ∧ w2.heap[W.heap.size]? = some (.cells #[.pointer (some ⟨t.a, 0, none⟩)] 63) ∧ w2.heap[W.heap.size + 1]? = some (.cells #[.func (.yield l) #[] #[]] 59) ∧ w2.heap[W.heap.size + 1 + 1]? = some (.cells #[.bool false] 4)) := ⟨hb02, hM, hMc, (hb2.block _ (lt_of_heap H1.out.2.2.1)).trans H1.out.2.2.1, (hb2.block _ (lt_of_heap H1.out.2.2.2.1)).trans H1.out.2.2.2.1, (hb2.block _ (lt_of_heap H1.out.2.2.2.2)).trans H1.out.2.2.2.2⟩
    have hkbW : W.heap.size ≤ kb := Nat.le_trans H1.out.1.size hkb
    clear hb2 hM hMs hMc hb02 k1 H1
    go_wp2_with fail
    refine HBW.mono ?_
    clear HBW
    rintro e w3 ⟨rfl, hw3⟩
    obtain ⟨Bs, hBs⟩ : ∃ Bs, Bs = w2.heap.size := ⟨_, rfl⟩
    rw [← hBs]
    have hb3 : Below w2.heap.size w2 w3 := by rw [hw3]; exact (Below.refl _ _).alloc (Nat.le_refl _) _
    have qB : w3.heap[Bs]? = some (.cells #[.slice (some ⟨kb, 0, none⟩) t.ks.length t.ks.length] 96) := by rw [hw3, hBs]; exact heap_alloc_new _ _
    have h3 : Below W.heap.size W w3 := H2.out.1.trans (hb3.mono H2.out.1.size)
    have r2 := (hb3.block _ (lt_of_heap H2.out.2.2.2.1)).trans H2.out.2.2.2.1
    have r3 := (hb3.block _ (lt_of_heap H2.out.2.2.2.2.1)).trans H2.out.2.2.2.2.1
    have r4 := (hb3.block _ (lt_of_heap H2.out.2.2.2.2.2)).trans H2.out.2.2.2.2.2
    have rM := (hb3.block _ (lt_of_heap H2.out.2.1)).trans H2.out.2.1
    have hBW : W.heap.size ≤ Bs := by rw [hBs]; exact H2.out.1.size
    have hMc := H2.out.2.2.1
    have hcB : w3.cell? ⟨Bs, 0, none⟩ = some (.slice (some ⟨kb, 0, none⟩) t.ks.length t.ks.length) := by rw [cell_of_blk qB]; rfl
    have hcM : ∀ i (h : i < t.ks.length), w3.cell? ⟨kb, i, none⟩ = some (.pointer (some ⟨t.ks[i].a, 0, none⟩)) := fun i hi => by rw [cell_of_blk rM]; exact hMc i hi
    have hnx : ∀ b, W.heap.size ≤ b → ¬ X b := fun b hb h => by have := hX b h; omega
    have HE3 : Hid (w3.heap[Bs]? = some (.cells #[.slice (some ⟨kb, 0, none⟩) t.ks.length t.ks.length] 96) ∧ w3.heap[kb]? = some (.cells M 63) ∧ w3.heap[W.heap.size]? = some (.cells #[.pointer (some ⟨t.a, 0, none⟩)] 63) ∧ w3.heap[W.heap.size + 1]? = some (.cells #[.func (.yield l) #[] #[]] 59) ∧ w3.heap[W.heap.size + 1 + 1]? = some (.cells #[.bool false] 4)) := ⟨qB, rM, r2, r3, r4⟩
    have h03 : Below w₀.heap.size w₀ w3 := hb.trans (h3.mono hb.size)
    have hJ3 : J (pre ++ []) w3 := by rw [List.append_nil]; exact ownFrom_abs hJ _ _ _ hj h3
    clear hw3 hBs hb3 qB rM r2 r3 r4 H2 hMc
    have hW3 := h3.size
    go_wp2_with fail
    refine (wpIn_wide (n := 8)).1 ?_
    refine range_lawFA (n := 8) (by omega) (gf := 66) (lb := #[.pointer (some ⟨Bs, 0, none⟩)]) rfl (enters_of Try.func66 (by kernel_rfl) rfl)
      (backN_seq Bs kb t.ks.length t.ks (by omega) w3 hcB hcM) (fun h1 h2 => h1.trans h2) ?hKb (Below.refl _ _) (fun _ => rfl)
      (fun pk wr => (pk.map (·.val) = downTo t.ks.length pk.length ∧ pk.length ≤ t.ks.length) ∧ FaI w₀ X l J pre W w3 (pk.flatMap fun i => fallE n t.ks[i.val]) wr)
      (FaI.ownM (P := fun pk : List (Fin t.ks.length) => pk.map (·.val) = downTo t.ks.length pk.length ∧ pk.length ≤ t.ks.length) (f := fun pk => pk.flatMap fun i => fallE n t.ks[i.val]) hJ hbs hB hW3) (FaI.absK (P := fun pk : List (Fin t.ks.length) => pk.map (·.val) = downTo t.ks.length pk.length ∧ pk.length ≤ t.ks.length) (f := fun pk => pk.flatMap fun i => fallE n t.ks[i.val]) hJk hbs hB hW3)
      ?h0 (fun x => .cells #[.pointer (some ⟨t.ks[x.val].a, 0, none⟩)] 63) (fun _ => rfl) ?hKa
      (fun x bx => ⟨#[.agg #[.pointer (some ⟨t.a, 0, none⟩)], .func (.yield l) #[] #[], .pointer (some ⟨W.heap.size, 0, none⟩), .pointer (some ⟨W.heap.size + 1, 0, none⟩), .pointer (some ⟨W.heap.size + 1 + 1, 0, none⟩), undef, .pointer (some ⟨bx, 0, none⟩), .agg #[.pointer (some ⟨t.a, 0, none⟩)], .slice (some ⟨kb, 0, none⟩) t.ks.length t.ks.length, .func (.func 66) #[] #[.pointer (some ⟨Bs, 0, none⟩)], .int .i64 ((x.val : Nat) : Int), .agg #[.pointer (some ⟨t.ks[x.val].a, 0, none⟩)], undef, undef, undef, undef, undef, undef, undef], []⟩) ?assign ?body ?done
    case hKb =>
      intro W' l' o o' hl' h1 h2
      exact ⟨World.putObj_heap_other (fun e => by have := lt_of_heap HE3.out.2.1; omega), World.putObj_heap_other (fun e => by have := lt_of_heap HE3.out.1; omega)⟩
    case hKa =>
      intro W' x hle
      exact ⟨Below.heap_alloc _ _ _ (by have := lt_of_heap HE3.out.2.1; omega), Below.heap_alloc _ _ _ (by have := lt_of_heap HE3.out.1; omega)⟩
    case h0 => exact ⟨⟨rfl, Nat.zero_le _⟩, h03, ⟨(Below.refl _ _), fun b cs ty _ _ _ => rfl⟩, keepsFrom_below h3, [], rfl, hJ3⟩
    case assign =>
      intro l' m x W' K hK
      dsimp only [encK, nodeV]
      gi_wp2
      exact hK
    case body =>
      rintro l' m pk x W' hsz' ⟨⟨hpk, hpl⟩, hI'⟩ ⟨hok, hok2⟩ bx hbx hbox
      obtain ⟨ys, hy1, hy2⟩ := hI'.got
      have hcm : (t.ks[x.val]'x.isLt) ∈ t.ks := List.getElem_mem x.isLt
      have hpk' : (pk ++ [x]).map (·.val) = downTo t.ks.length (pk ++ [x]).length := by
        rw [List.map_append, hpk, List.length_append, List.length_singleton, downTo_succ, List.map_singleton, hok]
      have hpl' : (pk ++ [x]).length ≤ t.ks.length := by simp; omega
      have hfl := down_flat (fallE n) t.ks (pk ++ [x]) hpk' hpl'
      have hpre : (pre ++ ys).map (·.1) ++ fallE n (t.ks[x.val]'x.isLt) <+: es := by
        refine List.IsPrefix.trans ?_ hp
        rw [List.map_append, hy1, List.append_assoc]
        refine (List.prefix_append_right_inj _).2 (List.IsPrefix.trans ?_ (List.prefix_append _ _))
        have h1 : pk.flatMap (fun i => fallE n (t.ks[i.val]'i.isLt)) ++ fallE n (t.ks[x.val]'x.isLt) = (pk ++ [x]).flatMap fun i => fallE n (t.ks[i.val]'i.isLt) := by simp
        rw [h1, hfl]
        exact take_flat_pre _ _ _
      have f3 : W'.heap[W.heap.size + 1]? = some (.cells #[.func (.yield l) #[] #[]] 59) := (hI'.kp.kept _ _ _ HE3.out.2.2.2.1 (.inr (.inr (.inr (.inl rfl)))) (hnx _ (by omega))).trans HE3.out.2.2.2.1
      have cy : W'.cell? ⟨W.heap.size + 1, 0, none⟩ = some (.func (.yield l) #[] #[]) := by rw [cell_of_blk f3]; rfl
      have cb : W'.cell? ⟨bx, 0, none⟩ = some (.pointer (some ⟨(t.ks[x.val]'x.isLt).a, 0, none⟩)) := by rw [cell_of_blk hbox]; rfl
      have HIH := ih (t.ks[x.val]'x.isLt) (pre ++ ys) W' (HT.out.2.2 _ hcm) (HT.out.2.1.kids' _ hcm) (HT.out.1.sub' _ hcm) hI'.base (by omega) hy2 hpre
      unfold nodeV at HIH
      have HI' : Hid (FaI w₀ X l J pre W w3 (pk.flatMap fun i => fallE n (t.ks[i.val]'i.isLt)) W') := hI'
      have HYS : Hid (ys.map (·.1) = pk.flatMap fun i => fallE n (t.ks[i.val]'i.isLt)) := hy1
      have HPK : Hid ((pk ++ [x]).map (·.val) = downTo t.ks.length (pk ++ [x]).length ∧ (pk ++ [x]).length ≤ t.ks.length) := ⟨hpk', hpl'⟩
      clear hI' hy1 hy2 hfl hpre f3 hbox hcB hcM hok hok2 hpk hpl hpk' hpl'
      gi_wp2_with fail
      refine ⟨trivial, (fun h => by cases h), ?_⟩
      refine (CallsIn.inRound l' (callsIn_wide.2 HIH)).mono ?_
      clear HIH
      rintro e w8 ⟨rfl, zs, hz1, hz2, hk8, hf8⟩
      have HR : Hid (KeepsFrom w3.heap.size W' w8 ∧ Kept2 kb Bs W' w8 ∧ ((pk ++ [x]).map (·.val) = downTo t.ks.length (pk ++ [x]).length ∧ (pk ++ [x]).length ≤ t.ks.length) ∧ FaI w₀ X l J pre W w3 ((pk ++ [x]).flatMap fun i => fallE n (t.ks[i.val]'i.isLt)) w8) := by
        refine ⟨⟨hf8.size, fun k o hk ho hc => hf8.same k o (by omega) ho hc⟩, ⟨?_, ?_⟩, HPK.out, HI'.out.base.trans hk8.below, HI'.out.kp.trans hk8, HI'.out.kf.trans hf8, ys ++ zs, ?_, ?_⟩
        · have h1 := (HI'.out.kp.kept _ _ _ HE3.out.2.1 (.inl rfl) (hnx _ hkbW)).trans HE3.out.2.1
          exact hk8.kept _ _ _ h1 (.inl rfl) (hnx _ hkbW)
        · have h1 := (HI'.out.kp.kept _ _ _ HE3.out.1 (.inr (.inr (.inr (.inr (.inr rfl))))) (hnx _ hBW)).trans HE3.out.1
          exact hk8.kept _ _ _ h1 (.inr (.inr (.inr (.inr (.inr rfl))))) (hnx _ hBW)
        · rw [List.map_append, HYS.out, hz1]; simp
        · rw [← List.append_assoc]; exact hz2
      clear hz1 hz2 hk8 hf8 cy cb
      gi_wp2
      exact HR.out
    case done =>
      rintro D xs W' hD hS ⟨⟨hpk, hpl⟩, hI'⟩ hK
      obtain ⟨ys, hy1, hy2⟩ := hI'.got
      have hy0 : ys.map (·.1) = t.ks.reverse.flatMap (fallE n) := by
        have hxl : xs.length = t.ks.length := by have := congrArg List.length hS; simpa [downTo_length] using this
        rw [hy1, down_flat (fallE n) t.ks xs hpk hpl, hxl, List.take_of_length_le (by simp)]
      clear hy1
      have hy1 := hy0
      clear hy0
      have f2 : W'.heap[W.heap.size]? = some (.cells #[.pointer (some ⟨t.a, 0, none⟩)] 63) := (hI'.kp.kept _ _ _ HE3.out.2.2.1 (.inl rfl) (hnx _ (Nat.le_refl _))).trans HE3.out.2.2.1
      have f3 : W'.heap[W.heap.size + 1]? = some (.cells #[.func (.yield l) #[] #[]] 59) := (hI'.kp.kept _ _ _ HE3.out.2.2.2.1 (.inr (.inr (.inr (.inl rfl)))) (hnx _ (by omega))).trans HE3.out.2.2.2.1
      have f4 : W'.heap[W.heap.size + 1 + 1]? = some (.cells #[.bool false] 4) := (hI'.kp.kept _ _ _ HE3.out.2.2.2.2 (.inr (.inr (.inr (.inr (.inl rfl))))) (hnx _ (by omega))).trans HE3.out.2.2.2.2
      have c2 : W'.cell? ⟨W.heap.size, 0, none⟩ = some (.pointer (some ⟨t.a, 0, none⟩)) := by rw [cell_of_blk f2]; rfl
      have cy : W'.cell? ⟨W.heap.size + 1, 0, none⟩ = some (.func (.yield l) #[] #[]) := by rw [cell_of_blk f3]; rfl
      have HG := giveF_calls l w₀.heap.size X es J Jx (ownFrom_abs hJ) hN hY t (pre ++ ys) W' hI'.base.size (HT.out.1.keep hI'.base) hy2 (by rw [List.map_append, hy1, List.append_assoc]; exact hp)
      unfold nodeV at HG
      have HI' : Hid (FaI w₀ X l J pre W w3 (xs.flatMap fun i => fallE n t.ks[i.val]) W' ∧ W'.heap[D]? = some (.deferred (some [])) ∧ W'.heap[W.heap.size + 1 + 1]? = some (.cells #[.bool false] 4) ∧ ys.map (·.1) = t.ks.reverse.flatMap (fallE n)) := ⟨hI', hK, f4, hy1⟩
      clear hI' hy1 hy2 f2 f3 f4 hK hcB hcM hS hpk hpl
      go_wp2_with fail
      refine HG.mono ?_
      clear HG
      rintro e w8 ⟨rfl, zs, hz1, hz2, hk8, hf8⟩
      have b8 : w8.heap[W.heap.size + 1 + 1]? = some (.cells #[.bool false] 4) := (hk8.kept _ _ _ HI'.out.2.2.1 (.inr (.inr (.inr (.inr (.inl rfl))))) (hnx _ (by omega))).trans HI'.out.2.2.1
      have c8 : w8.cell? ⟨W.heap.size + 1 + 1, 0, none⟩ = some (.bool false) := by rw [cell_of_blk b8]; rfl
      have z8 : w8.frozen? ⟨W.heap.size + 1 + 1, 0, none⟩ = false := frozen_of_blk b8
      have H8 : Hid (zs.map (·.1) = ownE t ∧ J (pre ++ ys ++ zs) w8 ∧ Kp w₀.heap.size X W' w8 ∧ KeepsFrom (l + 1) W' w8 ∧ w8.heap[W.heap.size + 1 + 1]? = some (.cells #[.bool false] 4)) := ⟨hz1, hz2, hk8, hf8, b8⟩
      clear hz1 hz2 hk8 hf8 b8 c2 cy
      go_wp2_with fail
      have hDl : l + 1 ≤ D := by omega
      have d8 : w8.heap[D]? = some (.deferred (some [])) := H8.out.2.2.2.1.same D _ hDl HI'.out.2.1 rfl
      have hDne : D ≠ W.heap.size + 1 + 1 := fun e => by have h1 := H8.out.2.2.2.2; rw [← e, d8] at h1; cases h1
      have d9 : (w8.setCell ⟨W.heap.size + 1 + 1, 0, none⟩ (.bool true)).heap[D]? = some (.deferred (some [])) := (heap_setCell_other _ _ _ _ (fun e => hDne e)).trans d8
      refine ⟨by simp, .inl ⟨_, _, rfl, run_takeDeferred d9, ?_⟩⟩
      have b9 : (w8.setCell ⟨W.heap.size + 1 + 1, 0, none⟩ (.bool true)).heap[W.heap.size + 1 + 1]? = some (.cells #[.bool true] 4) := by rw [setCell_blk H8.out.2.2.2.2]; rfl
      have b10 : ((w8.setCell ⟨W.heap.size + 1 + 1, 0, none⟩ (.bool true)).putObj D (.deferred none)).heap[W.heap.size + 1 + 1]? = some (.cells #[.bool true] 4) := (World.putObj_heap_other (fun e => hDne e.symm)).trans b9
      refine ⟨_, results_cellF rfl rfl (load_truthF b10), rfl, ys ++ zs, ?_, ?_, ?_, ?_⟩
      · rw [List.map_append, HI'.out.2.2.2, H8.out.1]
      · rw [← List.append_assoc]
        exact hJ.putObj _ (hJk _ _ _ _ _ _ _ H8.out.2.1 (by omega) H8.out.2.2.2.2 (.inr (.inr (.inr (.inr (.inl rfl)))))) (by omega) d9 rfl
      · have hKp : Kp w₀.heap.size X W w8 := ((Kp.ofBelow h3 hbs).trans HI'.out.1.kp).trans H8.out.2.2.1
        have hg := grownBy_putObj' (w8.setCell ⟨W.heap.size + 1 + 1, 0, none⟩ (.bool true)) D (.deferred none)
        refine ⟨(hKp.below.setCell (p := ⟨W.heap.size + 1 + 1, 0, none⟩) (by show w₀.heap.size ≤ W.heap.size + 1 + 1; omega) _).grown hg (by rw [size_setCell'']; exact Nat.le_trans hbs hKp.below.size) (fun k e => by cases e; omega), fun b cs ty hbb hty hx => ?_⟩
        have hlt := lt_of_heap hbb
        exact ((World.putObj_heap_other (by omega)).trans (heap_setCell_other _ _ _ _ (fun e => by have e' : b = W.heap.size + 1 + 1 := e; omega))).trans (hKp.kept b cs ty hbb hty hx)
      · have hKf : KeepsFrom (l + 1) W w8 := HI'.out.1.kf.trans H8.out.2.2.2.1
        refine ⟨Nat.le_trans hKf.size (by rw [← size_setCell'' w8 ⟨W.heap.size + 1 + 1, 0, none⟩ (.bool true)]; exact (grownBy_putObj' _ _ _).size), fun k o hk ho hc => ?_⟩
        have hlt := lt_of_heap ho
        exact ((World.putObj_heap_other (by omega)).trans (heap_setCell_other _ _ _ _ (fun e => by have e' : k = W.heap.size + 1 + 1 := e; omega))).trans (hKf.same k o hk ho hc)

set_option maxRecDepth 100000 in
set_option maxHeartbeats 2000000 in
theorem back1_calls (w₀ : World) (tb : Nat) (T : Tr) (ne : Int) (d : Nat) (hT : Tin w₀ tb T ne d) (l B0 : Nat) (X : Nat → Prop) (es : List En) (J Jx : List (El es) → World → Prop) (hJ : OwnM B0 J) (hJk : AbsK B0 J) (hN : ∀ xs W, ¬ Jx xs W) (hY : YOk l w₀.heap.size X es J Jx) (hX : ∀ b, X b → b < B0) (hl : l < B0)
    (Bt : Nat) (W : World) (hb : Below w₀.heap.size w₀ W) (hB : B0 ≤ W.heap.size) (ht : W.cell? ⟨Bt, 0, none⟩ = some (.pointer (some ⟨tb, 0, none⟩))) (hj : J [] W) (hp : fallE (d + 1) T <+: es) :
    Calls Try.prog 22 #[.func (.yield l) #[] #[], .pointer (some ⟨Bt, 0, none⟩)] W fun e W' => (∃ v, e = .returned v) ∧ ∃ ys : List (El es), ys.map (·.1) = fallE (d + 1) T ∧ J ys W' := by
  have HR := root_calls tb T ne W (hT.tree.keep hb)
  have HFA := fun (W2 : World) (h2 : Below W.heap.size W W2) => fall_calls w₀ l B0 X es J Jx hJ hJk hN hY hX hl (d + 1) T [] W2 hT.dep hT.wf hT.tree.tat (hb.trans (h2.mono hb.size)) (Nat.le_trans hB h2.size) (ownFrom_abs hJ _ _ _ hj h2) (by simpa using hp)
  unfold nodeV at HR HFA
  clear hj hp hY hJ
  go_enter Try.func22, Try.ntmps22
  go_wp2_with fail
  refine HR.mono ?_
  clear HR
  rintro e w2 ⟨rfl, hb2⟩
  have HF := HFA w2 hb2
  clear HFA hb2
  go_wp2_with fail
  refine HF.mono ?_
  clear HF
  rintro e w3 ⟨rfl, ys, hy1, hy2, -, -⟩
  have HRES : Hid (∃ ys : List (El es), ys.map (·.1) = fallE (d + 1) T ∧ J ys w3) := ⟨ys, hy1, by simpa using hy2⟩
  clear hy1 hy2
  go_wp2_with fail
  go_end0
  exact ⟨⟨_, rfl⟩, HRES.out⟩
theorem back_seqT (w₀ : World) (tb : Nat) (T : Tr) (ne : Int) (d : Nat) (hT : Tin w₀ tb T ne d) (X : Nat → Prop) (Bt : Nat) (w : World) (hb : Below w₀.heap.size w₀ w) (hX : ∀ b, X b → b < w.heap.size) (ht : w.cell? ⟨Bt, 0, none⟩ = some (.pointer (some ⟨tb, 0, none⟩))) :
    SeqN (Kp w₀.heap.size X) 22 #[.pointer (some ⟨Bt, 0, none⟩)] (encE (fallE (d + 1) T)) (fun ys => ys.map (·.1) = fallE (d + 1) T) (fun pre x => (pre ++ [x]).map (·.1) <+: fallE (d + 1) T) w := fun l J Jx W hW hlt hJ hJx hJk hN hY h0 =>
  back1_calls w₀ tb T ne d hT l W.heap.size X _ J Jx hJ hJk hN hY (fun b h => Nat.lt_of_lt_of_le (hX b h) hW.size) hlt Bt W (hb.trans (hW.mono hb.size)) (Nat.le_refl _) (by rw [hW.cell (World.block_lt_of_cell? w _ ht)]; exact ht) h0 (List.prefix_refl _)
theorem back_calls (ao : Option Addr) (w : World) :
    Calls Try.prog 8 #[.pointer ao] w fun e w' => e = .returned (.func (.func 22) #[] #[.pointer (some ⟨w.heap.size, 0, none⟩)]) ∧ w' = w.alloc (.cells #[.pointer ao] 24) := by
  have hmf : ∀ (fn : Fn) (first cap : Array Value) (w : World), (Instr.makeFunc fn first cap).run Try.prog w = .ok (.func fn first cap) w := fun _ _ _ _ => rfl
  go_enter Try.func8, Try.ntmps8
  go_wp2
  go_ret
  exact ⟨rfl, rfl⟩
end Go.Proofs.Ytnmndjplbcpglaa
