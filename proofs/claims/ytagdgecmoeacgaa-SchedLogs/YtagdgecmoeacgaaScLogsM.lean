/- Layer 17 (sched): what the law on logs keeps between its steps. -/
import Derived.Test.YtagdgecmoeacgaaScPlaysL
import Derived.Test.YtagdgecmoeacgaaScDoneM
namespace Go.Proofs.Ytagdgecmoeacgaa
open Go.RowKit
set_option linter.unusedVariables false
variable {S S' : Nat → Prop}

/-! ### plain -/
/-- A job of the law: from the beginning, at most fifteen steps. -/
def clJ (j : Int × Int) : Int × Int := (0, min j.2 15)
def clK (js : List (Int × Int)) (k : Nat) : List (Int × Int) := (js.take k).map clJ ++ js.drop k
theorem clK_zero (js : List (Int × Int)) : clK js 0 = js := by simp [clK]
theorem clK_all {js : List (Int × Int)} {k : Nat} (h : js.length ≤ k) : clK js k = js.map clJ := by
  unfold clK
  rw [List.take_of_length_le h, List.drop_of_length_le h, List.append_nil]
theorem clK_length (js : List (Int × Int)) (k : Nat) : (clK js k).length = js.length := by
  unfold clK
  simp only [List.length_append, List.length_map, List.length_take, List.length_drop]
  omega
theorem clK_at {js : List (Int × Int)} {k : Nat} (hk : k < js.length) : (clK js k)[k]'(by rw [clK_length]; exact hk) = js[k] := by
  unfold clK
  rw [List.getElem_append_right (by simp; omega)]
  simp [show min k js.length = k by omega]
theorem clK_succ {js : List (Int × Int)} {k : Nat} (hk : k < js.length) : (clK js k).set k (clJ js[k]) = clK js (k + 1) := by
  have hl : ((js.take k).map clJ).length = k := by rw [List.length_map, List.length_take]; omega
  unfold clK
  rw [List.set_append_right _ _ (by omega), hl, Nat.sub_self, List.drop_eq_getElem_cons hk, List.set_cons_zero, List.take_succ_eq_append_getElem hk, List.map_append, List.append_assoc]
  rfl
theorem jobC_set0 : ∀ (js : List (Int × Int)) (k : Nat) (h : k < js.length) (x : Int), (jobC js).set (k * 2) (.int .i64 x) = jobC (js.set k (x, js[k].2))
  | j :: js, 0, _, x => rfl
  | j :: js, k + 1, h, x => by
    have ih := jobC_set0 js k (by simpa using h) x
    have e : jobC (j :: js) = .int .i64 j.1 :: .int .i64 j.2 :: jobC js := rfl
    rw [e, show (k + 1) * 2 = (k * 2 + 1) + 1 by omega, List.set_cons_succ, List.set_cons_succ, ih]
    rfl
theorem jobC_set1 : ∀ (js : List (Int × Int)) (k : Nat) (h : k < js.length) (x : Int), (jobC js).set (k * 2 + 1) (.int .i64 x) = jobC (js.set k (js[k].1, x))
  | j :: js, 0, _, x => rfl
  | j :: js, k + 1, h, x => by
    have ih := jobC_set1 js k (by simpa using h) x
    have e : jobC (j :: js) = .int .i64 j.1 :: .int .i64 j.2 :: jobC js := rfl
    rw [e, show (k + 1) * 2 + 1 = (k * 2 + 1 + 1) + 1 by omega, List.set_cons_succ, List.set_cons_succ, ih]
    rfl
theorem OwJ.set0 {w : World} {B g n cap : Nat} {js : List (Int × Int)} (h : OwJ w B (.slice (some ⟨g, 0, none⟩) n cap) js) (k : Nat) (hk : k < js.length) (x : Int) : OwJ (w.setCell ⟨g, k * 2, none⟩ (.int .i64 x)) B (.slice (some ⟨g, 0, none⟩) n cap) (js.set k (x, js[k].2)) := by
  have hn : n = js.length := by
    obtain ⟨a, c, e⟩ := h.shape
    simp only [Value.slice.injEq] at e; exact e.2.1
  subst hn
  have h1 := (World.ownsRow.stored h (k * 2) (.int .i64 x)).1
  rw [jobC_set0 js k hk] at h1
  unfold OwJ
  rw [List.length_set]
  exact h1
theorem OwJ.set1 {w : World} {B g n cap : Nat} {js : List (Int × Int)} (h : OwJ w B (.slice (some ⟨g, 0, none⟩) n cap) js) (k : Nat) (hk : k < js.length) (x : Int) : OwJ (w.setCell ⟨g, k * 2 + 1, none⟩ (.int .i64 x)) B (.slice (some ⟨g, 0, none⟩) n cap) (js.set k (js[k].1, x)) := by
  have hn : n = js.length := by
    obtain ⟨a, c, e⟩ := h.shape
    simp only [Value.slice.injEq] at e; exact e.2.1
  subst hn
  have h1 := (World.ownsRow.stored h (k * 2 + 1) (.int .i64 x)).1
  rw [jobC_set1 js k hk] at h1
  unfold OwJ
  rw [List.length_set]
  exact h1
theorem OwJ.at {w : World} {B : Nat} {ao : Option Addr} {n cap : Nat} {js : List (Int × Int)} (h : OwJ w B (.slice ao n cap) js) (k : Nat) (hk : k < js.length) :
    ∃ g, ao = some ⟨g, 0, none⟩ ∧ B ≤ g ∧ w.cell? ⟨g, k * 2, none⟩ = some (.int .i64 js[k].1) ∧ w.cell? ⟨g, k * 2 + 1, none⟩ = some (.int .i64 js[k].2) ∧ w.frozen? ⟨g, k * 2, none⟩ = false ∧ w.frozen? ⟨g, k * 2 + 1, none⟩ = false := by
  have hc := jobC_at js k hk
  rcases h.2 with ⟨he, h0⟩ | ⟨g, cap', cur, he, hb, _⟩
  · omega
  · simp only [Value.slice.injEq] at he
    obtain ⟨rfl, rfl, rfl⟩ := he
    exact ⟨g, rfl, hb, by rw [World.ownsRow.cellAt h (k * 2) (by omega)]; exact hc.1, by rw [World.ownsRow.cellAt h (k * 2 + 1) (by omega)]; exact hc.2, World.ownsRow.frozenAt h _, World.ownsRow.frozenAt h _⟩
/-- What two runs of a log do, one behind the other. -/
theorem two_runs {mx : Nat} (hm : 400 ≤ mx) {s : St} {G : List Nat} {f : Nat} (h0 : s.D = []) (hG : (runR mx s).D = G) (hend : (rdyP (runR mx s).ws (runR mx s).D).count true = 0) (hf : f ≤ 400) :
    (runR mx (runR f s)).D = G ∧ (runR f s).D.length ≤ f ∧ (runR f s).D.length ≤ G.length ∧ ((runR f s).D.length < f → (runR f s).D.length = G.length) := by
  have e : runR mx (runR f s) = runR mx s := by
    rw [← runR_add]
    exact runR_stop (by omega) hend
  have hl := runR_len f s
  rw [h0] at hl
  have hmono : ∀ (k : Nat) (t : St), t.D.length ≤ (runR k t).D.length := by
    intro k
    induction k with
    | zero => intro t; exact Nat.le_refl _
    | succ k ih =>
      intro t
      show _ ≤ (runR k (stepR t)).D.length
      have h1 := ih (stepR t)
      have h2 : t.D.length ≤ (stepR t).D.length := by unfold stepR; split <;> simp
      omega
  refine ⟨by rw [e, hG], by simpa using hl, by rw [← hG, ← e]; exact hmono _ _, fun hlt => ?_⟩
  rcases run_len f s with h1 | h1
  · rw [h0] at h1; simp at h1; omega
  · rw [← hG, runR_stop (by omega : f ≤ mx) h1]
theorem sum15 (js : List (Int × Int)) : sumW (js.map clJ) ≤ js.length * 15 := by
  induction js with
  | nil => simp [sumW]
  | cons j js ih =>
    simp only [sumW, List.map_cons, List.sum_cons, List.length_cons] at ih ⊢
    have : (clJ j).2.toNat ≤ 15 := by show (min j.2 15).toNat ≤ 15; omega
    omega
/-- The law's play is whole within so many steps. -/
theorem end800 {mx : Nat} (hm : 300 < mx) {ps : List Int} {b : Int} {js : List (Int × Int)} (hl : js.length ≤ 20) {s : St} (hs : erS s = st0 ps b (js.map clJ)) :
    (runR mx s).D = playP ps b (js.map clJ) mx ∧ (rdyP (runR mx s).ws (runR mx s).D).count true = 0 ∧ (playP ps b (js.map clJ) mx).length ≤ 300 := by
  have h15 := sum15 js
  obtain ⟨h1, -, h3⟩ := play_all (ps := ps) (b := b) (js := js.map clJ) (mx := mx) (fun j hj => by
    obtain ⟨i, _, rfl⟩ := List.mem_map.1 hj
    exact Int.le_refl 0) (by omega)
  refine ⟨play_eq hs mx, ?_, by omega⟩
  have he := runR_er mx s
  rw [hs] at he
  rw [he] at h3
  have := rdyP_er (runR mx s).ws (runR mx s).D
  unfold erS at h3
  dsimp only at h3
  rw [this] at h3
  exact h3

/-! ### in memory -/
theorem newLog_callsF (w : World) : Calls Try.prog 10 #[] w fun e w' => e = .returned (.pointer (some ⟨w.heap.size, 0, none⟩)) ∧ LgF w' (fun k => k = w.heap.size) w.heap.size [] [] (.slice none 0 0) ∧ Below w.heap.size w w' := by
  have HZ : Hid (LgF (w.alloc (.cells #[.int .i64 0, .slice none 0 0] 55)) (fun k => k = w.heap.size) w.heap.size [] [] (.slice none 0 0) ∧ Below w.heap.size w (w.alloc (.cells #[.int .i64 0, .slice none 0 0] 55))) :=
    ⟨⟨heap_alloc_new w _, Ow.nil _ _ _, fun i x hx => (by simp at hx), rfl, fun k hk => (by cases hk), fun x hx => (by cases hx), fun k hk => by subst hk; simp [World.size_alloc]⟩, (Below.refl _ _).alloc (Nat.le_refl _) _⟩
  go_enter Try.func10, Try.ntmps10
  go_wp2
  go_ret
  exact ⟨rfl, HZ.out.1, HZ.out.2⟩
/-! ### the region that makes the log and the chooser -/
/-- The log's block and the chooser's blocks are apart. -/
def LcI (B : Nat) (c : Ch) (v0 v7 : Value) (W : World) : Prop :=
  ∃ lb cb S2, v0 = .pointer (some ⟨lb, 0, none⟩) ∧ v7 = .pointer (some ⟨cb, 0, none⟩) ∧ LgAt W (fun k => k = lb) lb [] [] ∧ ChAt W S2 cb c ∧ (∀ k, S2 k → B ≤ k) ∧ B ≤ lb ∧ ¬ S2 lb
theorem LcI.more {B : Nat} {c : Ch} {v0 v7 : Value} {W W' : World} (h : LcI B c v0 v7 W) (hb : Below W.heap.size W W') : LcI B c v0 v7 W' := by
  obtain ⟨lb, cb, S2, h1, h2, h3, h4, r⟩ := h
  exact ⟨lb, cb, S2, h1, h2, h3.below hb, h4.below hb, r⟩
def LbI (B : Nat) (v0 : Value) (W : World) : Prop := ∃ lb, v0 = .pointer (some ⟨lb, 0, none⟩) ∧ B ≤ lb ∧ LgAt W (fun k => k = lb) lb [] []
theorem LbI.more {B : Nat} {v0 : Value} {W W' : World} (h : LbI B v0 W) (hb : Below W.heap.size W W') : LbI B v0 W' := by
  obtain ⟨lb, h1, h2, h3⟩ := h
  exact ⟨lb, h1, h2, h3.below hb⟩
structure JL (w : World) (c : Ch) (ls : Nat → Bool) (vs : Nat → Value) (W : World) : Prop where
  below : Below w.heap.size w W
  h4 : ls 4 = true → ls 0 = true ∧ LbI w.heap.size (vs 0) W
  h7 : ls 7 = true → ls 0 = true ∧ LcI w.heap.size c (vs 0) (vs 7) W
  h8 : ls 8 = true → ls 0 = true ∧ vs 8 = vs 0
  h9 : ls 9 = true → ls 7 = true ∧ vs 9 = vs 7
section
variable {i : Nat} {w W W' : World} {c : Ch} {ls : Nat → Bool} {vs : Nat → Value} {v : Value}
theorem JL.next0 (h : JL w c ls vs W) (hi : i < 7) (hi4 : i ≠ 4) (hl : ls i = false) (hb : Below W.heap.size W W') : JL w c (updB ls i) (updV vs i v) W' := by
  have n4 : updB ls i 4 = ls 4 := by unfold updB; rw [if_neg (by omega)]
  have n7 : updB ls i 7 = ls 7 := by unfold updB; rw [if_neg (by omega)]
  have n8 : updB ls i 8 = ls 8 := by unfold updB; rw [if_neg (by omega)]
  have n9 : updB ls i 9 = ls 9 := by unfold updB; rw [if_neg (by omega)]
  have m7 : updV vs i v 7 = vs 7 := by unfold updV; rw [if_neg (by omega)]
  have m8 : updV vs i v 8 = vs 8 := by unfold updV; rw [if_neg (by omega)]
  have m9 : updV vs i v 9 = vs 9 := by unfold updV; rw [if_neg (by omega)]
  have n0 : ls 0 = true → updB ls i 0 = true ∧ updV vs i v 0 = vs 0 := fun h0 => by
    have hne : (0 : Nat) ≠ i := fun e => by rw [← e, h0] at hl; cases hl
    unfold updB updV
    rw [if_neg hne, if_neg hne]
    exact ⟨h0, rfl⟩
  refine ⟨h.below.trans (hb.mono h.below.size), fun k => ?_, fun k => ?_, fun k => ?_, fun k => ?_⟩
  · rw [n4] at k
    obtain ⟨a, b⟩ := h.h4 k
    obtain ⟨c1, c2⟩ := n0 a
    rw [c2]
    exact ⟨c1, b.more hb⟩
  · rw [n7] at k
    obtain ⟨a, b⟩ := h.h7 k
    obtain ⟨c1, c2⟩ := n0 a
    rw [m7, c2]
    exact ⟨c1, b.more hb⟩
  · rw [n8] at k
    obtain ⟨a, b⟩ := h.h8 k
    obtain ⟨c1, c2⟩ := n0 a
    rw [m8, c2]
    exact ⟨c1, b⟩
  · rw [n9] at k
    obtain ⟨a, b⟩ := h.h9 k
    rw [m9, m7, n7]
    exact ⟨a, b⟩
theorem JL.next4 (h : JL w c ls vs W) (h0 : ls 0 = true) (hb : Below W.heap.size W W') (hc : LbI w.heap.size (vs 0) W) : JL w c (updB ls 4) (updV vs 4 v) W' :=
  ⟨h.below.trans (hb.mono h.below.size), fun _ => ⟨h0, hc.more hb⟩, fun k => ⟨(h.h7 k).1, (h.h7 k).2.more hb⟩, fun k => h.h8 k, fun k => h.h9 k⟩
theorem JL.next7 (h : JL w c ls vs W) (hl : ls 7 = false) (h0 : ls 0 = true) (hb : Below W.heap.size W W') (hc : LcI w.heap.size c (vs 0) v W') : JL w c (updB ls 7) (updV vs 7 v) W' := by
  refine ⟨h.below.trans (hb.mono h.below.size), fun k => ⟨(h.h4 k).1, (h.h4 k).2.more hb⟩, fun _ => ⟨h0, hc⟩, fun k => h.h8 k, fun k => ?_⟩
  have := (h.h9 k).1
  rw [hl] at this; cases this
theorem JL.next8 (h : JL w c ls vs W) (hv : v = vs 0) (h0 : ls 0 = true) : JL w c (updB ls 8) (updV vs 8 v) W :=
  ⟨h.below, fun k => h.h4 k, fun k => h.h7 k, fun _ => ⟨h0, hv⟩, fun k => h.h9 k⟩
theorem JL.next9 (h : JL w c ls vs W) (hv : v = vs 7) (h7 : ls 7 = true) : JL w c (updB ls 9) (updV vs 9 v) W :=
  ⟨h.below, fun k => h.h4 k, fun k => h.h7 k, fun k => h.h8 k, fun _ => ⟨h7, hv⟩⟩
end
/-- What each operation of it leaves. -/
def R15 (B g : Nat) (ao : Option Addr) (pn pc : Nat) (bound : Int) (ps : List Int) (j : Nat) (v : Value) (W : World) : Prop :=
  match j with
  | 0 => LbI B v W
  | 1 => ∃ h, v = .slice (some ⟨h, 0, none⟩) 0 0 ∧ B ≤ h ∧ W.heap[h]? = some (.cells #[] 3)
  | 2 => v = .pointer (some ⟨g, 1, none⟩)
  | 3 => v = .slice ao pn pc
  | 4 => ∃ ao2 c2, v = .slice ao2 pn c2 ∧ VAt W ao2 (ps.map iV) ∧ (ao2 = none → c2 = 0 ∧ pn = 0)
  | 5 => v = .pointer (some ⟨g, 2, none⟩)
  | 6 => v = .int .i64 bound
  | _ => True
theorem R15.mono {B g : Nat} {ao : Option Addr} {pn pc : Nat} {bound : Int} {ps : List Int} {j : Nat} {v : Value} {W W' : World} (h : R15 B g ao pn pc bound ps j v W) (hb : Below W.heap.size W W') : R15 B g ao pn pc bound ps j v W' := by
  match j, h with
  | 0, h => exact LbI.more h hb
  | 1, ⟨q, h1, h2, h3⟩ => exact ⟨q, h1, h2, (hb.block _ (lt_of_heapT h3)).trans h3⟩
  | 2, h => exact h
  | 3, h => exact h
  | 4, ⟨a, c, h1, h2, h3⟩ => exact ⟨a, c, h1, h2.below hb, h3⟩
  | 5, h => exact h
  | 6, h => exact h
  | n + 7, h => exact h
/-- What each operation of the region leaves that plays the document's play. -/
def R27 (B g : Nat) (jv : Value) (ao : Option Addr) (pn pc : Nat) (bound : Int) (ps : List Int) (gn : Nat) (G : List Nat) (j : Nat) (v : Value) (W : World) : Prop :=
  match j with
  | 0 => v = jv
  | 1 => ∃ h, v = .slice (some ⟨h, 0, none⟩) 0 0 ∧ B ≤ h ∧ W.heap[h]? = some (.cells #[] 3)
  | 2 => v = .pointer (some ⟨g, 1, none⟩)
  | 3 => v = .slice ao pn pc
  | 4 => ∃ ao2 c2, v = .slice ao2 pn c2 ∧ VAt W ao2 (ps.map iV) ∧ (ao2 = none → c2 = 0 ∧ pn = 0)
  | 5 => v = .pointer (some ⟨g, 2, none⟩)
  | 6 => v = .int .i64 bound
  | 7 => ∃ qo qc, v = .slice qo gn qc ∧ Ow W B 3 (.slice qo gn qc) (G.map nV)
  | 8 => ∃ qo qc, v = .slice qo gn qc ∧ Ow W B 3 (.slice qo gn qc) (G.map nV)
  | _ => True
theorem R27.mono {B g : Nat} {jv : Value} {ao : Option Addr} {pn pc : Nat} {bound : Int} {ps : List Int} {gn : Nat} {G : List Nat} {j : Nat} {v : Value} {W W' : World} (h : R27 B g jv ao pn pc bound ps gn G j v W) (hb : Below W.heap.size W W') : R27 B g jv ao pn pc bound ps gn G j v W' := by
  match j, h with
  | 0, h => exact h
  | 1, ⟨q, h1, h2, h3⟩ => exact ⟨q, h1, h2, (hb.block _ (lt_of_heapT h3)).trans h3⟩
  | 2, h => exact h
  | 3, h => exact h
  | 4, ⟨a, c, h1, h2, h3⟩ => exact ⟨a, c, h1, h2.below hb, h3⟩
  | 5, h => exact h
  | 6, h => exact h
  | 7, ⟨a, c, h1, h2⟩ => exact ⟨a, c, h1, h2.below hb⟩
  | 8, ⟨a, c, h1, h2⟩ => exact ⟨a, c, h1, h2.below hb⟩
  | n + 9, h => exact h
/-- append([]int{}, more...) in whatever frame. -/
theorem s_append0 (t ty : TypeId) {e : TypeId} {z : Value} (ht : Try.prog.underlying t = some (.slice e)) (hi : (Try.prog.info? e).map (fun i => (i.zero, i.size, i.bytes)) = some (some z, 1, 8)) (hzs : z.cells.size = 1)
    (w : World) (g : Nat) (ao : Option Addr) (m c : Nat) (news : List Value) (hl : news.length = m) (hc : VAt w ao news) (h1 : ∀ u ∈ news, u.oneCell' = true) (hlen : m * 8 ≤ 140737488355328) (hg : w.heap[g]? = some (.cells #[] e)) (B : Nat) (hB : B ≤ g) :
    ∃ v' w', (Builtin.append_ #[t, t] ty #[.slice (some ⟨g, 0, none⟩) 0 0, .slice ao m c]).run Try.prog w = .ok v' w' ∧ Ow w' B e v' news ∧ Below w.heap.size w w' := by
  obtain ⟨i0, hi, hz0, hz1, hz2⟩ := infoV hi
  have hgl := lt_of_heapT hg
  have hown : w.ownsRow B e 1 (.slice (some ⟨g, 0, none⟩) 0 0) 0 [] := ⟨rfl, .inr ⟨g, 0, #[], rfl, hB, hg, Nat.le_refl _, by decide, rfl, rfl⟩⟩
  rcases Nat.eq_zero_or_pos m with h0 | h0
  · subst h0
    have hn : news = [] := List.eq_nil_of_length_eq_zero hl
    subst hn
    refine ⟨.slice (some ⟨g, 0, none⟩) 0 0, w, ?_, hown, Below.refl _ _⟩
    cases ao with
    | none => simp [Builtin.append_, run_underlying ht, sizeOf, typeInfo, hi, Builtin.lenOf, Builtin.firstCells, storeCells]
    | some ad => simp [Builtin.append_, run_underlying ht, sizeOf, typeInfo, hi, Builtin.lenOf, Builtin.firstCells, storeCells, loadCells, loadCellsFrom]
  · obtain ⟨b, off, rfl, -⟩ := hc 0 (by omega)
    have hcc := hc.news
    have hr := run_append_grow (P := Try.prog) (w := w) t ty e i0 z ht hi hz0 ⟨g, 0, none⟩ 0 0 [] (by simp) (fun j v hv => by simp at hv) ⟨b, off, none⟩ m c news (by rw [hz1, hl]; omega) hcc (by omega) (by omega) (growslice_fits (by omega) (by rw [hz2]; omega))
    obtain ⟨v', w', hr', ho, _, _⟩ := run_append_grew (P := Try.prog) w B t ty e i0 z 1 8 ht hi hz0 hz1 hz2 hzs (by decide) _ 0 [] hown ⟨b, off, none⟩ m c news (by omega) hcc h1 (by unfold maxLen; omega) (by omega) (by omega)
    have he := hr'.symm.trans hr
    injection he with e1 e2
    refine ⟨v', w', hr', ?_, ?_⟩
    · unfold Ow; rw [hl]; simpa using ho
    · rw [e2]
      exact ⟨rfl, rfl, rfl, by simp [World.size_alloc], fun k hk => Below.heap_alloc _ _ _ hk⟩
section
variable {o : Oper} {a : Act} {W : World} {K : Act → World → Prop} {Q : Exit → Act → World → Prop}
theorem f_appI {s x : Operand} (ho : o.op = .call { callee := .builtin .append, args := #[s, x], argTypes := #[23, 23] }) {g : Nat} {ao : Option Addr} {m c : Nat} {ps : List Int} (hs : a.eval s = .slice (some ⟨g, 0, none⟩) 0 0) (hx : a.eval x = .slice ao m c)
    (hl : ps.length = m) (hc : VAt W ao (ps.map iV)) (hlen : m ≤ 17592186044415) (hg : W.heap[g]? = some (.cells #[] 3)) (B : Nat) (hB : B ≤ g)
    (h : ∀ ao2 c2 w', VAt w' ao2 (ps.map iV) → (ao2 = none → c2 = 0 ∧ m = 0) → Below W.heap.size W w' → K (a.put o.dst (.slice ao2 m c2)) w') : o.wp Try.prog a W K Q := by
  obtain ⟨v', w', hr, h2, h3⟩ := s_append0 23 o.type Try.underlying23 info_int rfl W g ao m c (ps.map iV) (by rw [List.length_map]; exact hl) hc (iV_one _) (by omega) hg B hB
  obtain ⟨ao2, c2, rfl, hv, -, hn⟩ := h2.shapeI (l := ps) (n := m) rfl hl
  unfold Oper.wp execOp
  simp only [ho, resolve, invoke, builtin, Sem.run_bind, Sem.run_pure, Result.andThen_ok, List.map_toArray, List.map_cons, List.map_nil, hs, hx, hr]
  exact h ao2 c2 w' hv hn h3
theorem f_buildI (ho : o.op = .buildSlice 23 0 #[]) (h : K (a.put o.dst (.slice (some ⟨W.heap.size, 0, none⟩) 0 0)) (W.alloc (.cells #[] 3))) : o.wp Try.prog a W K Q := by
  have hr : (execOp a.eval o).run Try.prog W = .ok (.value (.slice (some ⟨W.heap.size, 0, none⟩) 0 0)) (W.alloc (.cells #[] 3)) := by
    unfold execOp
    simp only [ho, List.map_toArray, List.map_nil]
    go_simp
  unfold Oper.wp
  rw [hr]
  exact h
theorem f_mv {x : Operand} {v : Value} (ho : o.op = .move x) (hx : a.eval x = v) (h : K (a.put o.dst v) W) : o.wp Try.prog a W K Q :=
  wp_valF (v := v) (by unfold execOp; simp only [ho, hx]; simp [go_sem]) h
end

/-! ### the loop that makes the workers -/
/-- k workers are made, of them as many actors as in bs. -/
structure LdI (w : World) (S S2 : Nat → Prop) (lb cb : Nat) (c : Ch) (ks : List (Int × Int)) (k : Nat) (ws : List Wk) (av : Value) (bs : List Nat) (wr : World) : Prop where
  lg : LgAt wr S lb ws []
  ch : ChAt wr S2 cb c
  dj : ∀ j, S j → ¬ S2 j
  own : ∀ j, S j → w.heap.size ≤ j
  own2 : ∀ j, S2 j → w.heap.size ≤ j
  ac : Ow wr w.heap.size 40 av (bs.map acB)
  na : ∀ b, av.ownBlock = some b → ¬ S b ∧ ¬ S2 b
  er : ws.map er = (ks.take k).map jW
  below : Below w.heap.size w wr
section
variable {w wr w' : World} {S2 : Nat → Prop} {lb cb k xb : Nat} {c : Ch} {ks : List (Int × Int)} {ws : List Wk} {av : Value} {bs : List Nat}
theorem LdI.more (h : LdI w S S2 lb cb c ks k ws av bs wr) (hb : Below wr.heap.size wr w') : LdI w S S2 lb cb c ks k ws av bs w' :=
  ⟨h.lg.below hb, h.ch.below hb, h.dj, h.own, h.own2, h.ac.below hb, h.na, h.er, h.below.trans (hb.mono h.below.size)⟩
theorem LdI.len (h : LdI w S S2 lb cb c ks k ws av bs wr) (hk : k ≤ ks.length) : ws.length = k := by
  have := congrArg List.length h.er
  simp at this
  omega
theorem LdI.add (h : LdI w S S2 lb cb c ks k ws av bs wr) (hk : k < ks.length)
    (hl : LgAt w' (fun k => S k ∨ (wr.heap.size ≤ k ∧ k < w'.heap.size)) lb (ws ++ [⟨xb, ks[k].1, ks[k].2, 0⟩]) []) (hf : Frm S wr w') :
    LdI w (fun k => S k ∨ (wr.heap.size ≤ k ∧ k < w'.heap.size)) S2 lb cb c ks (k + 1) (ws ++ [⟨xb, ks[k].1, ks[k].2, 0⟩]) av bs w' := by
  refine ⟨hl, h.ch.frm hf fun j h2 hs => h.dj j hs h2, fun j hj h2 => ?_, fun j hj => ?_, h.own2, h.ac.frm hf fun j e => (h.na j e).1, fun b e => ⟨fun hj => ?_, (h.na b e).2⟩, ?_, h.below.trans (hf.toBelow h.below.size h.own)⟩
  · rcases hj with hj | hj
    · exact h.dj j hj h2
    · have := h.ch.sb j h2; omega
  · rcases hj with hj | hj
    · exact h.own j hj
    · exact Nat.le_trans h.below.size hj.1
  · rcases hj with hj | hj
    · exact (h.na b e).1 hj
    · have := (h.ac.lt b e).2; omega
  · rw [List.map_append, h.er, List.take_succ_eq_append_getElem hk, List.map_append]
    rfl
theorem LdI.app {v' : Value} (h : LdI w S S2 lb cb c ks k ws av bs wr) (ho : Ow w' w.heap.size 40 v' (bs.map acB ++ [acB xb])) (hg : Grew wr w' av v') :
    LdI w S S2 lb cb c ks k ws v' (bs ++ [xb]) w' := by
  have hf := Frm.ofGrewT hg
  refine ⟨h.lg.frm hf fun j hj e => (h.na j e).1 hj, h.ch.frm hf fun j hj e => (h.na j e).2 hj, h.dj, h.own, h.own2, by rw [List.map_append]; exact ho, fun b e => ?_, h.er, h.below.trans (hg.toBelow h.below.size fun j hj => (h.ac.lt j hj).1)⟩
  rcases hg.place b e with e | e
  · exact h.na b e
  · exact ⟨fun hj => by have := h.lg.sb b hj; omega, fun hj => by have := h.ch.sb b hj; omega⟩
end
/-! ### between the runs -/
structure LrI (w : World) (S1 S2 : Nat → Prop) (lb cb : Nat) (s : St) (av : Value) (bs : List Nat) (qv : Value) (G : List Nat) (wr : World) : Prop where
  st : StI wr S1 S2 lb cb s
  ac : Ow wr w.heap.size 40 av (bs.map acB)
  wt : Ow wr w.heap.size 3 qv (G.map nV)
  na : ∀ b, av.ownBlock = some b → ¬ S1 b ∧ ¬ S2 b
  nq : ∀ b, qv.ownBlock = some b → ¬ S1 b ∧ ¬ S2 b
  own : ∀ k, S1 k ∨ S2 k → w.heap.size ≤ k
  below : Below w.heap.size w wr
  bs : s.ws.map (·.b) = bs
section
variable {w wr w' : World} {S1 S2 : Nat → Prop} {lb cb : Nat} {s s' : St} {av qv : Value} {bs : List Nat} {G : List Nat}
theorem LrI.more (h : LrI w S1 S2 lb cb s av bs qv G wr) (hb : Below wr.heap.size wr w') : LrI w S1 S2 lb cb s av bs qv G w' :=
  ⟨h.st.below hb, h.ac.below hb, h.wt.below hb, h.na, h.nq, h.own, h.below.trans (hb.mono h.below.size), h.bs⟩
theorem LrI.run {e : Ending} (h : LrI w S1 S2 lb cb s av bs qv G wr) (hr : RunW wr S1 S2 lb cb s s' e w') : e = .returned (.int .i64 ((s'.D.length - s.D.length : Nat) : Int)) ∧ ∃ T1 T2, LrI w T1 T2 lb cb s' av bs qv G w' := by
  obtain ⟨he, ⟨T1, T2, hs, t1, t2⟩, hf, hbs⟩ := hr
  have hS1 := h.st.lg.sb
  have hS2 := h.st.ch.sb
  refine ⟨he, T1, T2, hs, h.ac.frm hf fun k e hk => hk.elim (h.na k e).1 (h.na k e).2, h.wt.frm hf fun k e hk => hk.elim (h.nq k e).1 (h.nq k e).2, fun b e => ⟨fun hb => ?_, fun hb => ?_⟩, fun b e => ⟨fun hb => ?_, fun hb => ?_⟩, fun k hk => ?_, h.below.trans (hf.toBelow h.below.size h.own), hbs.trans h.bs⟩
  · rcases t1 b hb with h1 | h1
    · exact (h.na b e).1 h1
    · have := (h.ac.lt b e).2; omega
  · rcases t2 b hb with h1 | h1
    · exact (h.na b e).2 h1
    · have := (h.ac.lt b e).2; omega
  · rcases t1 b hb with h1 | h1
    · exact (h.nq b e).1 h1
    · have := (h.wt.lt b e).2; omega
  · rcases t2 b hb with h1 | h1
    · exact (h.nq b e).2 h1
    · have := (h.wt.lt b e).2; omega
  · have := h.below.size
    rcases hk with hk | hk
    · rcases t1 k hk with h1 | h1
      · exact h.own k (.inl h1)
      · omega
    · rcases t2 k hk with h1 | h1
      · exact h.own k (.inr h1)
      · omega
end
end Go.Proofs.Ytagdgecmoeacgaa
