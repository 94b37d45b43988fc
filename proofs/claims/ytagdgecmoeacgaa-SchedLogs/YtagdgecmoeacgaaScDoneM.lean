/- Layer 17 (sched), plain: all work is done. -/
import Derived.Test.YtagdgecmoeacgaaScPlay
namespace Go.Proofs.Ytagdgecmoeacgaa
set_option linter.unusedVariables false

theorem sum_up : ∀ (ws : List Wk) (i : Nat) (x : Wk), ws[i]? = some x → ((ws.set i (up x)).map (·.done)).sum = (ws.map (·.done)).sum + 1
  | [], i, x, h => by simp at h
  | y :: ws, 0, x, h => by
    simp at h
    subst h
    simp [up]; omega
  | y :: ws, i + 1, x, h => by
    have := sum_up ws i x (by simpa using h)
    simp only [List.set_cons_succ, List.map_cons, List.sum_cons, this]; omega
/-- What has been done so far, where all may begin at once. -/
structure DnI (wk : List Int) (s : St) : Prop where
  wks : s.ws.map (·.work) = wk
  start : ∀ x ∈ s.ws, x.start ≤ 0
  most : ∀ x ∈ s.ws, x.done = 0 ∨ (x.done : Int) ≤ x.work
  len : s.D.length = (s.ws.map (·.done)).sum
  cnt : ∀ (i : Nat) (x : Wk), s.ws[i]? = some x → s.D.count i = x.done
  each : ∀ (k : Nat) (h : k < s.D.length), s.D[k] < wk.length ∧ ((s.D.take k).count s.D[k] : Int) < wk.getD s.D[k] 0
theorem DnI.step {wk : List Int} {s : St} (h : DnI wk s) : DnI wk (stepR s) := by
  unfold stepR
  split
  · rename_i hc
    obtain ⟨h1, h2⟩ := next_ready (c := s.c) hc
    rw [rdyP_length] at h1
    generalize (nextP s.c (rdyP s.ws s.D)).2.1 = g at h1 h2
    generalize (nextP s.c (rdyP s.ws s.D)).1 = c'
    obtain ⟨x, hx⟩ : ∃ x, s.ws[g]? = some x := ⟨_, List.getElem?_eq_getElem h1⟩
    have hxm := List.mem_of_getElem? hx
    have hrd : (rdyP s.ws s.D).getD g false = (decide (x.start ≤ (s.D.length : Int)) && decide ((x.done : Int) < x.work)) := rdy_at hx
    rw [hrd] at h2
    simp only [Bool.and_eq_true, decide_eq_true_eq] at h2
    have hwl : wk.length = s.ws.length := by rw [← h.wks, List.length_map]
    have hwg : wk.getD g 0 = x.work := by rw [← h.wks, List.getD_eq_getElem?_getD, List.getElem?_map, hx]; rfl
    refine ⟨?_, ?_, ?_, ?_, ?_, ?_⟩
    · show (bump s.ws g).map _ = _
      rw [bump_at hx, ← h.wks, List.map_set]
      apply List.ext_getElem?
      intro j
      rw [List.getElem?_set]
      by_cases hj : g = j
      · subst hj
        have e : s.ws[g] = x := by rw [List.getElem?_eq_getElem h1] at hx; exact Option.some.inj hx
        simp [h1, up, e]
      · rw [if_neg hj]
    · intro y hy
      rcases bump_mem hy with h3 | ⟨z, h3, rfl⟩
      · exact h.start y h3
      · exact h.start z h3
    · intro y hy
      have hy' : y ∈ bump s.ws g := hy
      rw [bump_at hx] at hy'
      rcases List.mem_or_eq_of_mem_set hy' with h3 | h3
      · exact h.most y h3
      · rw [h3]; right; show ((x.done + 1 : Nat) : Int) ≤ x.work; omega
    · show (s.D ++ [g]).length = ((bump s.ws g).map _).sum
      rw [bump_at hx, sum_up _ _ _ hx, ← h.len]; simp
    · intro i y hy
      show (s.D ++ [g]).count i = y.done
      have hy' : (bump s.ws g)[i]? = some y := hy
      rw [bump_at hx, List.getElem?_set] at hy'
      rw [List.count_append]
      by_cases hi : g = i
      · subst hi
        rw [if_pos rfl, if_pos h1] at hy'
        obtain rfl := Option.some.inj hy'
        rw [h.cnt g x hx]; simp [up]
      · rw [if_neg hi] at hy'
        rw [h.cnt i y hy']
        have : List.count i [g] = 0 := by rw [List.count_eq_zero]; simp; omega
        omega
    · intro k hk
      show (s.D ++ [g])[k]'hk < wk.length ∧ (((s.D ++ [g]).take k).count ((s.D ++ [g])[k]'hk) : Int) < wk.getD ((s.D ++ [g])[k]'hk) 0
      have hk' : k < (s.D ++ [g]).length := hk
      rw [List.length_append, List.length_singleton] at hk'
      rcases Nat.lt_or_ge k s.D.length with h3 | h3
      · rw [List.getElem_append_left h3, List.take_append_of_le_length (by omega)]
        exact h.each k h3
      · have h4 : k = s.D.length := by omega
        subst h4
        rw [List.getElem_append_right (Nat.le_refl _), List.take_left' rfl]
        simp only [Nat.sub_self, List.getElem_cons_zero]
        rw [hwl, hwg, h.cnt g x hx]
        exact ⟨h1, h2.2⟩
  · exact h
theorem DnI.run {wk : List Int} : ∀ (k : Nat) {s : St}, DnI wk s → DnI wk (runR k s)
  | 0, _, h => h
  | k + 1, _, h => DnI.run k h.step
theorem DnI.zero {ps : List Int} {b : Int} {js : List (Int × Int)} (h : ∀ j ∈ js, j.1 ≤ 0) : DnI (js.map (·.2)) (st0 ps b js) := by
  refine ⟨by simp [st0, Function.comp_def], fun x hx => ?_, fun x hx => .inl ?_, ?_, fun i x hx => ?_, fun k hk => by simp [st0] at hk⟩
  · obtain ⟨j, hj, rfl⟩ := List.mem_map.1 hx
    exact h j hj
  · obtain ⟨j, hj, rfl⟩ := List.mem_map.1 hx
    rfl
  · show 0 = _
    induction js with
    | nil => rfl
    | cons j js ih =>
      have := ih (fun y hy => h y (List.mem_cons_of_mem _ hy))
      simp only [st0, List.map_cons, List.sum_cons] at this ⊢
      omega
  · obtain ⟨j, hj, rfl⟩ := List.mem_map.1 (List.mem_of_getElem? hx)
    simp [st0]
theorem run_len : ∀ (k : Nat) (s : St), (runR k s).D.length = s.D.length + k ∨ (rdyP (runR k s).ws (runR k s).D).count true = 0
  | 0, _ => .inl rfl
  | k + 1, s => by
    by_cases hc : 0 < (rdyP s.ws s.D).count true
    · have hl : (stepR s).D.length = s.D.length + 1 := by unfold stepR; rw [if_pos hc]; simp
      show (runR k (stepR s)).D.length = _ ∨ (rdyP (runR k (stepR s)).ws (runR k (stepR s)).D).count true = 0
      rcases run_len k (stepR s) with h1 | h1
      · left; omega
      · exact .inr h1
    · right
      rw [runR_none (by omega)]
      omega
def sumW (js : List (Int × Int)) : Nat := (js.map fun j => j.2.toNat).sum
theorem sum_le {wk : List Int} : ∀ {ws : List Wk}, ws.map (·.work) = wk → (∀ x ∈ ws, x.done = 0 ∨ (x.done : Int) ≤ x.work) → (ws.map (·.done)).sum ≤ (wk.map Int.toNat).sum := by
  induction wk with
  | nil => intro ws h1 h2; simp at h1; subst h1; simp
  | cons a wk ih =>
    intro ws h1 h2
    cases ws with
    | nil => simp at h1
    | cons x ws =>
      simp only [List.map_cons, List.cons.injEq] at h1
      have h3 := ih h1.2 (fun y hy => h2 y (List.mem_cons_of_mem _ hy))
      have h4 := h2 x (List.mem_cons_self ..)
      simp only [List.map_cons, List.sum_cons]
      have h5 := h1.1
      omega
theorem sum_eq {wk : List Int} : ∀ {ws : List Wk}, ws.map (·.work) = wk → (∀ x ∈ ws, x.done = 0 ∨ (x.done : Int) ≤ x.work) → (∀ x ∈ ws, ¬ ((x.done : Int) < x.work)) → (ws.map (·.done)).sum = (wk.map Int.toNat).sum := by
  induction wk with
  | nil => intro ws h1 h2 _; simp at h1; subst h1; simp
  | cons a wk ih =>
    intro ws h1 h2 h0
    cases ws with
    | nil => simp at h1
    | cons x ws =>
      simp only [List.map_cons, List.cons.injEq] at h1
      have h3 := ih h1.2 (fun y hy => h2 y (List.mem_cons_of_mem _ hy)) (fun y hy => h0 y (List.mem_cons_of_mem _ hy))
      have h4 := h2 x (List.mem_cons_self ..)
      have h6 := h0 x (List.mem_cons_self ..)
      simp only [List.map_cons, List.sum_cons]
      have h5 := h1.1
      omega
/-- A play that isn't cut short does all the work. -/
theorem play_all {ps : List Int} {b : Int} {js : List (Int × Int)} {mx : Nat} (h : ∀ j ∈ js, j.1 ≤ 0) (hm : sumW js < mx) :
    (playP ps b js mx).length = sumW js ∧ (∀ (k : Nat) (h : k < (playP ps b js mx).length), (playP ps b js mx)[k] < js.length ∧ (((playP ps b js mx).take k).count (playP ps b js mx)[k] : Int) < (js.map (·.2)).getD (playP ps b js mx)[k] 0)
     ∧ (rdyP (runR mx (st0 ps b js)).ws (runR mx (st0 ps b js)).D).count true = 0 := by
  have hI := (DnI.zero (ps := ps) (b := b) h).run mx
  have hs : sumW js = ((js.map (·.2)).map Int.toNat).sum := by simp [sumW, Function.comp_def]
  have hle := sum_le hI.wks hI.most
  have hnone : (rdyP (runR mx (st0 ps b js)).ws (runR mx (st0 ps b js)).D).count true = 0 := by
    rcases run_len mx (st0 ps b js) with h1 | h1
    · exfalso
      have h2 := hI.len
      have h3 : (st0 ps b js).D.length = 0 := rfl
      omega
    · exact h1
  have hnr : ∀ x ∈ (runR mx (st0 ps b js)).ws, ¬ ((x.done : Int) < x.work) := by
    intro x hx hlt
    obtain ⟨i, hi⟩ := List.mem_iff_getElem?.1 hx
    have h1 := hI.start x hx
    have h2 : (rdyP (runR mx (st0 ps b js)).ws (runR mx (st0 ps b js)).D).getD i false = true := by
      rw [rdy_at hi]
      simp only [Bool.and_eq_true, decide_eq_true_eq]
      exact ⟨by omega, hlt⟩
    have := count_pos h2
    omega
  refine ⟨?_, fun k hk => ?_, hnone⟩
  · show (runR mx (st0 ps b js)).D.length = _
    rw [hI.len, hs]
    exact sum_eq hI.wks hI.most hnr
  · have := hI.each k hk
    rw [List.length_map] at this
    exact this
/-- What is left of each one's work behind k steps. -/
def leftL (js : List (Int × Int)) (D : List Nat) (k : Nat) : List Int := (List.range js.length).map fun i => (js.map (·.2)).getD i 0 - ((D.take k).count i : Int)
theorem leftL_length (js : List (Int × Int)) (D : List Nat) (k : Nat) : (leftL js D k).length = js.length := by simp [leftL]
theorem leftL_at {js : List (Int × Int)} {D : List Nat} {k a : Nat} (ha : a < js.length) : (leftL js D k)[a]? = some ((js.map (·.2)).getD a 0 - ((D.take k).count a : Int)) := by
  unfold leftL
  rw [List.getElem?_map, List.getElem?_range ha]; rfl
theorem leftL_zero (js : List (Int × Int)) (D : List Nat) : leftL js D 0 = js.map (·.2) := by
  apply List.ext_getElem?
  intro i
  by_cases h : i < js.length
  · rw [leftL_at h, List.getElem?_map, List.getElem?_eq_getElem h, List.getD_eq_getElem?_getD, List.getElem?_map, List.getElem?_eq_getElem h]
    simp
  · rw [List.getElem?_eq_none (by rw [leftL_length]; omega), List.getElem?_eq_none (by simp; omega)]
theorem leftL_succ {js : List (Int × Int)} {D : List Nat} {k : Nat} (hk : k < D.length) (ha : D[k] < js.length) : (leftL js D k).set D[k] ((js.map (·.2)).getD D[k] 0 - ((D.take k).count D[k] : Int) - 1) = leftL js D (k + 1) := by
  have hc : ∀ i, (D.take (k + 1)).count i = (D.take k).count i + if D[k] = i then 1 else 0 := fun i => by
    rw [List.take_succ_eq_append_getElem hk, List.count_append, List.count_singleton]
    congr 1
    by_cases h : D[k] = i
    · simp [h]
    · simp [h]
  apply List.ext_getElem?
  intro i
  rw [List.getElem?_set]
  by_cases h : D[k] = i
  · subst h
    rw [if_pos rfl, if_pos (by rw [leftL_length]; exact ha), leftL_at ha, hc, if_pos rfl]
    congr 1
    omega
  · rw [if_neg h]
    by_cases hi : i < js.length
    · rw [leftL_at hi, leftL_at hi, hc, if_neg h]; simp
    · rw [List.getElem?_eq_none (by rw [leftL_length]; omega), List.getElem?_eq_none (by rw [leftL_length]; omega)]
end Go.Proofs.Ytagdgecmoeacgaa
