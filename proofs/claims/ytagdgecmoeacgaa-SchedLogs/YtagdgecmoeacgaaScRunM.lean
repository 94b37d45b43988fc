/- Layer 17 (sched): what a run does, plain, and its state in memory. -/
import Derived.Test.YtagdgecmoeacgaaScLog
import Derived.Test.YtagdgecmoeacgaaScFairM
namespace Go.Proofs.Ytagdgecmoeacgaa
open Go.RowKit
set_option linter.unusedVariables false
variable {S S' : Nat → Prop}

structure St where
  c : Ch
  ws : List Wk
  D : List Nat
def rdyP (ws : List Wk) (D : List Nat) : List Bool := ws.map fun x => decide (x.start ≤ (D.length : Int)) && decide ((x.done : Int) < x.work)
def up (x : Wk) : Wk := ⟨x.b, x.start, x.work, x.done + 1⟩
def bump (ws : List Wk) (i : Nat) : List Wk := match ws[i]? with
  | some x => ws.set i (up x)
  | none => ws
def stepR (s : St) : St := if 0 < (rdyP s.ws s.D).count true then ⟨(nextP s.c (rdyP s.ws s.D)).1, bump s.ws (nextP s.c (rdyP s.ws s.D)).2.1, s.D ++ [(nextP s.c (rdyP s.ws s.D)).2.1]⟩ else s
def runR : Nat → St → St
  | 0, s => s
  | k + 1, s => runR k (stepR s)
theorem runR_add : ∀ (a b : Nat) (s : St), runR (a + b) s = runR b (runR a s)
  | 0, b, s => by rw [Nat.zero_add]; rfl
  | a + 1, b, s => by rw [Nat.add_right_comm]; exact runR_add a b (stepR s)
theorem runR_last (k : Nat) (s : St) : runR (k + 1) s = stepR (runR k s) := runR_add k 1 s
theorem runR_none {s : St} (h : (rdyP s.ws s.D).count true = 0) : ∀ k, runR k s = s
  | 0 => rfl
  | k + 1 => by
    show runR k (stepR s) = s
    have : stepR s = s := by unfold stepR; rw [if_neg (by omega)]
    rw [this]
    exact runR_none h k
theorem runR_stop {s : St} {k m : Nat} (hk : k ≤ m) (h : (rdyP (runR k s).ws (runR k s).D).count true = 0) : runR m s = runR k s := by
  obtain ⟨d, rfl⟩ : ∃ d, m = k + d := ⟨m - k, by omega⟩
  rw [runR_add]
  exact runR_none h d
theorem rdyP_length (ws : List Wk) (D : List Nat) : (rdyP ws D).length = ws.length := by simp [rdyP]
theorem bump_b (ws : List Wk) (i : Nat) : (bump ws i).map (·.b) = ws.map (·.b) := by
  unfold bump
  cases h : ws[i]? with
  | none => rfl
  | some x =>
    obtain ⟨hi, rfl⟩ := List.getElem?_eq_some_iff.1 h
    dsimp only
    apply List.ext_getElem?
    intro j
    rw [List.getElem?_map, List.getElem?_set, List.getElem?_map]
    by_cases hj : i = j
    · subst hj
      simp [hi, up]
    · rw [if_neg hj]
theorem bump_length (ws : List Wk) (i : Nat) : (bump ws i).length = ws.length := by
  have := congrArg List.length (bump_b ws i)
  simpa using this
theorem bump_mem {ws : List Wk} {i : Nat} {y : Wk} (h : y ∈ bump ws i) : y ∈ ws ∨ ∃ x ∈ ws, y = up x := by
  unfold bump at h
  cases hx : ws[i]? with
  | none => rw [hx] at h; exact .inl h
  | some x =>
    rw [hx] at h
    rcases List.mem_or_eq_of_mem_set h with h1 | h1
    · exact .inl h1
    · exact .inr ⟨x, List.mem_of_getElem? hx, h1⟩
theorem bump_at {ws : List Wk} {i : Nat} {x : Wk} (h : ws[i]? = some x) : bump ws i = ws.set i (up x) := by
  unfold bump; rw [h]

/-- A log with its workers and a chooser, apart from each other. -/
structure StI (w : World) (S1 S2 : Nat → Prop) (lb cb : Nat) (s : St) : Prop where
  lg : LgAt w S1 lb s.ws s.D
  ch : ChAt w S2 cb s.c
  dj : ∀ k, S1 k → ¬ S2 k
  ok : Okc s.c s.D.length
  al : s.c.ages.length ≤ s.ws.length
  dn : ∀ x ∈ s.ws, x.done ≤ s.D.length
theorem StI.frm {T : Nat → Prop} {w w' : World} {S1 S2 : Nat → Prop} {lb cb : Nat} {s : St} (h : StI w S1 S2 lb cb s) (hf : Frm T w w') (h1 : ∀ k, S1 k → ¬ T k) (h2 : ∀ k, S2 k → ¬ T k) : StI w' S1 S2 lb cb s := ⟨h.lg.frm hf h1, h.ch.frm hf h2, h.dj, h.ok, h.al, h.dn⟩
theorem StI.below {w w' : World} {S1 S2 : Nat → Prop} {lb cb : Nat} {s : St} (h : StI w S1 S2 lb cb s) (hb : Below w.heap.size w w') : StI w' S1 S2 lb cb s := h.frm (Frm.ofBelow hb (fun _ => False)) (fun _ _ h => h) (fun _ _ h => h)
theorem Frm.comp {T0 T : Nat → Prop} {a b c : World} (h : Frm T0 a b) (k : Frm T b c) (hs : ∀ i, i < a.heap.size → T i → T0 i) : Frm T0 a c :=
  ⟨k.os.trans h.os, k.tape.trans h.tape, k.output.trans h.output, Nat.le_trans h.size k.size, fun i hi hn => (k.block i (Nat.lt_of_lt_of_le hi h.size) (fun x => hn (hs i hi x))).trans (h.block i hi hn)⟩

def acB (b : Nat) : Value := .iface 59 (.pointer (some ⟨b, 0, none⟩))
/-- Between two rounds of Run. -/
structure RnI (w : World) (T1 T2 S1 S2 : Nat → Prop) (lb cb g n : Nat) (s : St) (bs : List Nat) (rl : List Bool) (wr : World) : Prop where
  st : StI wr S1 S2 lb cb s
  rd : Ow wr w.heap.size 4 (.slice (some ⟨g, 0, none⟩) n n) (rl.map bV)
  len : rl.length = n
  ng : ¬ S1 g ∧ ¬ S2 g
  frm : Frm (fun k => T1 k ∨ T2 k) w wr
  sub1 : ∀ k, S1 k → T1 k ∨ w.heap.size ≤ k
  sub2 : ∀ k, S2 k → T2 k ∨ w.heap.size ≤ k
  bs : s.ws.map (·.b) = bs
variable {w wr w' : World} {T1 T2 S1 S2 : Nat → Prop} {lb cb g n : Nat} {s : St} {bs : List Nat} {rl : List Bool}
theorem RnI.below (h : RnI w T1 T2 S1 S2 lb cb g n s bs rl wr) (hb : Below wr.heap.size wr w') : RnI w T1 T2 S1 S2 lb cb g n s bs rl w' :=
  ⟨h.st.below hb, h.rd.below hb, h.len, h.ng, h.frm.comp (Frm.ofBelow hb (fun _ => False)) (fun _ _ h => h.elim), h.sub1, h.sub2, h.bs⟩
theorem RnI.set (h : RnI w T1 T2 S1 S2 lb cb g n s bs rl wr) (j : Nat) (b : Bool) : RnI w T1 T2 S1 S2 lb cb g n s bs (rl.set j b) (wr.setCell ⟨g, j, none⟩ (.bool b)) := by
  have hF : Frm (fun k => k = g) wr (wr.setCell ⟨g, j, none⟩ (.bool b)) := (Frm.refl (fun k => k = g) wr).setCell ⟨g, j, none⟩ _ (.inl rfl)
  have hg := (h.rd.lt g rfl).1
  refine ⟨h.st.frm hF (fun k hk e => h.ng.1 (by rw [← e]; exact hk)) (fun k hk e => h.ng.2 (by rw [← e]; exact hk)), ?_, by rw [List.length_set]; exact h.len, h.ng, h.frm.comp hF (fun k hk e => by subst e; omega), h.sub1, h.sub2, h.bs⟩
  have := h.rd.stored j (bV b)
  rw [← List.map_set] at this
  exact this
/-- The chooser has chosen; the chosen worker does its step. -/
theorem RnI.next {c' : Ch} (h : RnI w T1 T2 S1 S2 lb cb g n s bs rl wr) (hc : ChAt w' (fun k => S2 k ∨ (wr.heap.size ≤ k ∧ k < w'.heap.size)) cb c') (hf : Frm S2 wr w') :
    LgAt w' S1 lb s.ws s.D ∧ (∀ k, S1 k → ¬ (S2 k ∨ (wr.heap.size ≤ k ∧ k < w'.heap.size))) ∧ Ow w' w.heap.size 4 (.slice (some ⟨g, 0, none⟩) n n) (rl.map bV) ∧ ¬ (S2 g ∨ (wr.heap.size ≤ g ∧ g < w'.heap.size)) ∧ Frm (fun k => T1 k ∨ T2 k) w w' := by
  have hgl := (h.rd.lt g rfl).2
  refine ⟨h.st.lg.frm hf h.st.dj, fun k hk hn => ?_, h.rd.frm hf (fun k e => by simp [Value.ownBlock] at e; rw [← e]; exact h.ng.2), fun hn => ?_, h.frm.comp hf (fun k hk hs => ?_)⟩
  · rcases hn with hn | hn
    · exact h.st.dj k hk hn
    · have := h.st.lg.sb k hk; omega
  · rcases hn with hn | hn
    · exact h.ng.2 hn
    · omega
  · rcases h.sub2 k hs with h1 | h1
    · exact .inr h1
    · omega
theorem RnI.step {w5 w6 : World} {c' : Ch} {i : Nat} {x : Wk} (h : RnI w T1 T2 S1 S2 lb cb g n s bs rl wr) (hc : ChAt w5 (fun k => S2 k ∨ (wr.heap.size ≤ k ∧ k < w5.heap.size)) cb c') (hf : Frm S2 wr w5) (hx : s.ws[i]? = some x)
    (hl : LgAt w6 (fun k => S1 k ∨ (w5.heap.size ≤ k ∧ k < w6.heap.size)) lb (s.ws.set i (up x)) (s.D ++ [i])) (hf6 : Frm S1 w5 w6) (hok : Okc c' (s.D.length + 1)) (hal : c'.ages.length ≤ s.ws.length) :
    ∃ S1' S2', RnI w T1 T2 S1' S2' lb cb g n ⟨c', bump s.ws i, s.D ++ [i]⟩ bs rl w6 := by
  obtain ⟨k1, k2, k3, k4, k5⟩ := h.next hc hf
  have hgl := (k3.lt g rfl).2
  refine ⟨fun k => S1 k ∨ (w5.heap.size ≤ k ∧ k < w6.heap.size), fun k => S2 k ∨ (wr.heap.size ≤ k ∧ k < w5.heap.size), ⟨by rw [bump_at hx]; exact hl, hc.frm hf6 (fun k hk hs => k2 k hs hk), fun k hk hn => ?_, by simpa using hok, by rw [bump_length]; exact hal, fun y hy => ?_⟩, k3.frm hf6 (fun k e => by simp [Value.ownBlock] at e; rw [← e]; exact h.ng.1), h.len, ⟨fun hn => ?_, k4⟩, k5.comp hf6 (fun k hk hs => ?_), fun k hk => ?_, fun k hk => ?_, by rw [bump_b]; exact h.bs⟩
  · rcases hk with hk | hk
    · exact k2 k hk hn
    · rcases hn with hn | hn
      · have := hc.sb k (.inl hn); omega
      · omega
  · rw [List.length_append, List.length_singleton]
    rcases bump_mem hy with h1 | ⟨z, h1, rfl⟩
    · have := h.st.dn y h1; omega
    · have := h.st.dn z h1; show z.done + 1 ≤ _; omega
  · rcases hn with hn | hn
    · exact h.ng.1 hn
    · omega
  · rcases h.sub1 k hs with h1 | h1
    · exact .inl h1
    · omega
  · rcases hk with hk | hk
    · exact h.sub1 k hk
    · have := k5.size; exact .inr (by omega)
  · rcases hk with hk | hk
    · exact h.sub2 k hk
    · have := h.frm.size; exact .inr (by omega)
/-- The first j as they are now, the rest as they were. -/
def rdJ (old new : List Bool) (j : Nat) : List Bool := new.take j ++ old.drop j
theorem rdJ_zero (old new : List Bool) : rdJ old new 0 = old := by simp [rdJ]
theorem rdJ_end {old new : List Bool} {n : Nat} (h1 : old.length = n) (h2 : new.length = n) : rdJ old new n = new := by
  unfold rdJ
  rw [List.take_of_length_le (by omega), List.drop_of_length_le (by omega), List.append_nil]
theorem rdJ_succ {old new : List Bool} {n j : Nat} (h1 : old.length = n) (h2 : new.length = n) (hj : j < n) : (rdJ old new j).set j (new.getD j false) = rdJ old new (j + 1) := by
  unfold rdJ
  have hl : (new.take j).length = j := by rw [List.length_take]; omega
  rw [List.set_append_right _ _ (by omega), hl, Nat.sub_self, List.drop_eq_getElem_cons (by omega : j < old.length), List.set_cons_zero, List.take_succ_eq_append_getElem (by omega : j < new.length), List.append_assoc]
  congr 1
  rw [List.singleton_append, List.getD_eq_getElem?_getD, List.getElem?_eq_getElem (by omega)]
  rfl
end Go.Proofs.Ytagdgecmoeacgaa
