import Derived.Test.YtelhgjepjieocaaDoorJxCpN
import Derived.Test.YtelhgjepjieocaaDoorJxVal
/- Layer 18 (json): copies, plain and in memory. -/
namespace Go.Proofs.YtelhgjepjieocaaDoor
open Go.RowKit Go.MapKept Go.Sort
set_option linter.unusedVariables false

mutual
/-- Lists that may be copied. -/
def Fit : Js → Prop
  | .mk k n t ns its => t.length ≤ 140737488355328 ∧ ns.length ≤ 8796093021952 ∧ its.length ≤ 1759218604416 ∧ (∀ s ∈ ns, s.length ≤ 140737488355328) ∧ Fits its
def Fits : List Js → Prop
  | [] => True
  | x :: xs => Fit x ∧ Fits xs
end
theorem Fits.mem : ∀ {its : List Js}, Fits its → ∀ x ∈ its, Fit x
  | [], _, x, hx => by cases hx
  | y :: ys, h, x, hx => by
    unfold Fits at h
    rcases List.mem_cons.1 hx with rfl | hx
    · exact h.1
    · exact Fits.mem h.2 x hx
theorem Fits.of : ∀ {its : List Js}, (∀ x ∈ its, Fit x) → Fits its
  | [], _ => by unfold Fits; trivial
  | y :: ys, h => by
    unfold Fits
    exact ⟨h y (List.mem_cons_self ..), Fits.of fun x hx => h x (List.mem_cons_of_mem _ hx)⟩
/-- The cells of the items, one behind the other. -/
theorem ItAt.cells {w : World} {S : Nat → Prop} {ia : Option Addr} : ∀ (its : List Js) (k : Nat), ItAt w S ia k its → ∃ css : List (Array Value), css.length = its.length ∧ (∀ cs ∈ css, cs.size = 5) ∧ (∀ (i : Nat) (h1 : i < its.length) (h2 : i < css.length), JAt w S its[i] css[i]) ∧
    (its ≠ [] → ∃ b off, ia = some ⟨b, off, none⟩ ∧ ∀ j u, (flC css)[j]? = some u → w.cell? ⟨b, off + k * 5 + j, none⟩ = some u)
  | [], k, _ => ⟨[], rfl, fun c h => (by cases h), fun i h => absurd h (Nat.not_lt_zero _), fun h => absurd rfl h⟩
  | x :: xs, k, h => by
    unfold ItAt at h
    obtain ⟨⟨b, off, cs, e, h5, hc, hj⟩, hr⟩ := h
    obtain ⟨css, hl, h5s, hjs, hcs⟩ := ItAt.cells xs (k + 1) hr
    refine ⟨cs :: css, by simp [hl], fun c hcm => ?_, fun i h1 h2 => ?_, fun _ => ⟨b, off, e, fun j u hu => ?_⟩⟩
    · rcases List.mem_cons.1 hcm with rfl | hcm
      · exact h5
      · exact h5s c hcm
    · cases i with
      | zero => exact hj
      | succ i => exact hjs i (by simpa using h1) (by simpa using h2)
    · have hfl : flC (cs :: css) = cs.toList ++ flC css := rfl
      rw [hfl] at hu
      rcases Nat.lt_or_ge j 5 with hj5 | hj5
      · rw [List.getElem?_append_left (by rw [Array.length_toList, h5]; exact hj5), Array.getElem?_toList] at hu
        exact hc j u hu
      · rw [List.getElem?_append_right (by rw [Array.length_toList, h5]; exact hj5), Array.length_toList, h5] at hu
        cases xs with
        | nil =>
          have hn : css = [] := List.eq_nil_of_length_eq_zero (by simpa using hl)
          subst hn
          simp [flC] at hu
        | cons y ys =>
          obtain ⟨b2, off2, e2, hc2⟩ := hcs (by simp)
          rw [e] at e2
          simp only [Option.some.injEq, Addr.mk.injEq, and_true] at e2
          obtain ⟨rfl, rfl⟩ := e2
          have := hc2 (j - 5) u hu
          rw [show off + (k + 1) * 5 + (j - 5) = off + k * 5 + j by omega] at this
          exact this
/-- Cells written one behind the other. -/
def setL : List Value → Nat → List Value → List Value
  | l, _, [] => l
  | l, i, v :: vs => setL (l.set i v) (i + 1) vs
theorem row_put {B g n c size : Nat} {e : TypeId} : ∀ (vs : List Value) (w : World) (i : Nat) (l : List Value), w.ownsRow B e size (.slice (some ⟨g, 0, none⟩) n c) n l → (putC w g i vs).ownsRow B e size (.slice (some ⟨g, 0, none⟩) n c) n (setL l i vs)
  | [], w, i, l, h => h
  | v :: vs, w, i, l, h => row_put vs _ _ _ (World.ownsRow.stored h i v).1
theorem setL_append : ∀ (vs : List Value) (a b : List Value) (i : Nat), setL (a ++ b) (a.length + i) vs = a ++ setL b i vs
  | [], a, b, i => rfl
  | v :: vs, a, b, i => by
    unfold setL
    rw [List.set_append_right _ _ (by omega), show a.length + i - a.length = i by omega, show a.length + i + 1 = a.length + (i + 1) by omega]
    exact setL_append vs a (b.set i v) (i + 1)
theorem setL_front : ∀ (vs : List Value) (a b : List Value), a.length = vs.length → setL (a ++ b) 0 vs = vs ++ b
  | [], a, b, h => by
    have : a = [] := List.eq_nil_of_length_eq_zero h
    subst this; rfl
  | v :: vs, [], b, h => by cases h
  | v :: vs, x :: a, b, h => by
    unfold setL
    show setL (v :: (a ++ b)) 1 vs = v :: (vs ++ b)
    have := setL_append vs [v] (a ++ b) 0
    rw [show [v].length + 0 = 1 from rfl] at this
    rw [show v :: (a ++ b) = [v] ++ (a ++ b) from rfl, this, setL_front vs a b (by simpa using h)]
    rfl
theorem flC_set : ∀ (css : List (Array Value)) (k : Nat) (cs : Array Value), (∀ c ∈ css, c.size = 5) → cs.size = 5 → k < css.length → setL (flC css) (k * 5) cs.toList = flC (css.set k cs)
  | c :: css, 0, cs, h, h5, _ => by
    have hc := h c (List.mem_cons_self ..)
    show setL (c.toList ++ flC css) 0 cs.toList = cs.toList ++ flC css
    exact setL_front _ _ _ (by rw [Array.length_toList, Array.length_toList, hc, h5])
  | c :: css, k + 1, cs, h, h5, hk => by
    have hc := h c (List.mem_cons_self ..)
    have ih := flC_set css k cs (fun x hx => h x (List.mem_cons_of_mem _ hx)) h5 (by simpa using hk)
    show setL (c.toList ++ flC css) ((k + 1) * 5) cs.toList = c.toList ++ flC (css.set k cs)
    rw [← ih, show (k + 1) * 5 = c.toList.length + k * 5 by rw [Array.length_toList, hc]; omega]
    exact setL_append _ _ _ _
theorem putC_frm {S : Nat → Prop} {g : Nat} {a : World} (hg : S g ∨ a.heap.size ≤ g) : ∀ (vs : List Value) (b : World) (i : Nat), Frm S a b → Frm S a (putC b g i vs)
  | [], _, _, h => h
  | v :: vs, b, i, h => putC_frm hg vs _ _ (h.setCell ⟨g, i, none⟩ v hg)
end Go.Proofs.YtelhgjepjieocaaDoor

/- Layer 18 (json): a parsed value's lists may be copied. -/
namespace Go.Proofs.YtelhgjepjieocaaDoor
open Go.RowKit Go.MapKept Go.Sort
set_option linter.unusedVariables false

theorem pis_fit (obj : Bool) (B : Nat) : ∀ (its : List Js) (first : Bool) (ns : List (List UInt8)), (pis obj first ns its).length ≤ B → (∀ x ∈ its, (pv x).length ≤ B) ∧ its.length ≤ (pis obj first ns its).length ∧ (obj = true → ns.length = its.length → ∀ t ∈ ns, t.length ≤ B)
  | [], first, ns, h => ⟨fun x hx => (by cases hx), Nat.zero_le _, fun _ hl t ht => by
      obtain rfl : ns = [] := List.eq_nil_of_length_eq_zero hl
      cases ht⟩
  | x :: xs, first, ns, h => by
    rw [pis_cons] at h ⊢
    simp only [List.length_append] at h ⊢
    obtain ⟨h1, h2, h3⟩ := pis_fit obj B xs false ns.tail (by omega)
    have hp := pv_pos x
    refine ⟨fun y hy => ?_, ?_, fun ho hl t ht => ?_⟩
    · rcases List.mem_cons.1 hy with rfl | hy
      · omega
      · exact h1 y hy
    · rw [List.length_cons]; omega
    · cases ns with
      | nil => cases ht
      | cons a ns =>
        rcases List.mem_cons.1 ht with rfl | ht
        · rw [if_pos ho] at h
          have := flB_len t
          simp only [List.headD_cons, ptx, List.length_append, List.length_cons] at h
          omega
        · exact h3 ho (by simpa using hl) t ht
mutual
theorem fit_of : ∀ (v : Js) (d : Nat), soundJ v d = true → (pv v).length ≤ 65536 → Fit v
  | .mk k n t ns its, d, hs, hl => by
    have hits := fits_of its
    unfold soundJ at hs
    unfold pv at hl
    unfold Fit
    by_cases h1 : k = 1
    · subst h1
      simp at hs
      obtain ⟨⟨rfl, rfl⟩, rfl, rfl⟩ := hs
      exact ⟨by simp, by simp, by simp, fun s h => (by cases h), by unfold Fits; trivial⟩
    rw [if_neg h1] at hs
    by_cases h2 : k = 2
    · subst h2
      simp at hs
      obtain ⟨⟨h01, rfl⟩, rfl, rfl⟩ := hs
      exact ⟨by simp, by simp, by simp, fun s h => (by cases h), by unfold Fits; trivial⟩
    rw [if_neg h2] at hs hl
    by_cases h3 : k = 3
    · subst h3
      simp at hs
      obtain ⟨rfl, rfl, rfl⟩ := hs
      exact ⟨by simp, by simp, by simp, fun s h => (by cases h), by unfold Fits; trivial⟩
    rw [if_neg h3] at hs hl
    by_cases h4 : k = 4
    · subst h4
      simp at hs
      obtain ⟨rfl, rfl, rfl⟩ := hs
      rw [if_pos rfl] at hl
      have := flB_len t
      simp only [ptx, List.length_append, List.length_cons] at hl
      exact ⟨by omega, by simp, by simp, fun s h => (by cases h), by unfold Fits; trivial⟩
    rw [if_neg h4] at hs hl
    by_cases h5 : k = 5
    · subst h5
      simp at hs
      obtain ⟨⟨⟨rfl, rfl⟩, rfl⟩, h16, ha⟩ := hs
      rw [if_pos rfl] at hl
      simp only [List.length_append, List.length_cons] at hl
      obtain ⟨a, b, c⟩ := pis_fit false 65536 its true [] (by omega)
      exact ⟨by simp, by simp, by omega, fun s h => (by cases h), hits (d + 1) ha a⟩
    rw [if_neg h5] at hs hl
    by_cases h6 : k = 6
    · subst h6
      simp at hs
      obtain ⟨⟨⟨⟨rfl, rfl⟩, hn⟩, h16, ha⟩, hnd⟩ := hs
      rw [if_pos rfl] at hl
      simp only [List.length_append, List.length_cons] at hl
      obtain ⟨a, b, c⟩ := pis_fit true 65536 its true ns (by omega)
      exact ⟨by simp, by omega, by omega, fun s h => by have := c rfl hn s h; omega, hits (d + 1) ha a⟩
    rw [if_neg h6] at hs
    cases hs
theorem fits_of : ∀ (its : List Js) (d : Nat), allS its d = true → (∀ x ∈ its, (pv x).length ≤ 65536) → Fits its
  | [], d, h, hl => by unfold Fits; trivial
  | x :: xs, d, h, hl => by
    unfold allS at h
    simp only [Bool.and_eq_true] at h
    unfold Fits
    exact ⟨fit_of x d h.1 (hl x (by simp)), fits_of xs d h.2 (fun y hy => hl y (by simp [hy]))⟩
end
theorem parseJ_fit {s : ByteArray} {v : Js} (h : parseJ s = .ok v) : Fit v := by
  obtain ⟨h1, h2, h3⟩ := parseJ_snd h
  exact fit_of v 0 h1 (by omega)
end Go.Proofs.YtelhgjepjieocaaDoor
