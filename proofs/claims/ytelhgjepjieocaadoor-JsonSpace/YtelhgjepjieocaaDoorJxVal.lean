/- Layer 18 (json): values, plain and in memory. -/
import Derived.Test.YtelhgjepjieocaaDoorJxName
namespace Go.Proofs.YtelhgjepjieocaaDoor
open Go.RowKit Go.Sort
set_option linter.unusedVariables false

inductive Js where
  | mk (k n : Int) (t : List UInt8) (ns : List (List UInt8)) (its : List Js)
def plR : Option (Int × Int × List UInt8) → Except Int (Js × List UInt8)
  | some (k, n, r) => .ok (.mk k n [] [] [], r)
  | none => .error 181
def txR : Option (List UInt8 × List UInt8) → Except Int (Js × List UInt8)
  | some (t, r) => .ok (.mk 4 0 t [] [], r)
  | none => .error 181
/-- The name of a pair, and what comes behind it; in a list: none. -/
def elN (kind : Int) (ns : List (List UInt8)) (l : List UInt8) : Except Int (List (List UInt8) × List UInt8) :=
  if kind = 6 then (match nameP ns l with
    | .ok (t, r) => .ok (ns ++ [t], r)
    | .error c => .error c) else .ok (ns, l)
mutual
/-- A value at the front, in so many lists and objects. -/
def bareF : Nat → Nat → List UInt8 → Except Int (Js × List UInt8)
  | 0, _, _ => .error 181
  | k + 1, d, l =>
    if hdN l = some 91 then (if d = 16 then .error 182 else if hdN (spL l.tail) = some 93 then .ok (.mk 5 0 [] [] [], (spL l.tail).tail) else elF k 5 93 d (spL l.tail) [] [])
    else if hdN l = some 123 then (if d = 16 then .error 182 else if hdN (spL l.tail) = some 125 then .ok (.mk 6 0 [] [] [], (spL l.tail).tail) else elF k 6 125 d (spL l.tail) [] [])
    else if hdN l = some 34 then txR (textP l)
    else if hdN l = some 45 ∨ dgN ((hdN l).getD 0) = true then plR (numP l)
    else plR (wordP l)
/-- The rest of a list or object, an item first. -/
def elF : Nat → Int → Nat → Nat → List UInt8 → List (List UInt8) → List Js → Except Int (Js × List UInt8)
  | 0, _, _, _, _, _, _ => .error 181
  | k + 1, kind, e, d, l, ns, its => match elN kind ns l with
    | .error c => .error c
    | .ok (ns', l1) => match bareF k (d + 1) (spL l1) with
      | .error c => .error c
      | .ok (x, r) => if hdN (spL r) = some e then .ok (.mk kind 0 [] ns' (its ++ [x]), (spL r).tail)
        else if hdN (spL r) = some 44 then elF k kind e d (spL r).tail ns' (its ++ [x])
        else .error 181
end

/-! ### in memory -/
def strV (t : List UInt8) : Value := .string (nmB t)
mutual
/-- The five cells cs are the value; its slices' blocks are in S. -/
def JAt (w : World) (S : Nat → Prop) : Js → Array Value → Prop
  | .mk k n t ns its, cs => ∃ na nc ia ic, cs = jC k n (nmB t) (.slice na ns.length nc) (.slice ia its.length ic) ∧ VAt w na (ns.map strV) ∧ (∀ a, na = some a → ns ≠ [] → S a.block) ∧ (∀ a, ia = some a → its ≠ [] → S a.block) ∧ ItAt w S ia 0 its
def ItAt (w : World) (S : Nat → Prop) (ia : Option Addr) : Nat → List Js → Prop
  | _, [] => True
  | k, x :: xs => (∃ b off cs, ia = some ⟨b, off, none⟩ ∧ cs.size = 5 ∧ (∀ j u, cs[j]? = some u → w.cell? ⟨b, off + k * 5 + j, none⟩ = some u) ∧ JAt w S x cs) ∧ ItAt w S ia (k + 1) xs
end
theorem cell_frm {T : Nat → Prop} {w w' : World} (hf : Frm T w w') {b i : Nat} {u : Value} (h : w.cell? ⟨b, i, none⟩ = some u) (hn : ¬ T b) : w'.cell? ⟨b, i, none⟩ = some u := by
  rw [World.cell?_of_block (a := ⟨b, i, none⟩) (hf.block b (World.block_lt_of_cell? w ⟨b, i, none⟩ h) hn)]
  exact h
theorem VAt.frmN {T S : Nat → Prop} {w w' : World} {na : Option Addr} {ns : List (List UInt8)} (h : VAt w na (ns.map strV)) (hf : Frm T w w') (hd : ∀ k, S k → ¬ T k) (hs : ∀ a, na = some a → ns ≠ [] → S a.block) : VAt w' na (ns.map strV) := by
  intro i hi
  obtain ⟨b, off, e, hc⟩ := h i hi
  exact ⟨b, off, e, cell_frm hf hc (hd _ (hs _ e (by rintro rfl; exact absurd hi (Nat.not_lt_zero _))))⟩
mutual
theorem JAt.frm {T S : Nat → Prop} {w w' : World} (hf : Frm T w w') (hd : ∀ k, S k → ¬ T k) : ∀ (v : Js) (cs : Array Value), JAt w S v cs → JAt w' S v cs
  | .mk k n t ns its, cs, h => by
    unfold JAt at h ⊢
    obtain ⟨na, nc, ia, ic, h1, h2, h3, h4, h5⟩ := h
    exact ⟨na, nc, ia, ic, h1, VAt.frmN h2 hf hd h3, h3, h4, ItAt.frm hf hd its ia 0 h4 h5⟩
theorem ItAt.frm {T S : Nat → Prop} {w w' : World} (hf : Frm T w w') (hd : ∀ k, S k → ¬ T k) : ∀ (its : List Js) (ia : Option Addr) (k : Nat), (∀ a, ia = some a → its ≠ [] → S a.block) → ItAt w S ia k its → ItAt w' S ia k its
  | [], ia, k, _, h => by unfold ItAt; trivial
  | x :: xs, ia, k, hs, h => by
    unfold ItAt at h ⊢
    obtain ⟨⟨b, off, cs, h1, h2, h3, h4⟩, h5⟩ := h
    exact ⟨⟨b, off, cs, h1, h2, fun j u hu => cell_frm hf (h3 j u hu) (hd _ (hs _ h1 (by simp))), JAt.frm hf hd x cs h4⟩, ItAt.frm hf hd xs ia (k + 1) (fun a e _ => hs a e (by simp)) h5⟩
end
mutual
theorem JAt.mono {S S' : Nat → Prop} {w : World} (hd : ∀ k, S k → S' k) : ∀ (v : Js) (cs : Array Value), JAt w S v cs → JAt w S' v cs
  | .mk k n t ns its, cs, h => by
    unfold JAt at h ⊢
    obtain ⟨na, nc, ia, ic, h1, h2, h3, h4, h5⟩ := h
    exact ⟨na, nc, ia, ic, h1, h2, fun a e h => hd _ (h3 a e h), fun a e h => hd _ (h4 a e h), ItAt.mono hd its ia 0 h5⟩
theorem ItAt.mono {S S' : Nat → Prop} {w : World} (hd : ∀ k, S k → S' k) : ∀ (its : List Js) (ia : Option Addr) (k : Nat), ItAt w S ia k its → ItAt w S' ia k its
  | [], ia, k, h => by unfold ItAt; trivial
  | x :: xs, ia, k, h => by
    unfold ItAt at h ⊢
    obtain ⟨⟨b, off, cs, h1, h2, h3, h4⟩, h5⟩ := h
    exact ⟨⟨b, off, cs, h1, h2, h3, JAt.mono hd x cs h4⟩, ItAt.mono hd xs ia (k + 1) h5⟩
end
/-- The cells of values, one behind the other. -/
def flC (css : List (Array Value)) : List Value := css.flatMap (·.toList)
theorem flC_length {css : List (Array Value)} (h : ∀ cs ∈ css, cs.size = 5) : (flC css).length = css.length * 5 := by
  induction css with
  | nil => rfl
  | cons c css ih =>
    have h1 := h c (List.mem_cons_self ..)
    have h2 := ih fun x hx => h x (List.mem_cons_of_mem _ hx)
    simp only [flC, List.flatMap_cons, List.length_append, Array.length_toList, List.length_cons] at h2 ⊢
    omega
theorem flC_at : ∀ (css : List (Array Value)) (k : Nat) (hk : k < css.length) (j : Nat) (u : Value), (∀ cs ∈ css, cs.size = 5) → css[k][j]? = some u → (flC css)[k * 5 + j]? = some u
  | c :: css, 0, _, j, u, h, hu => by
    have hj : j < c.toList.length := by
      obtain ⟨h1, _⟩ := Array.getElem?_eq_some_iff.1 hu
      simpa using h1
    show (c.toList ++ flC css)[0 * 5 + j]? = _
    rw [Nat.zero_mul, Nat.zero_add, List.getElem?_append_left hj, Array.getElem?_toList]
    exact hu
  | c :: css, k + 1, hk, j, u, h, hu => by
    have h5 := h c (List.mem_cons_self ..)
    have ih := flC_at css k (by simpa using hk) j u (fun x hx => h x (List.mem_cons_of_mem _ hx)) hu
    show (c.toList ++ flC css)[(k + 1) * 5 + j]? = _
    rw [List.getElem?_append_right (by rw [Array.length_toList]; omega), Array.length_toList, h5, show (k + 1) * 5 + j - 5 = k * 5 + j by omega]
    exact ih
/-- The slice v holds the values, in memory of its own. -/
structure OwI (w : World) (B : Nat) (S : Nat → Prop) (v : Value) (its : List Js) (css : List (Array Value)) : Prop where
  row : w.ownsRow B 26 5 v its.length (flC css)
  five : ∀ cs ∈ css, cs.size = 5
  len : css.length = its.length
  at_ : ∀ (k : Nat) (h1 : k < its.length) (h2 : k < css.length), JAt w S its[k] css[k]
theorem OwI.nil (w : World) (B : Nat) (S : Nat → Prop) : OwI w B S (.slice none 0 0) [] [] := ⟨World.ownsRow_nil _ _ _ _, fun c h => (by cases h), rfl, fun k h => absurd h (Nat.not_lt_zero _)⟩
theorem OwI.lt {w : World} {B : Nat} {S : Nat → Prop} {v : Value} {its : List Js} {css : List (Array Value)} (h : OwI w B S v its css) : ∀ k, v.ownBlock = some k → B ≤ k ∧ k < w.heap.size := World.ownsRow.lt h.row
theorem OwI.shape {w : World} {B : Nat} {S : Nat → Prop} {v : Value} {its : List Js} {css : List (Array Value)} (h : OwI w B S v its css) : ∃ ao cap, v = .slice ao its.length cap := by
  rcases h.row.2 with ⟨rfl, h0⟩ | ⟨g, cap, cur, rfl, _⟩
  · exact ⟨none, 0, by rw [h0]⟩
  · exact ⟨_, _, rfl⟩
theorem OwI.frm {T : Nat → Prop} {w w' : World} {B : Nat} {S : Nat → Prop} {v : Value} {its : List Js} {css : List (Array Value)} (h : OwI w B S v its css) (hf : Frm T w w') (hv : ∀ k, v.ownBlock = some k → ¬ T k) (hd : ∀ k, S k → ¬ T k) : OwI w' B S v its css := by
  refine ⟨⟨h.row.1, ?_⟩, h.five, h.len, fun k h1 h2 => JAt.frm hf hd _ _ (h.at_ k h1 h2)⟩
  rcases h.row.2 with h0 | ⟨g, cap, cur, rfl, hb, hg, r⟩
  · exact .inl h0
  · exact .inr ⟨g, cap, cur, rfl, hb, (hf.block g (lt_of_heapT hg) (hv g rfl)).trans hg, r⟩
/-- The whole value, out of its parts. -/
theorem ItAt.of {w : World} {B : Nat} {S : Nat → Prop} {ia : Option Addr} {n ic : Nat} {its : List Js} {css : List (Array Value)} (h : OwI w B S (.slice ia n ic) its css) : ∀ (m k : Nat), m + k = its.length → ItAt w S ia k (its.drop k)
  | 0, k, e => by
    rw [List.drop_of_length_le (by omega)]; unfold ItAt; trivial
  | m + 1, k, e => by
    have hk : k < its.length := by omega
    have hk2 : k < css.length := by rw [h.len]; exact hk
    rw [List.drop_eq_getElem_cons hk]
    unfold ItAt
    refine ⟨?_, ItAt.of h m (k + 1) (by omega)⟩
    rcases h.row.2 with ⟨he, h0⟩ | ⟨g, cap', cur, he, _⟩
    · omega
    · simp only [Value.slice.injEq] at he
      obtain ⟨rfl, rfl, rfl⟩ := he
      refine ⟨g, 0, css[k], rfl, h.five _ (List.getElem_mem hk2), fun j u hu => ?_, h.at_ k hk hk2⟩
      have hj : j < 5 := by
        obtain ⟨h1, _⟩ := Array.getElem?_eq_some_iff.1 hu
        rw [h.five _ (List.getElem_mem hk2)] at h1; exact h1
      rw [Nat.zero_add, World.ownsRow.cellAt h.row (k * 5 + j) (by omega)]
      exact flC_at css k hk2 j u h.five hu
theorem info_js : (Tryd.prog.info? 26).map (fun i => (i.zero, i.size, i.bytes)) = some (some (.agg #[.int .i64 0, .int .i64 0, .string ⟨#[]⟩, .slice none 0 0, .slice none 0 0]), 5, 80) := by kernel_rfl
theorem info_strJ : (Tryd.prog.info? 9).map (fun i => (i.zero, i.size, i.bytes)) = some (some (.string ⟨#[]⟩), 1, 16) := by kernel_rfl
/-- append(items, x), x laid right ahead. -/
theorem append_js (W : World) {ops : Array Oper} {rest : List Oper} {o : Oper} {a : Act} {Q : Exit → Act → World → Prop} (hgd : o.guard = none) (s x : Operand)
    (ho : o.op = .call { callee := .builtin .append, args := #[s, x], argTypes := #[24, 24] })
    (B : Nat) (v : Value) (n : Nat) (l : List Value) (hs : a.eval s = v) (cs : Array Value) (hcs : cs.size = 5) (hone : ∀ u ∈ cs.toList, u.oneCell' = true) (g : Nat) (hx : a.eval x = .slice (some ⟨g, 0, none⟩) 1 1)
    (hg : g = W.heap.size) (hown : W.ownsRow B 26 5 v n l) (hlen : n + 1 ≤ 1048577) (hB : B ≤ W.heap.size)
    (h : ∀ v' w', w'.ownsRow B 26 5 v' (n + 1) (l ++ cs.toList) → Grew W w' v v' → wpList Tryd.prog ops Q rest (a.put o.dst v') w') : wpList Tryd.prog ops Q (o :: rest) a (W.alloc (.cells cs 26)) := by
  obtain ⟨i0, hi, hz0, hz1, hz2⟩ := infoV info_js
  subst hg
  have e : cs = cs.toList.toArray := by simp
  have hc := cells_new W cs.toList 26
  rw [← e] at hc
  refine wpList_append_grew _ hgd s x 24 ho B 26 i0 _ 5 80 Tryd.underlying24 hi hz0 hz1 hz2 rfl (by decide) v n l hs (World.ownsRow.alloc hown _) ⟨W.heap.size, 0, none⟩ 1 1 cs.toList hx (by rw [Array.length_toList, hcs]) hc hone (by unfold maxLen; omega) (by omega) (by simp; omega) ?_
  intro v' w' h1 h2 _
  exact h v' w' h1 h2.ofAlloc
end Go.Proofs.YtelhgjepjieocaaDoor
