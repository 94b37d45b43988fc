/- Layer 17 (sched): the document's history grows. -/
import Derived.Test.YtagdgecmoeacgaaScRefA
namespace Go.Proofs.Ytagdgecmoeacgaa
open Go.RowKit
set_option linter.unusedVariables false

def hsC (H : List He) : List Value := H.flatMap fun x => [.slice x.ao x.r.length x.cap, .int .i64 x.ch]
theorem hsC_length (H : List He) : (hsC H).length = H.length * 2 := by
  induction H with
  | nil => rfl
  | cons j js ih => simp only [hsC, List.flatMap_cons, List.length_append, List.length_cons, List.length_nil] at ih ⊢; omega
theorem hsC_at : ∀ (H : List He) (k : Nat) (h : k < H.length), (hsC H)[k * 2]? = some (.slice H[k].ao H[k].r.length H[k].cap) ∧ (hsC H)[k * 2 + 1]? = some (.int .i64 H[k].ch)
  | j :: js, 0, _ => ⟨rfl, rfl⟩
  | j :: js, k + 1, h => by
    have := hsC_at js k (by simpa using h)
    have e : hsC (j :: js) = [.slice j.ao j.r.length j.cap, .int .i64 j.ch] ++ hsC js := rfl
    rw [e, List.getElem?_append_right (by simp; omega), List.getElem?_append_right (by simp; omega)]
    simp only [List.length_cons, List.length_nil, List.getElem_cons_succ]
    rw [show (k + 1) * 2 - (0 + 1 + 1) = k * 2 by omega, show (k + 1) * 2 + 1 - (0 + 1 + 1) = k * 2 + 1 by omega]
    exact this
theorem hsC_append (H K : List He) : hsC (H ++ K) = hsC H ++ hsC K := by simp [hsC]
theorem hsC_one (H : List He) : ∀ u ∈ hsC H, u.oneCell' = true := by
  intro u hu
  obtain ⟨x, _, hx⟩ := List.mem_flatMap.1 hu
  simp only [List.mem_cons, List.not_mem_nil, or_false] at hx
  rcases hx with rfl | rfl <;> rfl
theorem HsAt.news {w : World} {ad : Addr} {H : List He} (h : HsAt w (some ad) H) : ∀ j u, (hsC H)[j]? = some u → w.cell? (ad.add j) = some u := by
  intro j u hj
  have hlt : j < H.length * 2 := by have := (List.getElem?_eq_some_iff.1 hj).1; rwa [hsC_length] at this
  have hi : j / 2 < H.length := by omega
  obtain ⟨b, off, e, h0, h1, -⟩ := h (j / 2) hi
  simp only [Option.some.injEq] at e
  subst e
  rw [addr_add]
  obtain ⟨c0, c1⟩ := hsC_at H (j / 2) hi
  rcases Nat.mod_two_eq_zero_or_one j with hr | hr
  · rw [show j / 2 * 2 = j by omega] at c0 h0
    rw [h0, ← c0, hj]
  · rw [show j / 2 * 2 + 1 = j by omega] at c1
    rw [show off + j = off + j / 2 * 2 + 1 by omega, h1, ← c1, hj]
/-- The slice v of calls, of the call's own. -/
def OwH (w : World) (B : Nat) (v : Value) (H : List He) : Prop := w.ownsRow B 66 2 v H.length (hsC H)
theorem OwH.lt {w : World} {B : Nat} {v : Value} {l : List He} (h : OwH w B v l) : ∀ k, v.ownBlock = some k → B ≤ k ∧ k < w.heap.size := World.ownsRow.lt h
theorem OwH.alloc {w : World} {B : Nat} {v : Value} {l : List He} (h : OwH w B v l) (o : Obj) : OwH (w.alloc o) B v l := World.ownsRow.alloc h o
theorem OwH.kept {w w' : World} {B : Nat} {v : Value} {l : List He} (h : OwH w B v l) (hk : ∀ k, v.ownBlock = some k → k < w.heap.size → w'.heap[k]? = w.heap[k]?) : OwH w' B v l := by
  refine ⟨h.1, ?_⟩
  rcases h.2 with h0 | ⟨g, cap, cur, rfl, hb, hg, r⟩
  · exact .inl h0
  · exact .inr ⟨g, cap, cur, rfl, hb, (hk g (by simp [Value.ownBlock]) (lt_of_heapT hg)).trans hg, r⟩
theorem OwH.shape {w : World} {B : Nat} {v : Value} {l : List He} (h : OwH w B v l) : ∃ ao cap, v = .slice ao l.length cap ∧ l.length ≤ cap ∧ (ao = none → cap = 0) := by
  rcases h.2 with ⟨rfl, h0⟩ | ⟨g, cap, cur, rfl, _, _, h1, _⟩
  · exact ⟨none, 0, by rw [h0], by omega, fun _ => rfl⟩
  · exact ⟨_, cap, rfl, h1, fun e => by cases e⟩
theorem OwH.hs {w : World} {B : Nat} {ao : Option Addr} {n cap : Nat} {l : List He} (h : OwH w B (.slice ao n cap) l) (hv : ∀ x ∈ l, VAt w x.ao (x.r.map bV)) : HsAt w ao l := fun k hk => by
  have hc := hsC_at l k hk
  rcases h.2 with ⟨he, h0⟩ | ⟨g, cap', cur, he, _⟩
  · omega
  · simp only [Value.slice.injEq] at he
    obtain ⟨rfl, rfl, rfl⟩ := he
    refine ⟨g, 0, rfl, ?_, ?_, hv _ (List.getElem_mem hk)⟩
    · rw [Nat.zero_add, World.ownsRow.cellAt h (k * 2) (by omega)]; exact hc.1
    · rw [Nat.zero_add, World.ownsRow.cellAt h (k * 2 + 1) (by omega)]; exact hc.2
theorem info_call : (Try.prog.info? 66).map (fun i => (i.zero, i.size, i.bytes)) = some (some (.agg #[.slice none 0 0, .int .i64 0]), 2, 32) := by kernel_rfl
theorem emptyH (W : World) : OwH (W.alloc (.cells #[] 66)) W.heap.size (.slice (some ⟨W.heap.size, 0, none⟩) 0 0) [] := World.ownsRow_lit (size := 2) W #[] 0 (Nat.le_refl _) (by unfold maxLen; omega) rfl
/-- append(calls, c.Calls...). -/
theorem append_hs (W : World) {ops : Array Oper} {rest : List Oper} {o : Oper} {a : Act} {Q : Exit → Act → World → Prop} (hgd : o.guard = none) (s x : Operand)
    (ho : o.op = .call { callee := .builtin .append, args := #[s, x], argTypes := #[48, 48] })
    (B : Nat) (v : Value) (hs : a.eval s = v) (hown : OwH W B v []) (ha : Option Addr) (n c : Nat) (H : List He) (hx : a.eval x = .slice ha n c) (hn : H.length = n) (hnil : ha = none → c = 0 ∧ n = 0) (hp : HsAt W ha H) (hlen : n ≤ 1099511627776) (hB : B ≤ W.heap.size)
    (h : ∀ v' w', OwH w' B v' H → Grew W w' v v' → wpList Try.prog ops Q rest (a.put o.dst v') w') : wpList Try.prog ops Q (o :: rest) a W := by
  obtain ⟨i0, hi, hz0, hz1, hz2⟩ := infoV info_call
  subst hn
  cases ha with
  | none =>
    obtain ⟨rfl, h0⟩ := hnil rfl
    obtain rfl : H = [] := List.length_eq_zero_iff.1 h0
    refine wpList_plain hgd fun K hK => ?_
    have hrun := run_append_owned_none (P := Try.prog) (w := W) B 48 o.type 66 i0 2 Try.underlying48 hi v 0 (hsC []) hown
    unfold Oper.wp execOp
    simp only [ho, resolve, invoke, builtin, Sem.run_bind, Sem.run_pure, Result.andThen_ok, List.map_toArray, List.map_cons, List.map_nil, hs, hx, List.length_nil, hrun]
    exact hK _ _ (h v W hown (Grew.refl _ _))
  | some ad =>
    refine wpList_append_grew _ hgd s x 48 ho B 66 i0 _ 2 32 Try.underlying48 hi hz0 hz1 hz2 rfl (by decide) v 0 (hsC []) hs hown ad H.length c (hsC H) hx (hsC_length H) hp.news (hsC_one H) (by unfold maxLen; omega) (by omega) hB ?_
    intro v' w' h2 h3 h4
    rw [Nat.zero_add] at h2
    exact h v' w' h2 h3
/-- append(calls, Call{own, chosen}). -/
theorem append_h1 (W : World) {ops : Array Oper} {rest : List Oper} {o : Oper} {a : Act} {Q : Exit → Act → World → Prop} (hgd : o.guard = none) (s x : Operand)
    (ho : o.op = .call { callee := .builtin .append, args := #[s, x], argTypes := #[48, 48] })
    (B : Nat) (v : Value) (H : List He) (hs : a.eval s = v) (j : He) (n : Nat) (hjn : j.r.length = n) (g : Nat) (hx : a.eval x = .slice (some ⟨g, 0, none⟩) 1 1)
    (hg : g = W.heap.size) (hown : OwH W B v H) (hlen : H.length + 1 ≤ 1099511627776) (hB : B ≤ W.heap.size)
    (h : ∀ v' w', OwH w' B v' (H ++ [j]) → Grew W w' v v' → wpList Try.prog ops Q rest (a.put o.dst v') w') : wpList Try.prog ops Q (o :: rest) a (W.alloc (.cells #[.slice j.ao n j.cap, .int .i64 j.ch] 66)) := by
  obtain ⟨i0, hi, hz0, hz1, hz2⟩ := infoV info_call
  subst hg
  subst hjn
  refine wpList_append_grew _ hgd s x 48 ho B 66 i0 _ 2 32 Try.underlying48 hi hz0 hz1 hz2 rfl (by decide) v H.length (hsC H) hs (hown.alloc _) ⟨W.heap.size, 0, none⟩ 1 1 [.slice j.ao j.r.length j.cap, .int .i64 j.ch] hx rfl (cells_new _ _ _) (by simp [Value.oneCell']) (by unfold maxLen; omega) (by omega) (by simp; omega) ?_
  intro v' w' h1 h2 _
  refine h v' w' ?_ h2.ofAlloc
  unfold OwH
  rw [List.length_append, hsC_append]
  exact h1
end Go.Proofs.Ytagdgecmoeacgaa
