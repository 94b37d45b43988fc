/- Layer 6 (schema): the reader: table, endTable. -/
import Derived.Test.YtbpmahchinblhaaDoorSFun3
namespace Go.Proofs.YtbpmahchinblhaaDoor
open Go.RowKit
set_option linter.unusedVariables false

theorem below_draws (w : World) (m : Nat) : Below w.heap.size w (w.drewN m) := by
  induction m with
  | zero => exact Below.refl _ _
  | succ m ih => exact ih.drew
theorem RdAt.below {w w' : World} {rb : Nat} {v : Value} {ln bg : Int} (h : RdAt w rb v ln bg) (hb : Below w.heap.size w w') : RdAt w' rb v ln bg := (hb.block _ (lt_blk h)).trans h

theorem Tabs.form {w : World} {B : Nat} {v : Value} {ts : List TV} (h : Tabs w B v ts) : ∃ ao cap, v = .slice ao ts.length cap ∧ (0 < ts.length → ∃ g, ao = some ⟨g, 0, none⟩) := row_forms h.row

theorem table_none (rb : Nat) (ao : Option Addr) (cap : Nat) (ln bg : Int) (w : World) (h : RdAt w rb (.slice ao 0 cap) ln bg) :
    Calls Tryd.prog 38 #[.pointer (some ⟨rb, 0, none⟩)] w fun e w' => e = .panicked [{ v := faultV ln 63, recovered := false }] ∧ w' = w := by
  have c0 : w.cell? ⟨rb, 0, none⟩ = some (.slice ao 0 cap) := by rw [cell_blk h]; rfl
  go_enter Tryd.func38, Tryd.ntmps38
  go_wp2_with (go_at_call 25; refine (refuse_do rb _ ln bg 63 w h).mono ?_; rintro e w' ⟨rfl, rfl⟩)
  exact ⟨rfl, rfl, rfl⟩
theorem table_some (rb g n cap : Nat) (ln bg : Int) (w : World) (hn : n < 100) (hcap : n + 1 ≤ cap) (h : RdAt w rb (.slice (some ⟨g, 0, none⟩) (n + 1) cap) ln bg) :
    Calls Tryd.prog 38 #[.pointer (some ⟨rb, 0, none⟩)] w fun e w' => e = .returned (.pointer (some ⟨g, n * 3, none⟩)) ∧ ∃ m, w' = w.drewN m := by
  have c0 : w.cell? ⟨rb, 0, none⟩ = some (.slice (some ⟨g, 0, none⟩) (n + 1) cap) := by rw [cell_blk h]; rfl
  have q0 : ((n : Int) + 1 == 0) = false := by simp; omega
  clear h
  go_enter Tryd.func38, Tryd.ntmps38
  go_wp2_with (go_at_call 25; refine (refuse_not rb 63 w).mono ?_; rintro e w' ⟨rfl, rfl⟩)
  go_quiet (fail)
  go_wp2
  go_ret
  exact ⟨rfl, _, rfl⟩

theorem endTable_none (rb : Nat) (ao : Option Addr) (cap : Nat) (ln bg : Int) (w : World) (h : RdAt w rb (.slice ao 0 cap) ln bg) :
    Calls Tryd.prog 29 #[.pointer (some ⟨rb, 0, none⟩)] w fun e w' => e = .returned (.tuple #[]) ∧ w' = w := by
  have c0 : w.cell? ⟨rb, 0, none⟩ = some (.slice ao 0 cap) := by rw [cell_blk h]; rfl
  clear h
  go_enter Tryd.func29, Tryd.ntmps29
  go_wp2
  go_end0
  exact ⟨rfl, rfl⟩
theorem endTable_bare (rb g n cap : Nat) (xa : Option Addr) (xc : Nat) (ln bg : Int) (w : World) (hn : n < 100) (hcap : n + 1 ≤ cap) (h : RdAt w rb (.slice (some ⟨g, 0, none⟩) (n + 1) cap) ln bg) (hx : w.cell? ⟨g, n * 3 + 2, none⟩ = some (.slice xa 0 xc)) :
    Calls Tryd.prog 29 #[.pointer (some ⟨rb, 0, none⟩)] w fun e w' => e = .panicked [{ v := faultV bg 68, recovered := false }] ∧ ∃ m, w' = w.drewN m := by
  have c0 : w.cell? ⟨rb, 0, none⟩ = some (.slice (some ⟨g, 0, none⟩) (n + 1) cap) := by rw [cell_blk h]; rfl
  have c2 : w.cell? ⟨rb, 2, none⟩ = some (.int .i64 bg) := by rw [cell_blk h]; rfl
  have q0 : decide ((0 : Int) < (n : Int) + 1) = true := by rw [decide_eq_true_eq]; omega
  have H : Hid (RdAt w rb (.slice (some ⟨g, 0, none⟩) (n + 1) cap) ln bg) := h
  clear h
  go_enter Tryd.func29, Tryd.ntmps29
  go_wp2_with (go_at_call 38; refine (table_some rb g n cap ln bg w hn hcap H.out).mono ?_; rintro e w' ⟨rfl, m, rfl⟩)
  exact ⟨rfl, rfl, _, rfl⟩
theorem endTable_full (rb g n cap : Nat) (xa : Option Addr) (xl xc : Nat) (ln bg : Int) (w : World) (hn : n < 100) (hcap : n + 1 ≤ cap) (h : RdAt w rb (.slice (some ⟨g, 0, none⟩) (n + 1) cap) ln bg) (hx : w.cell? ⟨g, n * 3 + 2, none⟩ = some (.slice xa (xl + 1) xc)) :
    Calls Tryd.prog 29 #[.pointer (some ⟨rb, 0, none⟩)] w fun e w' => e = .returned (.tuple #[]) ∧ ∃ m, w' = w.drewN m := by
  have c0 : w.cell? ⟨rb, 0, none⟩ = some (.slice (some ⟨g, 0, none⟩) (n + 1) cap) := by rw [cell_blk h]; rfl
  have q0 : decide ((0 : Int) < (n : Int) + 1) = true := by rw [decide_eq_true_eq]; omega
  have q1 : ((xl : Int) + 1 == 0) = false := by simp; omega
  have H : Hid (RdAt w rb (.slice (some ⟨g, 0, none⟩) (n + 1) cap) ln bg) := h
  clear h
  go_enter Tryd.func29, Tryd.ntmps29
  go_wp2_with (go_at_call 38; refine (table_some rb g n cap ln bg w hn hcap H.out).mono ?_; rintro e w' ⟨rfl, m, rfl⟩)
  go_end0
  exact ⟨rfl, _, rfl⟩

/-- append(s, u), u laid right ahead. -/
theorem append_row (W : World) {ops : Array Oper} {rest : List Oper} {o : Oper} {a : Act} {Q : Exit → Act → World → Prop} (hgd : o.guard = none) (s x : Operand) (t e : TypeId) (z : Value) (size bytes : Nat)
    (ht : Tryd.prog.underlying t = some (.slice e)) (hi : (Tryd.prog.info? e).map (fun i => (i.zero, i.size, i.bytes)) = some (some z, size, bytes)) (hzs : z.cells.size = size) (hsz : 0 < size)
    (ho : o.op = .call { callee := .builtin .append, args := #[s, x], argTypes := #[t, t] })
    (B : Nat) (v : Value) (n : Nat) (l : List Value) (hs : a.eval s = v) (us : List Value) (hus : us.length = size) (h1 : ∀ u ∈ us, u.oneCell' = true) (g : Nat) (cs : Array Value) (hcs : cs = us.toArray) (hx : a.eval x = .slice (some ⟨g, 0, none⟩) 1 1)
    (hg : g = W.heap.size) (hown : W.ownsRow B e size v n l) (hn : n ≤ 4194304) (hlen : (n + 1) * bytes ≤ 140737488355328) (hB : B ≤ W.heap.size)
    (h : ∀ v' w', w'.ownsRow B e size v' (n + 1) (l ++ us) → Grew W w' v v' → wpList Tryd.prog ops Q rest (a.put o.dst v') w') : wpList Tryd.prog ops Q (o :: rest) a (W.alloc (.cells cs e)) := by
  obtain ⟨i0, hi0, hb⟩ := Option.map_eq_some_iff.1 hi
  simp only [Prod.mk.injEq] at hb
  obtain ⟨hz0, hz1, hz2⟩ := hb
  subst hg hcs
  refine wpList_append_grew _ hgd s x t ho B e i0 z size bytes ht hi0 hz0 hz1 hz2 hzs hsz v n l hs (hown.alloc _) ⟨W.heap.size, 0, none⟩ 1 1 us hx (by omega) (cells_new _ _ _) h1 (by unfold maxLen; omega) hlen (by simp; omega) ?_
  intro v' w' h1 h2 _
  exact h v' w' h1 h2.ofAlloc

theorem tcs_snoc (ts : List TV) (t : TV) : tcs (ts ++ [t]) = tcs ts ++ [.string t.n, t.fv, t.xv] := by simp [tcs]
/-- One table more, without fields and indexes. -/
theorem Tabs.push {w w1 : World} {B : Nat} {v v' : Value} {ts : List TV} {n : ByteArray} (h : Tabs w B v ts) (hr : w1.ownsRow B 35 3 v' (ts.length + 1) (tcs ts ++ [.string n, .slice none 0 0, .slice none 0 0])) (hg : Grew w w1 v v') (hn : n.size ≤ 32) (hm : ts.length < 16) :
    Tabs w1 B v' (ts ++ [⟨n, [], none, 0, [], none, 0⟩]) := by
  refine ⟨by rw [List.length_append, tcs_snoc]; exact hr, ?_, ?_, ?_, ?_, by simp; omega, ?_⟩
  · intro t ht
    rcases List.mem_append.1 ht with ht | ht
    · have h1 := h.tab t ht
      exact ⟨row_grew h1.fs hg (rows_ne h1.fs h.row (by decide)), row_grew h1.xs hg (rows_ne h1.xs h.row (by decide)), fun x hx => row_grew (h1.ov x hx) hg (rows_ne (h1.ov x hx) h.row (by decide))⟩
    · simp at ht; subst ht
      exact ⟨World.ownsRow_nil _ _ _ _, World.ownsRow_nil _ _ _ _, fun x hx => by simp at hx⟩
  · rw [List.map_append]; exact h.afs.snoc fun u _ k _ => by simp [Value.ownBlock]
  · rw [List.map_append]; exact h.axs.snoc fun u _ k _ => by simp [Value.ownBlock]
  · rw [List.flatMap_append]; simpa using h.aov
  · intro t ht
    rcases List.mem_append.1 ht with ht | ht
    · exact h.ok t ht
    · simp at ht; subst ht
      exact ⟨hn, fun f hf => by simp at hf, by simp, by simp, fun x hx => by simp at hx⟩

def tbs (ts : List TV) : List Tb := ts.map TV.tb

/-- The reader behind a line: given up, or its new state in memory. -/
def Behind (B : Nat) (w : World) (rb : Nat) (ln : Int) (o : Out) (e : Ending) (w' : World) : Prop :=
  match o with
  | .error (l, c) => e = .panicked [{ v := faultV l c, recovered := false }] ∧ Fr B w w'
  | .ok (us, bg) => e = .returned (.tuple #[]) ∧ Fr B w w' ∧ ∃ v' ts', tbs ts' = us ∧ RdAt w' rb v' ln bg ∧ Tabs w' B v' ts'
end Go.Proofs.YtbpmahchinblhaaDoor
