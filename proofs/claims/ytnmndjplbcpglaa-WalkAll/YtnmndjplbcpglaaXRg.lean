import Derived.Test.YtnmndjplbcpglaaRgInv
import Derived.Test.YtnmndjplbcpglaaXBuilt4
import Derived.Laws.Tables
import Derived.Test.YtnmndjplbcpglaaChecked
import Derived.WalkKit
import Derived.Laws.Rows
/- Single operations in whatever frame, for regions that draw their order (RgInv), of every seat: moves, picks. -/
namespace Go.Proofs.Ytnmndjplbcpglaa
open Go.RowKit
set_option linter.unusedVariables false

theorem add_off (g j : Nat) : (⟨g, 0, none⟩ : Addr).add j = ⟨g, j, none⟩ := by
  by_cases hj : j = 0
  · subst hj
    simp [Addr.add]
  · simp [Addr.add, hj]
section
variable {P : Program} {o : Oper} {a : Act} {W : World} {K : Act → World → Prop} {Q : Exit → Act → World → Prop}
theorem f_move {x : Operand} {v : Value} (ho : o.op = .move x) (hx : a.eval x = v) (h : K (a.put o.dst v) W) : o.wp P a W K Q :=
  wp_valF (v := v) (by unfold execOp; simp only [ho, hx]; rfl) h
theorem f_pick {c x y : Operand} {v : Value} (ho : o.op = .pick c x y) (hc : a.eval c = .bool true) (hx : a.eval x = v) (h : K (a.put o.dst v) W) : o.wp P a W K Q :=
  wp_valF (v := v) (by unfold execOp; simp only [ho, hc, hx]; simp [asBool, go_sem]) h
theorem f_pickF {c x y : Operand} {v : Value} (ho : o.op = .pick c x y) (hc : a.eval c = .bool false) (hx : a.eval y = v) (h : K (a.put o.dst v) W) : o.wp P a W K Q :=
  wp_valF (v := v) (by unfold execOp; simp only [ho, hc, hx]; simp [asBool, go_sem]) h
end
end Go.Proofs.Ytnmndjplbcpglaa

/- Single operations in whatever frame, as the document's Trim and the laws of layer 4 have them in regions that draw their order. -/
namespace Go.Proofs.Ytnmndjplbcpglaa
open Go.RowKit
set_option linter.unusedVariables false
section
variable {o : Oper} {a : Act} {W : World} {K : Act → World → Prop} {Q : Exit → Act → World → Prop}
theorem info_tree5 : (Try.prog.info? 28).map (·.size) = some 5 := by kernel_rfl
theorem f_loadTree {x : Operand} {g : Nat} {v0 v1 v2 v3 v4 : Value} (ho : o.op = .load 28 x) (hx : a.eval x = .pointer (some ⟨g, 0, none⟩)) (hg : W.heap[g]? = some (.cells #[v0, v1, v2, v3, v4] 28)) (h : K (a.put o.dst (.agg #[v0, v1, v2, v3, v4])) W) : o.wp Try.prog a W K Q :=
  wp_load_row 28 x ho g hx 28 #[v0, v1, v2, v3, v4] (0, 0) _ hg Try.underlying28 rfl (by rw [info_tree5]; rfl) h
theorem f_fldTree {x : Operand} {g : Nat} (ho : o.op = .fieldAddr 28 x 0) (hx : a.eval x = .pointer (some ⟨g, 0, none⟩)) (h : K (a.put o.dst (.pointer (some ⟨g, 0, none⟩))) W) : o.wp Try.prog a W K Q :=
  wp_valF (v := .pointer (some ⟨g, 0, none⟩)) (by unfold execOp; simp only [ho, hx]; go_simp) h
theorem f_loadLS {x : Operand} {p k : Nat} {s : Option Addr} {n c : Nat} (ho : o.op = .load 25 x) (hx : a.eval x = .pointer (some ⟨p, k, none⟩)) (hc : W.cell? ⟨p, k, none⟩ = some (.slice s n c)) (h : K (a.put o.dst (.slice s n c)) W) : o.wp Try.prog a W K Q :=
  wp_valF (v := .slice s n c) (by unfold execOp; simp only [ho, hx]; simp [hc, go_sem]) h
theorem f_idxStr {x y : Operand} {g off n c b : Nat} (ho : o.op = .indexAddr 25 x y) (hx : a.eval x = .slice (some ⟨g, off, none⟩) n c) (hy : a.eval y = .int .i64 (b : Int)) (hb : b < n) (h : K (a.put o.dst (.pointer (some ⟨g, off + b, none⟩))) W) : o.wp Try.prog a W K Q :=
  wp_valF (v := .pointer (some ⟨g, off + b, none⟩)) (by
    have h1 : (0 : Int) ≤ (b : Int) := by omega
    have h2 : (b : Int) < (n : Int) := by omega
    unfold execOp; simp only [ho, hx, hy]; go_simp) h
theorem f_loadS {x : Operand} {p k : Nat} {s : ByteArray} (ho : o.op = .load 9 x) (hx : a.eval x = .pointer (some ⟨p, k, none⟩)) (hc : W.cell? ⟨p, k, none⟩ = some (.string s)) (h : K (a.put o.dst (.string s)) W) : o.wp Try.prog a W K Q :=
  wp_valF (v := .string s) (by unfold execOp; simp only [ho, hx]; simp [hc, go_sem]) h
theorem f_ext {x : Operand} {k : Nat} {vs : Array Value} {v : Value} (ho : o.op = .extract x k) (hx : a.eval x = .tuple vs) (hv : vs[k]? = some v) (h : K (a.put o.dst v) W) : o.wp Try.prog a W K Q :=
  wp_valF (v := v) (by unfold execOp; simp only [ho, hx]; simp [hv, go_sem]) h
theorem setRow_put5 {W : World} {b : Nat} {c0 c1 c2 c3 c4 : Value} (hb : W.heap[b]? = some (.cells #[c0, c1, c2, c3, c4] 28)) (x0 x1 x2 x3 x4 : Value) : W.setRow b #[x0, x1, x2, x3, x4] = put5 W b x0 x1 x2 x3 x4 := by
  unfold put5
  rw [setCell_eq_setRow W b 0 _ _ _ x0 hb, setCell_eq_setRow _ b 1 _ _ _ x1 (setRow_heap _ _ _ _ _ _ hb), setRow_setRow, setCell_eq_setRow _ b 2 _ _ _ x2 (setRow_heap _ _ _ _ _ _ hb), setRow_setRow, setCell_eq_setRow _ b 3 _ _ _ x3 (setRow_heap _ _ _ _ _ _ hb), setRow_setRow, setCell_eq_setRow _ b 4 _ _ _ x4 (setRow_heap _ _ _ _ _ _ hb), setRow_setRow]
  rfl
theorem f_storeTree {x y : Operand} {g : Nat} {c0 c1 c2 c3 c4 : Value} {a0 a1 a2 a3 a4 : Option Addr} {n0 n1 n2 n3 n4 p0 p1 p2 p3 p4 : Nat} (ho : o.op = .store 28 x y) (hx : a.eval x = .pointer (some ⟨g, 0, none⟩)) (hy : a.eval y = .agg #[.slice a0 n0 p0, .slice a1 n1 p1, .slice a2 n2 p2, .slice a3 n3 p3, .slice a4 n4 p4]) (hg : W.heap[g]? = some (.cells #[c0, c1, c2, c3, c4] 28)) (h : K (a.put o.dst undef) (put5 W g (.slice a0 n0 p0) (.slice a1 n1 p1) (.slice a2 n2 p2) (.slice a3 n3 p3) (.slice a4 n4 p4))) : o.wp Try.prog a W K Q :=
  wp_store_row 28 x y ho g _ hx hy 28 #[c0, c1, c2, c3, c4] hg (by rw [info_tree5]; rfl) rfl (by simp [Value.oneCell']) (by rw [setRow_put5 hg]; exact h)
theorem map3 {f : Operand → Value} {x y z : Operand} {u v t : Value} (h : f x = u) (k : f y = v) (l : f z = t) : (#[x, y, z] : Array Operand).map f = #[u, v, t] := by simp [h, k, l]
end
end Go.Proofs.Ytnmndjplbcpglaa
