/- Single operations in whatever frame, as WatchRuns' regions that draw their order have them. -/
import Derived.Test.YtochfkjpbdfddaaRgGen
import Derived.Test.YtochfkjpbdfddaaWRAdd
import Derived.Deep.MidRow
namespace Go.Proofs.Ytochfkjpbdfddaa
open Go.RowKit
set_option linter.unusedVariables false
section
variable {o : Oper} {a : Act} {W : World} {K : Act → World → Prop} {Q : Exit → Act → World → Prop}
theorem f_neqI {x y : Operand} {n : Int} (ho : o.op = .binOp .neq 3 x y 3) (hx : a.eval x = .int .i64 n) (hy : a.eval y = .int .i64 n) (h : K (a.put o.dst (.bool false)) W) : o.wp Try.prog a W K Q :=
  wp_valF (v := .bool false) (by unfold execOp; simp only [ho, hx, hy]; simp [go_sem]) h
theorem f_idxS {x y : Operand} {g n c b : Nat} (ho : o.op = .indexAddr 26 x y) (hx : a.eval x = .slice (some ⟨g, 0, none⟩) n c) (hy : a.eval y = .int .i64 (b : Int)) (hb : b < n) (h : K (a.put o.dst (.pointer (some ⟨g, b, none⟩))) W) : o.wp Try.prog a W K Q :=
  wp_valF (v := .pointer (some ⟨g, b, none⟩)) (by
    have h1 : (0 : Int) ≤ (b : Int) := by omega
    have h2 : (b : Int) < (n : Int) := by omega
    unfold execOp; simp only [ho, hx, hy]; go_simp) h
theorem f_idxM {x y : Operand} {g n c b : Nat} (ho : o.op = .indexAddr 27 x y) (hx : a.eval x = .slice (some ⟨g, 0, none⟩) n c) (hy : a.eval y = .int .i64 (b : Int)) (hb : b < n) (h : K (a.put o.dst (.pointer (some ⟨g, b * 2, none⟩))) W) : o.wp Try.prog a W K Q :=
  wp_valF (v := .pointer (some ⟨g, b * 2, none⟩)) (by
    have h1 : (0 : Int) ≤ (b : Int) := by omega
    have h2 : (b : Int) < (n : Int) := by omega
    unfold execOp; simp only [ho, hx, hy]; go_simp) h
theorem f_loadPS {x : Operand} {p k : Nat} {s : Option Addr} (ho : o.op = .load 33 x) (hx : a.eval x = .pointer (some ⟨p, k, none⟩)) (hc : W.cell? ⟨p, k, none⟩ = some (.pointer s)) (h : K (a.put o.dst (.pointer s)) W) : o.wp Try.prog a W K Q :=
  wp_valF (v := .pointer s) (by unfold execOp; simp only [ho, hx]; simp [hc, go_sem]) h
theorem f_fldM {x : Operand} {g k : Nat} (ho : o.op = .fieldAddr 38 x 1) (hx : a.eval x = .pointer (some ⟨g, k, none⟩)) (h : K (a.put o.dst (.pointer (some ⟨g, k + 1, none⟩))) W) : o.wp Try.prog a W K Q :=
  wp_valF (v := .pointer (some ⟨g, k + 1, none⟩)) (by unfold execOp; simp only [ho, hx]; go_simp) h
theorem f_loadLI {x : Operand} {p k : Nat} {s : Option Addr} {n c : Nat} (ho : o.op = .load 36 x) (hx : a.eval x = .pointer (some ⟨p, k, none⟩)) (hc : W.cell? ⟨p, k, none⟩ = some (.slice s n c)) (h : K (a.put o.dst (.slice s n c)) W) : o.wp Try.prog a W K Q :=
  wp_valF (v := .slice s n c) (by unfold execOp; simp only [ho, hx]; simp [hc, go_sem]) h
theorem f_loadM {x : Operand} {p k : Nat} {m : Int} {s : Option Addr} {n c : Nat} (ho : o.op = .load 38 x) (hx : a.eval x = .pointer (some ⟨p, k, none⟩)) (h0 : W.cell? ⟨p, k, none⟩ = some (.int .i64 m)) (h1 : W.cell? ⟨p, k + 1, none⟩ = some (.slice s n c)) (h : K (a.put o.dst (.agg #[.int .i64 m, .slice s n c])) W) : o.wp Try.prog a W K Q :=
  wp_valF (v := .agg #[.int .i64 m, .slice s n c]) (by unfold execOp; simp only [ho, hx]; go_simp) h
theorem f_lenI {x : Operand} {s : Option Addr} {n c : Nat} (ho : o.op = .call { callee := .builtin .len, args := #[x], argTypes := #[36] }) (hx : a.eval x = .slice s n c) (h : K (a.put o.dst (.int .i64 n)) W) : o.wp Try.prog a W K Q :=
  wp_valF (v := .int .i64 n) (by
    unfold execOp
    simp only [ho, resolve, invoke, builtin, Sem.run_bind, Sem.run_pure, Result.andThen_ok, List.map_toArray, List.map_cons, List.map_nil, hx]
    go_simp) h
end
end Go.Proofs.Ytochfkjpbdfddaa
