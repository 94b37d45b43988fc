/- Layer 17 (sched): the document's SameInts over two lists that are the same; an argument of type musterlaw17.Game. -/
import Derived.Test.YtagdgecmoeacgaaScPlay
import Derived.Test.YtagdgecmoeacgaaScArgs
import Derived.Test.YtagdgecmoeacgaaRgV
namespace Go.Proofs.Ytagdgecmoeacgaa
open Go.RowKit Go.Deep Go.ChangeShapes Go.WideShapes
set_option linter.unusedVariables false

set_option maxRecDepth 100000 in
set_option maxHeartbeats 1000000 in
theorem sameN_calls (ao bo : Option Addr) (n ca cb : Nat) (l : List Nat) (w : World) (hn : l.length = n) (hl : n ≤ 140737488355328) (ha : VAt w ao (l.map nV)) (hb : VAt w bo (l.map nV)) :
    Calls Try.prog 9 #[.slice ao n ca, .slice bo n cb] w fun e w' => e = .returned (.bool true) ∧ Below w.heap.size w w' := by
  have HA : Hid (VAt w ao (l.map nV) ∧ VAt w bo (l.map nV)) := ⟨ha, hb⟩
  have HN : Hid (l.length = n) := hn
  have hq : ((n : Int) != (n : Int)) = false := by simp
  have HB0 : Hid (Below w.heap.size w w) := Below.refl _ _
  clear ha hb hn
  go_enter Try.func9, Try.ntmps9
  go_wp2
  go_loopw [5] (fun i wr => ∃ k : Nat, k ≤ n ∧ i = .int .i64 k ∧ Hid (Below w.heap.size w wr)) (fun i _ => n - (intOf i).toNat)
  case atStart => exact ⟨0, Nat.zero_le _, rfl, HB0⟩
  case round =>
    obtain ⟨k, hk, rfl, HB⟩ := hrel
    have HQ : Hid (∀ q, Below w.heap.size w (wr.drewN q)) := fun q => HB.out.trans ((below_drawsT wr q).mono HB.out.size)
    by_cases hlt : k < n
    · have hkl : k < (l.map nV).length := by rw [List.length_map, HN.out]; exact hlt
      obtain ⟨b, off, rfl, hc⟩ := (HA.out.1.below HB.out) k hkl
      obtain ⟨b2, off2, rfl, hc2⟩ := (HA.out.2.below HB.out) k hkl
      obtain ⟨c, Hc⟩ : ∃ c : Nat, Hid ((l.map nV)[k] = .int .i64 (c : Int)) := ⟨l[k]'(by rw [HN.out]; exact hlt), by simp [Hid, nV]⟩
      rw [Hc.out] at hc hc2
      clear Hc hkl
      have hqq : ((c : Int) != (c : Int)) = false := by simp
      go_wp2_with fail
      go_quiet (fail)
      go_wp2
      go_roundw
      case rel => exact ⟨k + 1, by omega, by go_num, HQ.out _⟩
      case measure => simp [intOf]; omega
    · go_wp2
      go_ret
      exact ⟨rfl, HB.out⟩

/- The argument of two laws. -/
theorem four_cells {cs : Array Value} (h : cs.size = 4) : ∃ c0 c1 c2 c3, cs = #[c0, c1, c2, c3] := by
  match cs, h with
  | ⟨[c0, c1, c2, c3]⟩, _ => exact ⟨c0, c1, c2, c3, rfl⟩
theorem cells_game : Try.prog.cellsOf 25 = 4 := by kernel_rfl
theorem cells_jobsS : Try.prog.cellsOf 22 = 1 := by kernel_rfl
theorem cells_intsS : Try.prog.cellsOf 23 = 1 := by kernel_rfl
theorem cells_job : Try.prog.cellsOf 32 = 2 := by kernel_rfl
theorem bytes_job : Try.prog.bytesOf 32 = 16 := by kernel_rfl
def jobData {H : Type} (p : Int × Int) : DataW H := .agg [.lit (.int .i64 p.1), .lit (.int .i64 p.2)]
set_option maxRecDepth 100000 in
theorem open_jobs {H : Type} {enc : TypeId × Value → H} {W : World} {fuel : Nat} {ao : Option Addr} {len cap : Nat} {x : DataW H × List MemPlace}
    (h : DataW.trod enc Try.prog W 0 (fun _ => true) true fuel 22 [.slice ao len cap] = some x) :
    ∃ (ps : List (Int × Int)) (spare : List (DataW H)), ps.length = len ∧ (x.1 = .nil ∧ ps = [] ∨ x.1 = .slice (ps.map jobData) spare) ∧ JbAt W ao ps := by
  rcases open_slice Try.underlying22 h with ⟨hc, hx⟩ | ⟨a, len', cap', m, n, D, Pl, hc, hb, hl, hm, hmm, hx, hel⟩
  · simp at hc
    obtain ⟨rfl, rfl, rfl⟩ := hc
    exact ⟨[], [], rfl, .inl ⟨by rw [hx], rfl⟩, fun i hp => by simp at hp⟩
  · simp at hc
    obtain ⟨rfl, rfl, rfl⟩ := hc
    simp only [if_true] at hmm
    subst hmm
    rw [cells_job] at hel
    have each : ∀ i, i < len → ∃ p : Int × Int, D i = jobData p ∧ W.cell? (a.add (i * 2)) = some (.int .i64 p.1) ∧ W.cell? (a.add (i * 2 + 1)) = some (.int .i64 p.2) := by
      intro i hi
      obtain ⟨cs', h1, h2⟩ := hel i (by omega)
      obtain ⟨_, hlen, hcell⟩ := World.cells?_some h1
      match cs', hlen with
      | [v0, v1], _ =>
        obtain ⟨xs, k, hk, hxy, _, hxl, hf⟩ := DataW.trod_struct Try.underlying32 h2
        match xs, hxl with
        | [y0, y1], _ =>
          have g0 := hf 0 _ rfl
          have g1 := hf 1 _ rfl
          simp [cells_intS] at g0 g1
          obtain ⟨n0, q0, r0, w0⟩ := DataW.trod_int Try.underlying3 g0
          obtain ⟨n1, q1, r1, w1⟩ := DataW.trod_int Try.underlying3 g1
          simp at q0 q1
          subst q0 q1
          have e0 := hcell 0 (by omega)
          have e1 := hcell 1 (by omega)
          rw [add_add] at e0 e1
          refine ⟨(n0, n1), ?_, by simpa using e0, by simpa using e1⟩
          have := congrArg Prod.fst hxy
          simpa [jobData, r0, r1] using this
    obtain ⟨f, hf⟩ : ∃ f : Nat → Int × Int, ∀ i, i < len → _ := @choose_lt (Int × Int) ⟨(0, 0)⟩ len _ each
    refine ⟨(List.range len).map f, (List.range (m - len)).map fun j => D (len + j), by simp, .inr ?_, ?_⟩
    · rw [hx]
      simp only [DataW.slice.injEq, and_true]
      rw [List.map_map]
      exact List.map_congr_left fun i hi => (hf i (List.mem_range.1 hi)).1
    · intro i hi
      have hi' : i < len := by simpa using hi
      obtain ⟨_, c0, c1⟩ := hf i hi'
      obtain ⟨b, off, spot⟩ := a
      have hspot : spot = none := by simpa [Addr.add] using World.cell?_spot (hf 0 (by omega)).2.1
      subst hspot
      rw [addr_add] at c0 c1
      refine ⟨b, off, rfl, by simpa using c0, by simpa [Nat.add_assoc] using c1⟩
theorem jobs_reach {H : Type} {ps : List (Int × Int)} {spare : List (DataW H)} {d : DataW H} (hd : d = .nil ∧ ps = [] ∨ d = .slice (ps.map jobData) spare) (hw : ∀ n ∈ d.weights Try.prog 22, n ≤ reachBytes) : ps.length * 16 ≤ 140737488351232 := by
  rcases hd with ⟨_, rfl⟩ | rfl
  · simp
  · simp only [DataW.weights, Try.underlying22, bytes_job] at hw
    have := hw _ (List.mem_cons_self ..)
    simp only [List.length_map, reachBytes] at this
    omega
theorem slice_cap {H : Type} {enc : TypeId × Value → H} {W : World} {fuel : Nat} {ao : Option Addr} {len cap : Nat} {t e : TypeId} (ht : Try.prog.underlying t = some (.slice e)) {x : DataW H × List MemPlace}
    (h : DataW.trod enc Try.prog W 0 (fun _ => true) true fuel t [.slice ao len cap] = some x) : len ≤ cap := by
  rcases open_slice ht h with ⟨hc, hx⟩ | ⟨a, len', cap', m, n, D, Pl, hc, hb, hl, hm, hmm, hx, hel⟩
  · simp at hc
    omega
  · simp at hc
    obtain ⟨rfl, rfl, rfl⟩ := hc
    exact hl

set_option maxRecDepth 100000 in
/-- A game: its jobs, its picks, its two numbers. -/
theorem open_game {H : Type} {enc : TypeId × Value → H} {W : World} {fuel : Nat} {c0 c1 c2 c3 : Value} {x : DataW H × List MemPlace}
    (h : DataW.trod enc Try.prog W 0 (fun _ => true) true fuel 25 [c0, c1, c2, c3] = some x) :
    ∃ (jo : Option Addr) (jn jc : Nat) (ao : Option Addr) (pn pc : Nat) (m n : Int) (y0 y1 y2 y3 : DataW H × List MemPlace) (k : Nat), c0 = .slice jo jn jc ∧ c1 = .slice ao pn pc ∧ c2 = .int .i64 m ∧ c3 = .int .i64 n ∧ (-9223372036854775808 ≤ m ∧ m ≤ 9223372036854775807) ∧ (-9223372036854775808 ≤ n ∧ n ≤ 9223372036854775807) ∧ x.1 = .agg [y0.1, y1.1, y2.1, y3.1] ∧ DataW.trod enc Try.prog W 0 (fun _ => true) true k 22 [.slice jo jn jc] = some y0 ∧ DataW.trod enc Try.prog W 0 (fun _ => true) true k 23 [.slice ao pn pc] = some y1 := by
  obtain ⟨xs, k, hk, hxy, _, hxl, hf⟩ := DataW.trod_struct Try.underlying25 h
  match xs, hxl with
  | [y0, y1, y2, y3], _ =>
    have g0 := hf 0 _ rfl
    have g1 := hf 1 _ rfl
    have g2 := hf 2 _ rfl
    have g3 := hf 3 _ rfl
    simp [cells_intS, cells_jobsS, cells_intsS] at g0 g1 g2 g3
    obtain ⟨n2, q2, r2, w2⟩ := DataW.trod_int Try.underlying3 g2
    obtain ⟨n3, q3, r3, w3⟩ := DataW.trod_int Try.underlying3 g3
    simp at q2 q3
    subst q2 q3
    obtain ⟨jo, jn, jc, rfl⟩ : ∃ (jo : Option Addr) (jn jc : Nat), c0 = .slice jo jn jc := by
      rcases DataW.trod_slice Try.underlying22 g0 with ⟨hc, _⟩ | ⟨a, len, cap, _, _, _, _, hc, _⟩ <;> (simp at hc; exact ⟨_, _, _, hc⟩)
    obtain ⟨ao, pn, pc, rfl⟩ : ∃ (ao : Option Addr) (pn pc : Nat), c1 = .slice ao pn pc := by
      rcases DataW.trod_slice Try.underlying23 g1 with ⟨hc, _⟩ | ⟨a, len, cap, _, _, _, _, hc, _⟩ <;> (simp at hc; exact ⟨_, _, _, hc⟩)
    exact ⟨jo, jn, jc, ao, pn, pc, n2, n3, y0, y1, y2, y3, k, rfl, rfl, rfl, rfl, i64_bnd w2, i64_bnd w3, by rw [hxy]; rfl, g0, g1⟩
/- Operations in whatever frame. -/
section
variable {o : Oper} {a : Act} {W : World} {K : Act → World → Prop} {Q : Exit → Act → World → Prop}
theorem f_fldGame {x : Operand} {g : Nat} (k : Nat) (hk : k < 4) (ho : o.op = .fieldAddr 25 x k) (hx : a.eval x = .pointer (some ⟨g, 0, none⟩)) (h : K (a.put o.dst (.pointer (some ⟨g, k, none⟩))) W) : o.wp Try.prog a W K Q := by
  obtain rfl | rfl | rfl | rfl : k = 0 ∨ k = 1 ∨ k = 2 ∨ k = 3 := by omega
  all_goals exact wp_valF (v := .pointer (some ⟨g, _, none⟩)) (by unfold execOp; simp only [ho, hx]; go_simp) h
theorem f_loadJs {x : Operand} {p k : Nat} {b : Option Addr} {n c : Nat} (ho : o.op = .load 22 x) (hx : a.eval x = .pointer (some ⟨p, k, none⟩)) (hc : W.cell? ⟨p, k, none⟩ = some (.slice b n c)) (h : K (a.put o.dst (.slice b n c)) W) : o.wp Try.prog a W K Q :=
  wp_valF (v := .slice b n c) (by unfold execOp; simp only [ho, hx]; simp [hc, go_sem]) h
theorem f_loadIs {x : Operand} {p k : Nat} {b : Option Addr} {n c : Nat} (ho : o.op = .load 23 x) (hx : a.eval x = .pointer (some ⟨p, k, none⟩)) (hc : W.cell? ⟨p, k, none⟩ = some (.slice b n c)) (h : K (a.put o.dst (.slice b n c)) W) : o.wp Try.prog a W K Q :=
  wp_valF (v := .slice b n c) (by unfold execOp; simp only [ho, hx]; simp [hc, go_sem]) h
theorem f_loadIn {x : Operand} {p k : Nat} {n : Int} (ho : o.op = .load 3 x) (hx : a.eval x = .pointer (some ⟨p, k, none⟩)) (hc : W.cell? ⟨p, k, none⟩ = some (.int .i64 n)) (h : K (a.put o.dst (.int .i64 n)) W) : o.wp Try.prog a W K Q :=
  wp_valF (v := .int .i64 n) (by unfold execOp; simp only [ho, hx]; simp [hc, go_sem]) h
theorem f_asg {x : Operand} {v : Value} (ho : o.op = .assign x) (hx : a.eval x = v) (h : K (a.put o.dst v) W) : o.wp Try.prog a W K Q :=
  wp_valF (v := v) (by unfold execOp; simp only [ho, hx]; simp [go_sem]) h
end
end Go.Proofs.Ytagdgecmoeacgaa
