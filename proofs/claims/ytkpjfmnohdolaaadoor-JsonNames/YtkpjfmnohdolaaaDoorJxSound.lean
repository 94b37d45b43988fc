/- Layer 18 (json): which values are sound: hasParts, unlike. -/
import Derived.Test.YtkpjfmnohdolaaaDoorJxParse
namespace Go.Proofs.YtkpjfmnohdolaaaDoor
open Go.RowKit Go.MapKept Go.Sort
set_option linter.unusedVariables false

mutual
def soundJ : Js → Nat → Bool
  | .mk k n t ns its, d =>
    if k = 1 then n == 0 && t.isEmpty && (ns.isEmpty && its.isEmpty)
    else if k = 2 then (n == 0 || n == 1) && t.isEmpty && (ns.isEmpty && its.isEmpty)
    else if k = 3 then t.isEmpty && (ns.isEmpty && its.isEmpty)
    else if k = 4 then n == 0 && (ns.isEmpty && its.isEmpty)
    else if k = 5 then n == 0 && t.isEmpty && ns.isEmpty && (decide (d < 16) && allS its (d + 1))
    else if k = 6 then n == 0 && t.isEmpty && decide (ns.length = its.length) && (decide (d < 16) && allS its (d + 1)) && decide ns.Nodup
    else false
def allS : List Js → Nat → Bool
  | [], _ => true
  | x :: xs, d => soundJ x d && allS xs d
end
theorem hasParts_calls (k n : Int) (t : ByteArray) (na ia : Option Addr) (nl nc il ic : Nat) (w : World) :
    Calls Tryd.prog 46 #[.agg (jC k n t (.slice na nl nc) (.slice ia il ic))] w fun e w' => e = .returned (.bool (decide (0 < nl) || decide (0 < il))) ∧ Below w.heap.size w w' := by
  obtain ⟨w1, Hw1⟩ : ∃ w1, Hid (w1 = w.alloc (.cells #[.int .i64 k, .int .i64 n, .string t, .slice na nl nc, .slice ia il ic] 26)) := ⟨_, rfl⟩
  obtain ⟨g, Hg⟩ : ∃ g, Hid (g = w.heap.size) := ⟨_, rfl⟩
  have HB1 : Hid (Blk w1 g #[.int .i64 k, .int .i64 n, .string t, .slice na nl nc, .slice ia il ic] 26) := by rw [Hid, Hw1.out, Hg.out]; exact Blk.new _ _ _
  have HF1 : Hid (Below w.heap.size w w1) := by rw [Hid, Hw1.out]; exact below_new _ _
  obtain ⟨x0, x1, x2, x3, x4, -⟩ := Blk.five HB1.out
  unfold jC
  by_cases hn : 0 < nl
  · have HZ : Hid ((decide (0 < nl) || decide (0 < il)) = true) := by simp [Hid, hn]
    go_enter Tryd.func46, Tryd.ntmps46
    go_upto_region 1 with fail
    rw [← Hw1.out, ← Hg.out]
    go_wp2
    go_ret
    exact ⟨by rw [HZ.out]; rfl, HF1.out⟩
  · by_cases hi : 0 < il
    · have HZ : Hid ((decide (0 < nl) || decide (0 < il)) = true) := by simp [Hid, hi]
      go_enter Tryd.func46, Tryd.ntmps46
      go_upto_region 1 with fail
      rw [← Hw1.out, ← Hg.out]
      go_wp2
      go_ret
      exact ⟨by rw [HZ.out]; rfl, HF1.out⟩
    · have HZ : Hid ((decide (0 < nl) || decide (0 < il)) = false) := by simp [Hid]; omega
      go_enter Tryd.func46, Tryd.ntmps46
      go_upto_region 1 with fail
      rw [← Hw1.out, ← Hg.out]
      go_wp2
      go_ret
      exact ⟨by rw [HZ.out]; rfl, HF1.out⟩
/-- A key that is there is put in again. -/
theorem MapAt.again {w : World} {mb clock : Nat} {es : Array MapEntry} {ks : List ByteArray} (h : MapAt w mb es clock ks) (k : ByteArray) (hn : k ∈ ks) :
    ∃ w' es', (Instr.mapUpdate 87 (.map (some mb)) (.string k) (.agg #[])).run Tryd.prog w = .ok () w' ∧ MapAt w' mb es' clock ks ∧ Frm (fun k => k = mb) w w' := by
  have hk : IsKey .string (.string k) := trivial
  rcases findNow_spec hk es.toList 0 h.isKey with ⟨h1, h2⟩ | ⟨j, e, h1, h2, h3⟩
  · obtain ⟨x, hx, he⟩ := (h.mem k).2 hn
    exact absurd he (h2 x hx)
  · have ej : es[j]? = some e := by simpa using h2
    have hsb : Instr.sameBits 10000 (.string k) (.string k) = true := by
      have hkk : (k == k) = true := by
        cases k with
        | mk dt => exact (beq_self_eq_true dt)
      simp [Instr.sameBits, hkk]
    have hks : (Instr.keyThatStays (.string k) (.string k)).run Tryd.prog w = .ok (.string k) w := by simp [Instr.keyThatStays, hsb]
    have hf : ∀ x : MapEntry, es[j]? = some x → (.string k : Value) = x.key := fun x hx => by
      rw [ej] at hx; cases hx; exact h3.symm
    refine ⟨{ w with heap := w.heap.setIfInBounds mb (.map (es.modify j (fun e => { key := .string k, val := .agg #[], born := e.born })) clock) }, es.modify j (fun e => { key := .string k, val := .agg #[], born := e.born }), ?_, ?_, ?_⟩
    · simp [Instr.mapUpdate, run_underlying Tryd.underlying87, MapKept.run_getObj_map h.blk, MapKept.run_checkKey Tryd.underlying9 hk, MapKept.run_findKey Tryd.underlying9 h1, Result.andThen, ej, h3, hks, MapKept.run_setObj_map _ h.blk]
    · refine ⟨by simp [lt_of_heapT h.blk], stamped_modify h.st j _ (fun _ _ => rfl) (fun x _ hx => hf x hx), ?_, fun x hx => ?_⟩
      · rw [← h.keys, Array.toList_modify]
        apply List.ext_getElem?
        intro i
        rw [List.getElem?_map, List.getElem?_map, List.getElem?_modify]
        by_cases hij : j = i
        · subst hij
          rw [h2]
          simp [h3]
        · simp [hij]
      · rw [Array.toList_modify] at hx
        obtain ⟨i, hi⟩ := List.mem_iff_getElem?.1 hx
        rw [List.getElem?_modify] at hi
        cases hq : es.toList[i]? with
        | none => rw [hq] at hi; cases hi
        | some y =>
          rw [hq] at hi
          by_cases hij : j = i
          · simp [hij] at hi; rw [← hi]
          · simp [hij] at hi; rw [← hi]; exact h.vals y (List.mem_of_getElem? hq)
    · refine ⟨rfl, rfl, rfl, by simp, fun b _ hb => ?_⟩
      simp only
      rw [Array.getElem?_setIfInBounds_ne (fun e => hb e.symm)]
theorem len_mapT {w : World} {mb clock : Nat} {es : Array MapEntry} {ks : List ByteArray} (h : MapAt w mb es clock ks) : es.size = ks.length := by
  have := congrArg List.length h.keys
  simpa using this
end Go.Proofs.YtkpjfmnohdolaaaDoor
