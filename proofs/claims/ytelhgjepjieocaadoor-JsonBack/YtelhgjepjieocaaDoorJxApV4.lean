/- Layer 18 (json): appendValue of what has no parts. -/
import Derived.Test.YtelhgjepjieocaaDoorJxApW
namespace Go.Proofs.YtelhgjepjieocaaDoor
open Go.RowKit Go.MapKept Go.Sort
set_option linter.unusedVariables false

theorem cells_w4 : Lib.strCells ⟨#[116, 114, 117, 101]⟩ = nbs [116, 114, 117, 101] := rfl
theorem cells_w5 : Lib.strCells ⟨#[102, 97, 108, 115, 101]⟩ = nbs [102, 97, 108, 115, 101] := rfl
theorem cells_w0 : Lib.strCells ⟨#[110, 117, 108, 108]⟩ = nbs [110, 117, 108, 108] := rfl
set_option maxRecDepth 100000 in
set_option maxHeartbeats 4000000 in
theorem appendV1_calls (n : Int) (t : List UInt8) (ns : List (List UInt8)) (its : List Js) (IH : ∀ x ∈ its, SpecP x) (d nl nc il ic : Nat) (na ia : Option Addr) (w : World) (S : Nat → Prop) (B : Nat) (vt : Value) (l : List Nat)
    (hd : d ≤ 16) (hnl : ns.length = nl) (hil : its.length = il) (hso : soundJ (.mk 1 n t ns its) d = true) (hr : Rng (.mk 1 n t ns its)) (hv : VAt w na (ns.map strV)) (hnS : ∀ a, na = some a → ns ≠ [] → S a.block) (hi : ItAt w S ia 0 its) (hs : ∀ a, ia = some a → its ≠ [] → S a.block) (hSB : ∀ k, S k → k < B) (ho : Ow w B 5 vt (nbs l)) (hl : l.length ≤ 70000) (hB : B ≤ w.heap.size) (htab : TabB B w) :
    Calls Tryd.prog 31 #[vt, .agg (jC 1 n (nmB t) (.slice na nl nc) (.slice ia il ic))] w (TxC w B vt (nbs (valP (.mk 1 n t ns its) l))) := by
  obtain ⟨Q, HQ⟩ : ∃ Q : List Nat, Hid (Q = valP (.mk 1 n t ns its) l) := ⟨valP (.mk 1 n t ns its) l, (Eq.refl _ : valP (.mk 1 n t ns its) l = _)⟩
  rw [← HQ.out]
  obtain ⟨tb, Htb⟩ : ∃ tb : ByteArray, Hid (tb = nmB t) := ⟨nmB t, (Eq.refl _ : nmB t = _)⟩
  have HV : Hid (Q = l ++ [110, 117, 108, 108]) := by rw [Hid, HQ.out]; unfold valP; rfl
  obtain ⟨w1, Hw1⟩ : ∃ w1, Hid (w1 = w.alloc (.cells #[.int .i64 1, .int .i64 n, .string tb, .slice na nl nc, .slice ia il ic] 26)) := ⟨_, rfl⟩
  obtain ⟨g, Hg⟩ : ∃ g, Hid (g = w.heap.size) := ⟨_, rfl⟩
  have HB1 : Hid (Blk w1 g #[.int .i64 1, .int .i64 n, .string tb, .slice na nl nc, .slice ia il ic] 26) := by rw [Hid, Hw1.out, Hg.out]; exact Blk.new _ _ _
  have HF1 : Hid (Below w.heap.size w w1) := by rw [Hid, Hw1.out]; exact below_new _ _
  have HG1 : Hid (Grew w w1 vt vt) := (Grew.refl _ _).below HF1.out
  have HO : Hid (Ow w1 B 5 vt (nbs l) ∧ l.length ≤ 70000 ∧ B ≤ w1.heap.size) := ⟨ho.below HF1.out, hl, Nat.le_trans hB HF1.out.size⟩
  obtain ⟨x0, x1, x2, x3, x4, -⟩ := Blk.five HB1.out
  unfold Rng at hr
  rw [← Htb.out]
  clear IH hv hnS hi hs hSB ho hB hl HQ Htb hso
  unfold jC
  go_enter Tryd.func31, Tryd.ntmps31
  go_upto_region 1 with fail
  rw [← Hw1.out, ← Hg.out]
  clear Hw1 Hg
  go_wp2_with (at_builtin; go_must (refine append_strG w1 rfl _ _ rfl B _ l.length _ (nbs_length l) rfl HO.out.1 ⟨#[110, 117, 108, 108]⟩ rfl (by have := HO.out.2.1; rw [show (⟨#[110, 117, 108, 108]⟩ : ByteArray).size = 4 from rfl]; omega) HO.out.2.2 ?_))
  intro v5 w5 ho5 hg5
  rw [cells_w0, ← nbs_append] at ho5
  go_wp2
  go_ret
  refine ⟨_, rfl, ?_, HG1.out.trans hg5⟩
  rw [HV.out]
  exact ho5

set_option maxRecDepth 100000 in
set_option maxHeartbeats 4000000 in
theorem appendV2_calls (n : Int) (t : List UInt8) (ns : List (List UInt8)) (its : List Js) (IH : ∀ x ∈ its, SpecP x) (d nl nc il ic : Nat) (na ia : Option Addr) (w : World) (S : Nat → Prop) (B : Nat) (vt : Value) (l : List Nat)
    (hd : d ≤ 16) (hnl : ns.length = nl) (hil : its.length = il) (hso : soundJ (.mk 2 n t ns its) d = true) (hr : Rng (.mk 2 n t ns its)) (hv : VAt w na (ns.map strV)) (hnS : ∀ a, na = some a → ns ≠ [] → S a.block) (hi : ItAt w S ia 0 its) (hs : ∀ a, ia = some a → its ≠ [] → S a.block) (hSB : ∀ k, S k → k < B) (ho : Ow w B 5 vt (nbs l)) (hl : l.length ≤ 70000) (hB : B ≤ w.heap.size) (htab : TabB B w) :
    Calls Tryd.prog 31 #[vt, .agg (jC 2 n (nmB t) (.slice na nl nc) (.slice ia il ic))] w (TxC w B vt (nbs (valP (.mk 2 n t ns its) l))) := by
  obtain ⟨Q, HQ⟩ : ∃ Q : List Nat, Hid (Q = valP (.mk 2 n t ns its) l) := ⟨valP (.mk 2 n t ns its) l, (Eq.refl _ : valP (.mk 2 n t ns its) l = _)⟩
  rw [← HQ.out]
  obtain ⟨tb, Htb⟩ : ∃ tb : ByteArray, Hid (tb = nmB t) := ⟨nmB t, (Eq.refl _ : nmB t = _)⟩
  have HV : Hid (Q = l ++ (if n = 1 then [116, 114, 117, 101] else [102, 97, 108, 115, 101])) := by rw [Hid, HQ.out]; unfold valP; rfl
  obtain ⟨w1, Hw1⟩ : ∃ w1, Hid (w1 = w.alloc (.cells #[.int .i64 2, .int .i64 n, .string tb, .slice na nl nc, .slice ia il ic] 26)) := ⟨_, rfl⟩
  obtain ⟨g, Hg⟩ : ∃ g, Hid (g = w.heap.size) := ⟨_, rfl⟩
  have HB1 : Hid (Blk w1 g #[.int .i64 2, .int .i64 n, .string tb, .slice na nl nc, .slice ia il ic] 26) := by rw [Hid, Hw1.out, Hg.out]; exact Blk.new _ _ _
  have HF1 : Hid (Below w.heap.size w w1) := by rw [Hid, Hw1.out]; exact below_new _ _
  have HG1 : Hid (Grew w w1 vt vt) := (Grew.refl _ _).below HF1.out
  have HO : Hid (Ow w1 B 5 vt (nbs l) ∧ l.length ≤ 70000 ∧ B ≤ w1.heap.size) := ⟨ho.below HF1.out, hl, Nat.le_trans hB HF1.out.size⟩
  obtain ⟨x0, x1, x2, x3, x4, -⟩ := Blk.five HB1.out
  unfold Rng at hr
  rw [← Htb.out]
  clear IH hv hnS hi hs hSB ho hB hl HQ Htb hso
  unfold jC
  by_cases hn1 : n = 1
  · subst hn1
    rw [if_pos rfl] at HV
    go_enter Tryd.func31, Tryd.ntmps31
    go_upto_region 1 with fail
    rw [← Hw1.out, ← Hg.out]
    clear Hw1 Hg
    go_wp2_with (at_builtin; go_must (refine append_strG w1 rfl _ _ rfl B _ l.length _ (nbs_length l) rfl HO.out.1 ⟨#[116, 114, 117, 101]⟩ rfl (by have := HO.out.2.1; rw [show (⟨#[116, 114, 117, 101]⟩ : ByteArray).size = 4 from rfl]; omega) HO.out.2.2 ?_))
    intro v5 w5 ho5 hg5
    rw [cells_w4, ← nbs_append] at ho5
    go_wp2
    go_ret
    refine ⟨_, rfl, ?_, HG1.out.trans hg5⟩
    rw [HV.out]
    exact ho5
  · rw [if_neg hn1] at HV
    have hn2 : (n == 1) = false := by simpa using hn1
    go_enter Tryd.func31, Tryd.ntmps31
    go_upto_region 1 with fail
    rw [← Hw1.out, ← Hg.out]
    clear Hw1 Hg
    go_wp2_with (at_builtin; go_must (refine append_strG w1 rfl _ _ rfl B _ l.length _ (nbs_length l) rfl HO.out.1 ⟨#[102, 97, 108, 115, 101]⟩ rfl (by have := HO.out.2.1; rw [show (⟨#[102, 97, 108, 115, 101]⟩ : ByteArray).size = 5 from rfl]; omega) HO.out.2.2 ?_))
    intro v5 w5 ho5 hg5
    rw [cells_w5, ← nbs_append] at ho5
    go_wp2
    go_ret
    refine ⟨_, rfl, ?_, HG1.out.trans hg5⟩
    rw [HV.out]
    exact ho5

set_option maxRecDepth 100000 in
set_option maxHeartbeats 4000000 in
theorem appendV3_calls (n : Int) (t : List UInt8) (ns : List (List UInt8)) (its : List Js) (IH : ∀ x ∈ its, SpecP x) (d nl nc il ic : Nat) (na ia : Option Addr) (w : World) (S : Nat → Prop) (B : Nat) (vt : Value) (l : List Nat)
    (hd : d ≤ 16) (hnl : ns.length = nl) (hil : its.length = il) (hso : soundJ (.mk 3 n t ns its) d = true) (hr : Rng (.mk 3 n t ns its)) (hv : VAt w na (ns.map strV)) (hnS : ∀ a, na = some a → ns ≠ [] → S a.block) (hi : ItAt w S ia 0 its) (hs : ∀ a, ia = some a → its ≠ [] → S a.block) (hSB : ∀ k, S k → k < B) (ho : Ow w B 5 vt (nbs l)) (hl : l.length ≤ 70000) (hB : B ≤ w.heap.size) (htab : TabB B w) :
    Calls Tryd.prog 31 #[vt, .agg (jC 3 n (nmB t) (.slice na nl nc) (.slice ia il ic))] w (TxC w B vt (nbs (valP (.mk 3 n t ns its) l))) := by
  obtain ⟨Q, HQ⟩ : ∃ Q : List Nat, Hid (Q = valP (.mk 3 n t ns its) l) := ⟨valP (.mk 3 n t ns its) l, (Eq.refl _ : valP (.mk 3 n t ns its) l = _)⟩
  rw [← HQ.out]
  obtain ⟨tb, Htb⟩ : ∃ tb : ByteArray, Hid (tb = nmB t) := ⟨nmB t, (Eq.refl _ : nmB t = _)⟩
  have HV : Hid (Q = l ++ numD n) := by rw [Hid, HQ.out]; unfold valP; rfl
  obtain ⟨w1, Hw1⟩ : ∃ w1, Hid (w1 = w.alloc (.cells #[.int .i64 3, .int .i64 n, .string tb, .slice na nl nc, .slice ia il ic] 26)) := ⟨_, rfl⟩
  obtain ⟨g, Hg⟩ : ∃ g, Hid (g = w.heap.size) := ⟨_, rfl⟩
  have HB1 : Hid (Blk w1 g #[.int .i64 3, .int .i64 n, .string tb, .slice na nl nc, .slice ia il ic] 26) := by rw [Hid, Hw1.out, Hg.out]; exact Blk.new _ _ _
  have HF1 : Hid (Below w.heap.size w w1) := by rw [Hid, Hw1.out]; exact below_new _ _
  have HG1 : Hid (Grew w w1 vt vt) := (Grew.refl _ _).below HF1.out
  have HO : Hid (Ow w1 B 5 vt (nbs l) ∧ l.length ≤ 70000 ∧ B ≤ w1.heap.size) := ⟨ho.below HF1.out, hl, Nat.le_trans hB HF1.out.size⟩
  obtain ⟨x0, x1, x2, x3, x4, -⟩ := Blk.five HB1.out
  have HT : Hid (TabB B w1) := htab.on ((Below.refl B w).trans (HF1.out.mono hB))
  unfold Rng at hr
  rw [← Htb.out]
  clear IH hv hnS hi hs hSB ho hB hl HQ Htb hso
  unfold jC
  have HC := appendInt_calls n hr.1.1 hr.1.2 B l.length vt l w1 rfl HO.out.1 HO.out.2.2 (by have := HO.out.2.1; omega) HT.out
  go_enter Tryd.func31, Tryd.ntmps31
  go_upto_region 1 with fail
  rw [← Hw1.out, ← Hg.out]
  clear Hw1 Hg
  go_wp2_with fail
  refine HC.mono ?_
  clear HC
  rintro e w5 ⟨v5, rfl, ho5, hg5⟩
  go_wp2
  go_ret
  refine ⟨_, rfl, ?_, HG1.out.trans hg5⟩
  rw [HV.out]
  exact ho5

set_option maxRecDepth 100000 in
set_option maxHeartbeats 4000000 in
theorem appendV4_calls (n : Int) (t : List UInt8) (ns : List (List UInt8)) (its : List Js) (IH : ∀ x ∈ its, SpecP x) (d nl nc il ic : Nat) (na ia : Option Addr) (w : World) (S : Nat → Prop) (B : Nat) (vt : Value) (l : List Nat)
    (hd : d ≤ 16) (hnl : ns.length = nl) (hil : its.length = il) (hso : soundJ (.mk 4 n t ns its) d = true) (hr : Rng (.mk 4 n t ns its)) (hv : VAt w na (ns.map strV)) (hnS : ∀ a, na = some a → ns ≠ [] → S a.block) (hi : ItAt w S ia 0 its) (hs : ∀ a, ia = some a → its ≠ [] → S a.block) (hSB : ∀ k, S k → k < B) (ho : Ow w B 5 vt (nbs l)) (hl : l.length ≤ 70000) (hB : B ≤ w.heap.size) (htab : TabB B w) :
    Calls Tryd.prog 31 #[vt, .agg (jC 4 n (nmB t) (.slice na nl nc) (.slice ia il ic))] w (TxC w B vt (nbs (valP (.mk 4 n t ns its) l))) := by
  obtain ⟨Q, HQ⟩ : ∃ Q : List Nat, Hid (Q = valP (.mk 4 n t ns its) l) := ⟨valP (.mk 4 n t ns its) l, (Eq.refl _ : valP (.mk 4 n t ns its) l = _)⟩
  rw [← HQ.out]
  obtain ⟨tb, Htb⟩ : ∃ tb : ByteArray, Hid (tb = nmB t) := ⟨nmB t, (Eq.refl _ : nmB t = _)⟩
  have HV : Hid (Q = txtP tb l) := by rw [Hid, HQ.out, Htb.out]; unfold valP; rfl
  obtain ⟨w1, Hw1⟩ : ∃ w1, Hid (w1 = w.alloc (.cells #[.int .i64 4, .int .i64 n, .string tb, .slice na nl nc, .slice ia il ic] 26)) := ⟨_, rfl⟩
  obtain ⟨g, Hg⟩ : ∃ g, Hid (g = w.heap.size) := ⟨_, rfl⟩
  have HB1 : Hid (Blk w1 g #[.int .i64 4, .int .i64 n, .string tb, .slice na nl nc, .slice ia il ic] 26) := by rw [Hid, Hw1.out, Hg.out]; exact Blk.new _ _ _
  have HF1 : Hid (Below w.heap.size w w1) := by rw [Hid, Hw1.out]; exact below_new _ _
  have HG1 : Hid (Grew w w1 vt vt) := (Grew.refl _ _).below HF1.out
  have HO : Hid (Ow w1 B 5 vt (nbs l) ∧ l.length ≤ 70000 ∧ B ≤ w1.heap.size) := ⟨ho.below HF1.out, hl, Nat.le_trans hB HF1.out.size⟩
  obtain ⟨x0, x1, x2, x3, x4, -⟩ := Blk.five HB1.out
  have hts : tb.size ≤ 140737488355328 := by rw [Htb.out]; unfold Rng at hr; simpa [nmB, ByteArray.size] using hr.2.1
  unfold Rng at hr
  rw [← Htb.out]
  clear IH hv hnS hi hs hSB ho hB hl HQ Htb hso
  unfold jC
  have HC := appendText_calls tb (by omega) vt B l w1 (by have := HO.out.2.1; omega) HO.out.1 HO.out.2.2
  go_enter Tryd.func31, Tryd.ntmps31
  go_upto_region 1 with fail
  rw [← Hw1.out, ← Hg.out]
  clear Hw1 Hg
  go_wp2_with fail
  refine HC.mono ?_
  clear HC
  rintro e w5 ⟨v5, rfl, ho5, hg5⟩
  go_wp2
  go_ret
  refine ⟨_, rfl, ?_, HG1.out.trans hg5⟩
  rw [HV.out]
  exact ho5
end Go.Proofs.YtelhgjepjieocaaDoor
