/- Layer 18 (json): the document's Write of some kinds. -/
import Derived.Test.YtelhgjepjieocaaDoorJxRwM
import Derived.Test.YtelhgjepjieocaaDoorJxApV4
import Derived.Lib.ItoaLen
namespace Go.Proofs.YtelhgjepjieocaaDoor
open Go.RowKit Go.MapKept Go.Sort
set_option linter.unusedVariables false

set_option maxRecDepth 100000 in
set_option maxHeartbeats 8000000 in
theorem writeK1_calls (n : Int) (t : List UInt8) (ns : List (List UInt8)) (its : List Js) (IH : ∀ x ∈ its, SpecW x) (d nl nc il ic : Nat) (na ia : Option Addr) (w : World) (S : Nat → Prop) (B : Nat) (vt : Value) (l : List Nat)
    (hnl : ns.length = nl) (hil : its.length = il) (hso : soundJ (.mk 1 n t ns its) d = true) (hr : Rng (.mk 1 n t ns its)) (hsm : Sml (.mk 1 n t ns its)) (hv : VAt w na (ns.map strV)) (hnS : ∀ a, na = some a → ns ≠ [] → S a.block) (hi : ItAt w S ia 0 its) (hs : ∀ a, ia = some a → its ≠ [] → S a.block) (hSB : ∀ k, S k → k < B) (ho : Ow w B 5 vt (nbs l)) (hl : l.length ≤ 65536) (hB : B ≤ w.heap.size) :
    Calls Tryd.prog 29 #[vt, .agg (jC 1 n (nmB t) (.slice na nl nc) (.slice ia il ic))] w (TxC w B vt (nbs (docW (.mk 1 n t ns its) l))) := by
  obtain ⟨Q, HQ⟩ : ∃ Q : List Nat, Hid (Q = docW (.mk 1 n t ns its) l) := ⟨docW (.mk 1 n t ns its) l, (Eq.refl _ : docW (.mk 1 n t ns its) l = _)⟩
  rw [← HQ.out]
  obtain ⟨tb, Htb⟩ : ∃ tb : ByteArray, Hid (tb = nmB t) := ⟨nmB t, (Eq.refl _ : nmB t = _)⟩
  obtain ⟨w1, Hw1⟩ : ∃ w1, Hid (w1 = w.alloc (.cells #[.int .i64 1, .int .i64 n, .string tb, .slice na nl nc, .slice ia il ic] 26)) := ⟨_, rfl⟩
  obtain ⟨g, Hg⟩ : ∃ g, Hid (g = w.heap.size) := ⟨_, rfl⟩
  have HB1 : Hid (Blk w1 g #[.int .i64 1, .int .i64 n, .string tb, .slice na nl nc, .slice ia il ic] 26) := by rw [Hid, Hw1.out, Hg.out]; exact Blk.new _ _ _
  have HF1 : Hid (Below w.heap.size w w1) := by rw [Hid, Hw1.out]; exact below_new _ _
  have HG1 : Hid (Grew w w1 vt vt) := (Grew.refl _ _).below HF1.out
  have HO : Hid (Ow w1 B 5 vt (nbs l) ∧ l.length ≤ 65536 ∧ B ≤ w1.heap.size) := ⟨ho.below HF1.out, hl, Nat.le_trans hB HF1.out.size⟩
  obtain ⟨at_, ct, hvt, -, -, -⟩ := ho.shape
  rw [nbs_length] at hvt
  obtain ⟨ln, Hln⟩ : ∃ ln, Hid (ln = l.length) := ⟨_, rfl⟩
  rw [← Hln.out] at hvt
  subst hvt
  have iln : ¬ ((65536 : Int) < (ln : Int)) := by rw [Hln.out]; omega
  obtain ⟨x0, x1, x2, x3, x4, -⟩ := Blk.five HB1.out
  rw [← Htb.out]
  have HV : Hid (Q = l ++ [110, 117, 108, 108]) := by rw [Hid, HQ.out]; unfold docW; rw [if_neg (by omega)]; rfl
  clear hr hsm HQ Htb
  clear IH hv hnS hi hs hSB ho hB hl hso
  unfold jC
  go_enter Tryd.func29, Tryd.ntmps29
  go_upto_region 1 with fail
  rw [← Hw1.out, ← Hg.out]
  clear Hw1 Hg
  go_wp2_with (at_builtin; go_must (refine append_strG w1 rfl _ _ rfl B _ l.length _ (nbs_length l) rfl HO.out.1 ⟨#[110, 117, 108, 108]⟩ rfl (by have := HO.out.2.1; rw [show (⟨#[110, 117, 108, 108]⟩ : ByteArray).size = 4 from rfl]; omega) HO.out.2.2 ?_))
  intro v5 w5 ho5 hg5
  rw [cells_w0, ← nbs_append] at ho5
  go_wp2
  go_ret
  refine ⟨_, rfl, ?_, HG1.out.trans hg5⟩
  rw [HV.out]
  exact ho5

set_option maxRecDepth 100000 in
set_option maxHeartbeats 8000000 in
theorem writeK2_calls (n : Int) (t : List UInt8) (ns : List (List UInt8)) (its : List Js) (IH : ∀ x ∈ its, SpecW x) (d nl nc il ic : Nat) (na ia : Option Addr) (w : World) (S : Nat → Prop) (B : Nat) (vt : Value) (l : List Nat)
    (hnl : ns.length = nl) (hil : its.length = il) (hso : soundJ (.mk 2 n t ns its) d = true) (hr : Rng (.mk 2 n t ns its)) (hsm : Sml (.mk 2 n t ns its)) (hv : VAt w na (ns.map strV)) (hnS : ∀ a, na = some a → ns ≠ [] → S a.block) (hi : ItAt w S ia 0 its) (hs : ∀ a, ia = some a → its ≠ [] → S a.block) (hSB : ∀ k, S k → k < B) (ho : Ow w B 5 vt (nbs l)) (hl : l.length ≤ 65536) (hB : B ≤ w.heap.size) :
    Calls Tryd.prog 29 #[vt, .agg (jC 2 n (nmB t) (.slice na nl nc) (.slice ia il ic))] w (TxC w B vt (nbs (docW (.mk 2 n t ns its) l))) := by
  obtain ⟨Q, HQ⟩ : ∃ Q : List Nat, Hid (Q = docW (.mk 2 n t ns its) l) := ⟨docW (.mk 2 n t ns its) l, (Eq.refl _ : docW (.mk 2 n t ns its) l = _)⟩
  rw [← HQ.out]
  obtain ⟨tb, Htb⟩ : ∃ tb : ByteArray, Hid (tb = nmB t) := ⟨nmB t, (Eq.refl _ : nmB t = _)⟩
  obtain ⟨w1, Hw1⟩ : ∃ w1, Hid (w1 = w.alloc (.cells #[.int .i64 2, .int .i64 n, .string tb, .slice na nl nc, .slice ia il ic] 26)) := ⟨_, rfl⟩
  obtain ⟨g, Hg⟩ : ∃ g, Hid (g = w.heap.size) := ⟨_, rfl⟩
  have HB1 : Hid (Blk w1 g #[.int .i64 2, .int .i64 n, .string tb, .slice na nl nc, .slice ia il ic] 26) := by rw [Hid, Hw1.out, Hg.out]; exact Blk.new _ _ _
  have HF1 : Hid (Below w.heap.size w w1) := by rw [Hid, Hw1.out]; exact below_new _ _
  have HG1 : Hid (Grew w w1 vt vt) := (Grew.refl _ _).below HF1.out
  have HO : Hid (Ow w1 B 5 vt (nbs l) ∧ l.length ≤ 65536 ∧ B ≤ w1.heap.size) := ⟨ho.below HF1.out, hl, Nat.le_trans hB HF1.out.size⟩
  obtain ⟨at_, ct, hvt, -, -, -⟩ := ho.shape
  rw [nbs_length] at hvt
  obtain ⟨ln, Hln⟩ : ∃ ln, Hid (ln = l.length) := ⟨_, rfl⟩
  rw [← Hln.out] at hvt
  subst hvt
  have iln : ¬ ((65536 : Int) < (ln : Int)) := by rw [Hln.out]; omega
  obtain ⟨x0, x1, x2, x3, x4, -⟩ := Blk.five HB1.out
  rw [← Htb.out]
  have HV0 : Hid (Q = l ++ (if n = 1 then [116, 114, 117, 101] else [102, 97, 108, 115, 101])) := by rw [Hid, HQ.out]; unfold docW; rw [if_neg (by omega)]; rfl
  clear hr hsm HQ Htb
  clear IH hv hnS hi hs hSB ho hB hl hso
  unfold jC
  go_enter Tryd.func29, Tryd.ntmps29
  go_upto_region 1 with fail
  rw [← Hw1.out, ← Hg.out]
  clear Hw1 Hg
  by_cases hn1 : n = 1
  · have HV : Hid (Q = l ++ [116, 114, 117, 101]) := by rw [Hid, HV0.out, if_pos hn1]
    subst hn1
    go_wp2_with (at_builtin; go_must (refine append_strG w1 rfl _ _ rfl B _ l.length _ (nbs_length l) rfl HO.out.1 ⟨#[116, 114, 117, 101]⟩ rfl (by have := HO.out.2.1; rw [show (⟨#[116, 114, 117, 101]⟩ : ByteArray).size = 4 from rfl]; omega) HO.out.2.2 ?_))
    intro v5 w5 ho5 hg5
    rw [cells_w4, ← nbs_append] at ho5
    go_wp2
    go_ret
    refine ⟨_, rfl, ?_, HG1.out.trans hg5⟩
    rw [HV.out]
    exact ho5
  · have HV : Hid (Q = l ++ [102, 97, 108, 115, 101]) := by rw [Hid, HV0.out, if_neg hn1]
    have qn : (n == 1) = false := by simpa using hn1
    go_wp2_with (at_builtin; go_must (refine append_strG w1 rfl _ _ rfl B _ l.length _ (nbs_length l) rfl HO.out.1 ⟨#[102, 97, 108, 115, 101]⟩ rfl (by have := HO.out.2.1; rw [show (⟨#[102, 97, 108, 115, 101]⟩ : ByteArray).size = 5 from rfl]; omega) HO.out.2.2 ?_))
    intro v5 w5 ho5 hg5
    rw [cells_w5, ← nbs_append] at ho5
    go_wp2
    go_ret
    refine ⟨_, rfl, ?_, HG1.out.trans hg5⟩
    rw [HV.out]
    exact ho5

set_option maxRecDepth 100000 in
set_option maxHeartbeats 8000000 in
theorem writeK3_calls (n : Int) (t : List UInt8) (ns : List (List UInt8)) (its : List Js) (IH : ∀ x ∈ its, SpecW x) (d nl nc il ic : Nat) (na ia : Option Addr) (w : World) (S : Nat → Prop) (B : Nat) (vt : Value) (l : List Nat)
    (hnl : ns.length = nl) (hil : its.length = il) (hso : soundJ (.mk 3 n t ns its) d = true) (hr : Rng (.mk 3 n t ns its)) (hsm : Sml (.mk 3 n t ns its)) (hv : VAt w na (ns.map strV)) (hnS : ∀ a, na = some a → ns ≠ [] → S a.block) (hi : ItAt w S ia 0 its) (hs : ∀ a, ia = some a → its ≠ [] → S a.block) (hSB : ∀ k, S k → k < B) (ho : Ow w B 5 vt (nbs l)) (hl : l.length ≤ 65536) (hB : B ≤ w.heap.size) :
    Calls Tryd.prog 29 #[vt, .agg (jC 3 n (nmB t) (.slice na nl nc) (.slice ia il ic))] w (TxC w B vt (nbs (docW (.mk 3 n t ns its) l))) := by
  obtain ⟨Q, HQ⟩ : ∃ Q : List Nat, Hid (Q = docW (.mk 3 n t ns its) l) := ⟨docW (.mk 3 n t ns its) l, (Eq.refl _ : docW (.mk 3 n t ns its) l = _)⟩
  rw [← HQ.out]
  obtain ⟨tb, Htb⟩ : ∃ tb : ByteArray, Hid (tb = nmB t) := ⟨nmB t, (Eq.refl _ : nmB t = _)⟩
  obtain ⟨w1, Hw1⟩ : ∃ w1, Hid (w1 = w.alloc (.cells #[.int .i64 3, .int .i64 n, .string tb, .slice na nl nc, .slice ia il ic] 26)) := ⟨_, rfl⟩
  obtain ⟨g, Hg⟩ : ∃ g, Hid (g = w.heap.size) := ⟨_, rfl⟩
  have HB1 : Hid (Blk w1 g #[.int .i64 3, .int .i64 n, .string tb, .slice na nl nc, .slice ia il ic] 26) := by rw [Hid, Hw1.out, Hg.out]; exact Blk.new _ _ _
  have HF1 : Hid (Below w.heap.size w w1) := by rw [Hid, Hw1.out]; exact below_new _ _
  have HG1 : Hid (Grew w w1 vt vt) := (Grew.refl _ _).below HF1.out
  have HO : Hid (Ow w1 B 5 vt (nbs l) ∧ l.length ≤ 65536 ∧ B ≤ w1.heap.size) := ⟨ho.below HF1.out, hl, Nat.le_trans hB HF1.out.size⟩
  obtain ⟨at_, ct, hvt, -, -, -⟩ := ho.shape
  rw [nbs_length] at hvt
  obtain ⟨ln, Hln⟩ : ∃ ln, Hid (ln = l.length) := ⟨_, rfl⟩
  rw [← Hln.out] at hvt
  subst hvt
  have iln : ¬ ((65536 : Int) < (ln : Int)) := by rw [Hln.out]; omega
  obtain ⟨x0, x1, x2, x3, x4, -⟩ := Blk.five HB1.out
  rw [← Htb.out]
  have HV : Hid (Q = l ++ numD n) := by rw [Hid, HQ.out]; unfold docW; rw [if_neg (by omega)]; rfl
  unfold Rng at hr
  have HD := refDigits_calls n w1 hr.1.1 hr.1.2
  have HIL : Hid ((Lib.itoa n).length ≤ 21) := Lib.itoa_length_le n hr.1.1 hr.1.2
  clear hr hsm HQ Htb
  clear IH hv hnS hi hs hSB ho hB hl hso
  unfold jC
  go_enter Tryd.func29, Tryd.ntmps29
  go_upto_region 1 with fail
  rw [← Hw1.out, ← Hg.out]
  clear Hw1 Hg
  go_wp2_with fail
  refine HD.mono ?_
  clear HD
  rintro e w2 ⟨rfl, hb2⟩
  have HO2 : Hid (Ow w2 B 5 (.slice at_ ln ct) (nbs l) ∧ l.length ≤ 65536 ∧ B ≤ w2.heap.size) := ⟨HO.out.1.below hb2, HO.out.2.1, Nat.le_trans HO.out.2.2 hb2.size⟩
  have HG2 : Hid (Grew w w2 (.slice at_ ln ct) (.slice at_ ln ct)) := HG1.out.below hb2
  clear hb2 HG1 HO x0 x1 x2 x3 x4
  go_wp2_with (at_builtin; go_must (refine append_strG w2 rfl _ _ rfl B _ l.length _ (nbs_length l) rfl HO2.out.1 (nmB (Lib.itoa n)) rfl (by have := HO2.out.2.1; have := HIL.out; rw [nsz]; omega) HO2.out.2.2 ?_))
  intro v5 w5 ho5 hg5
  rw [str_nbs, ← nbs_append] at ho5
  go_wp2
  go_ret
  refine ⟨_, rfl, ?_, HG2.out.trans hg5⟩
  rw [HV.out]
  exact ho5

set_option maxRecDepth 100000 in
set_option maxHeartbeats 8000000 in
theorem writeK4_calls (n : Int) (t : List UInt8) (ns : List (List UInt8)) (its : List Js) (IH : ∀ x ∈ its, SpecW x) (d nl nc il ic : Nat) (na ia : Option Addr) (w : World) (S : Nat → Prop) (B : Nat) (vt : Value) (l : List Nat)
    (hnl : ns.length = nl) (hil : its.length = il) (hso : soundJ (.mk 4 n t ns its) d = true) (hr : Rng (.mk 4 n t ns its)) (hsm : Sml (.mk 4 n t ns its)) (hv : VAt w na (ns.map strV)) (hnS : ∀ a, na = some a → ns ≠ [] → S a.block) (hi : ItAt w S ia 0 its) (hs : ∀ a, ia = some a → its ≠ [] → S a.block) (hSB : ∀ k, S k → k < B) (ho : Ow w B 5 vt (nbs l)) (hl : l.length ≤ 65536) (hB : B ≤ w.heap.size) :
    Calls Tryd.prog 29 #[vt, .agg (jC 4 n (nmB t) (.slice na nl nc) (.slice ia il ic))] w (TxC w B vt (nbs (docW (.mk 4 n t ns its) l))) := by
  obtain ⟨Q, HQ⟩ : ∃ Q : List Nat, Hid (Q = docW (.mk 4 n t ns its) l) := ⟨docW (.mk 4 n t ns its) l, (Eq.refl _ : docW (.mk 4 n t ns its) l = _)⟩
  rw [← HQ.out]
  obtain ⟨tb, Htb⟩ : ∃ tb : ByteArray, Hid (tb = nmB t) := ⟨nmB t, (Eq.refl _ : nmB t = _)⟩
  obtain ⟨w1, Hw1⟩ : ∃ w1, Hid (w1 = w.alloc (.cells #[.int .i64 4, .int .i64 n, .string tb, .slice na nl nc, .slice ia il ic] 26)) := ⟨_, rfl⟩
  obtain ⟨g, Hg⟩ : ∃ g, Hid (g = w.heap.size) := ⟨_, rfl⟩
  have HB1 : Hid (Blk w1 g #[.int .i64 4, .int .i64 n, .string tb, .slice na nl nc, .slice ia il ic] 26) := by rw [Hid, Hw1.out, Hg.out]; exact Blk.new _ _ _
  have HF1 : Hid (Below w.heap.size w w1) := by rw [Hid, Hw1.out]; exact below_new _ _
  have HG1 : Hid (Grew w w1 vt vt) := (Grew.refl _ _).below HF1.out
  have HO : Hid (Ow w1 B 5 vt (nbs l) ∧ l.length ≤ 65536 ∧ B ≤ w1.heap.size) := ⟨ho.below HF1.out, hl, Nat.le_trans hB HF1.out.size⟩
  obtain ⟨at_, ct, hvt, -, -, -⟩ := ho.shape
  rw [nbs_length] at hvt
  obtain ⟨ln, Hln⟩ : ∃ ln, Hid (ln = l.length) := ⟨_, rfl⟩
  rw [← Hln.out] at hvt
  subst hvt
  have iln : ¬ ((65536 : Int) < (ln : Int)) := by rw [Hln.out]; omega
  obtain ⟨x0, x1, x2, x3, x4, -⟩ := Blk.five HB1.out
  rw [← Htb.out]
  have HV : Hid (Q = l ++ quoN tb) := by rw [Hid, HQ.out, Htb.out]; unfold docW; rw [if_neg (by omega)]; rfl
  unfold Sml at hsm
  have htz : tb.size ≤ 1048576 := by rw [Htb.out, nsz]; exact hsm.1
  have HD := refQuoted_calls tb w1 htz
  have HIL : Hid ((quoN tb).length ≤ 6291458) := by have := quoN_len tb; rw [Hid]; omega
  clear hr hsm HQ Htb htz
  clear IH hv hnS hi hs hSB ho hB hl hso
  unfold jC
  go_enter Tryd.func29, Tryd.ntmps29
  go_upto_region 1 with fail
  rw [← Hw1.out, ← Hg.out]
  clear Hw1 Hg
  go_wp2_with fail
  refine HD.mono ?_
  clear HD
  rintro e w2 ⟨rfl, hb2⟩
  have HO2 : Hid (Ow w2 B 5 (.slice at_ ln ct) (nbs l) ∧ l.length ≤ 65536 ∧ B ≤ w2.heap.size) := ⟨HO.out.1.below hb2, HO.out.2.1, Nat.le_trans HO.out.2.2 hb2.size⟩
  have HG2 : Hid (Grew w w2 (.slice at_ ln ct) (.slice at_ ln ct)) := HG1.out.below hb2
  clear hb2 HG1 HO x0 x1 x2 x3 x4
  obtain ⟨qs, Hqs⟩ : ∃ qs : ByteArray, Hid (qs = ⟨((quoN tb).map fun c => UInt8.ofNat c).toArray⟩) := ⟨_, rfl⟩
  have HQS : Hid (Lib.strCells qs = nbs (quoN tb) ∧ qs.size = (quoN tb).length) := ⟨by rw [Hqs.out, str_quo], by rw [Hqs.out, qsz]⟩
  rw [← Hqs.out]
  clear Hqs
  go_wp2_with (at_builtin; go_must (refine append_strG w2 rfl _ _ rfl B _ l.length _ (nbs_length l) rfl HO2.out.1 qs rfl (by have := HO2.out.2.1; have := HIL.out; rw [HQS.out.2]; omega) HO2.out.2.2 ?_))
  intro v5 w5 ho5 hg5
  rw [HQS.out.1, ← nbs_append] at ho5
  go_wp2
  go_ret
  refine ⟨_, rfl, ?_, HG2.out.trans hg5⟩
  rw [HV.out]
  exact ho5
end Go.Proofs.YtelhgjepjieocaaDoor
