import Derived.Test.YtelhgjepjieocaaDoorJxRvM
import Derived.Test.YtelhgjepjieocaaDoorJxRfE
import Derived.Test.YtelhgjepjieocaaDoorJxCp
/- Layer 18 (json): a value by its first byte, plain. -/
namespace Go.Proofs.YtelhgjepjieocaaDoor
open Go.RowKit Go.Sort
set_option linter.unusedVariables false

/-- What stands behind a bracket. -/
def inF (k : Nat) (kind : Int) (e d : Nat) (l : List UInt8) : Except Int (Js × List UInt8) := if hdN (spL l.tail) = some e then .ok (.mk kind 0 [] [] [], (spL l.tail).tail) else elF k kind e d (spL l.tail) [] []
theorem bareF_nil {K d : Nat} {l : List UInt8} (h : hdN l = none) : bareF (K + 1) d l = .error 181 := by
  cases l with
  | nil => unfold bareF; rfl
  | cons x l => cases h
theorem bareF_sq {K d : Nat} {l : List UInt8} (h : hdN l = some 91) : bareF (K + 1) d l = if d = 16 then .error 182 else inF K 5 93 d l := by
  unfold bareF inF
  rw [if_pos h]
theorem bareF_br {K d : Nat} {l : List UInt8} (h : hdN l = some 123) : bareF (K + 1) d l = if d = 16 then .error 182 else inF K 6 125 d l := by
  unfold bareF inF
  rw [if_neg (by rw [h]; decide), if_pos h]
theorem bareF_tx {K d : Nat} {l : List UInt8} (h : hdN l = some 34) : bareF (K + 1) d l = txR (textP l) := by
  unfold bareF
  rw [if_neg (by rw [h]; decide), if_neg (by rw [h]; decide), if_pos h]
theorem bareF_rest {K d c : Nat} {l : List UInt8} (h : hdN l = some c) (h1 : c ≠ 91) (h2 : c ≠ 123) (h3 : c ≠ 34) : bareF (K + 1) d l = if c = 45 ∨ dgN c = true then plR (numP l) else plR (wordP l) := by
  unfold bareF
  rw [if_neg (by rw [h]; simp [h1]), if_neg (by rw [h]; simp [h2]), if_neg (by rw [h]; simp [h3]), h]
  simp
theorem word_pref (s x : ByteArray) (n : Nat) (hn : n ≤ s.size) : (n + x.size ≤ s.size ∧ s.extract n (n + x.size) = x) ↔ Lib.hasPrefix (tl s n) x.data.toList = true := by
  have hx : x.data.toList.length = x.size := by rw [Array.length_toList]; rfl
  rw [← Lib.hasPrefix_of_take, Bool.and_eq_true, decide_eq_true_iff, beq_iff_eq, hx, tl_length]
  have e1 : (s.extract n (n + x.size)).data.toList = (tl s n).take x.size := by
    rw [extract_take, show n + x.size - n = x.size by omega]
  constructor
  · rintro ⟨h1, h2⟩
    exact ⟨by omega, by rw [← e1, h2]⟩
  · rintro ⟨h1, h2⟩
    refine ⟨by omega, ByteArray.ext (Array.toList_inj.1 ?_)⟩
    rw [e1]; exact h2
theorem pref_no {l p : List UInt8} {c : Nat} {x : UInt8} (h : hdN l = some c) (hx : x.toNat ≠ c) : Lib.hasPrefix l (x :: p) = false := by
  cases l with
  | nil => cases h
  | cons y l =>
    have h1 : y.toNat = c := Option.some.inj h
    show (x :: p).isPrefixOf (y :: l) = false
    have h2 : (x == y) = false := by
      rw [beq_eq_false_iff_ne]
      intro e
      exact hx (by rw [e]; exact h1)
    simp [List.isPrefixOf, h2]
theorem wordP_n {l : List UInt8} (h : hdN l = some 110) : wordP l = if Lib.hasPrefix l wNull.data.toList = true then some (1, 0, l.drop 4) else none := by
  unfold wordP
  have h1 : Lib.hasPrefix l wTrue.data.toList = false := pref_no h (by decide)
  have h2 : Lib.hasPrefix l wFalse.data.toList = false := pref_no h (by decide)
  rw [h1, h2]; rfl
theorem wordP_t {l : List UInt8} (h : hdN l = some 116) : wordP l = if Lib.hasPrefix l wTrue.data.toList = true then some (2, 1, l.drop 4) else none := by
  unfold wordP
  have h1 : Lib.hasPrefix l wNull.data.toList = false := pref_no h (by decide)
  have h2 : Lib.hasPrefix l wFalse.data.toList = false := pref_no h (by decide)
  rw [h1, h2]; rfl
theorem wordP_f {l : List UInt8} (h : hdN l = some 102) : wordP l = if Lib.hasPrefix l wFalse.data.toList = true then some (2, 0, l.drop 5) else none := by
  unfold wordP
  have h1 : Lib.hasPrefix l wNull.data.toList = false := pref_no h (by decide)
  have h2 : Lib.hasPrefix l wTrue.data.toList = false := pref_no h (by decide)
  rw [h1, h2]; rfl
theorem wordP_o {l : List UInt8} {c : Nat} (h : hdN l = some c) (h1 : c ≠ 110) (h2 : c ≠ 116) (h3 : c ≠ 102) : wordP l = none := by
  unfold wordP
  have e1 : Lib.hasPrefix l wNull.data.toList = false := pref_no h (by show (110 : Nat) ≠ c; omega)
  have e2 : Lib.hasPrefix l wTrue.data.toList = false := pref_no h (by show (116 : Nat) ≠ c; omega)
  have e3 : Lib.hasPrefix l wFalse.data.toList = false := pref_no h (by show (102 : Nat) ≠ c; omega)
  rw [e1, e2, e3]; rfl
/-- An item and what comes behind it. -/
def elT (k : Nat) (kind : Int) (e d : Nat) (ns : List (List UInt8)) (its : List Js) (l : List UInt8) : Except Int (Js × List UInt8) := match bareF k (d + 1) l with
  | .error c => .error c
  | .ok (x, r) => if hdN (spL r) = some e then .ok (.mk kind 0 [] ns (its ++ [x]), (spL r).tail)
    else if hdN (spL r) = some 44 then elF k kind e d (spL r).tail ns (its ++ [x])
    else .error 181
theorem elF_item {kind : Int} (h : kind ≠ 6) (k e d : Nat) (l : List UInt8) (ns : List (List UInt8)) (its : List Js) : elF (k + 1) kind e d l ns its = elT k kind e d ns its (spL l) := by
  unfold elF elN elT
  rw [if_neg h]
  rfl
theorem elF_name (k e d : Nat) (l : List UInt8) (ns : List (List UInt8)) (its : List Js) : elF (k + 1) 6 e d l ns its = match textP (spL l) with
    | none => .error 181
    | some (t, r) => if t ∈ ns then .error 183 else if hdN (spL r) = some 58 then elT k 6 e d (ns ++ [t]) its (spL (spL r).tail) else .error 181 := by
  unfold elF elN nameP elT
  rw [if_pos rfl]
  cases textP (spL l) with
  | none => rfl
  | some p =>
    obtain ⟨t, r⟩ := p
    by_cases h1 : t ∈ ns
    · simp only [if_pos h1]
    · by_cases h2 : hdN (spL r) = some 58
      · simp only [if_neg h1, if_pos h2]
        rfl
      · simp only [if_neg h1, if_neg h2]
def nmR : Option (Int × List UInt8) → Except Int (Js × List UInt8)
  | some (v, r) => .ok (.mk 3 v [] [] [], r)
  | none => .error 181
theorem bareF_num {K d c : Nat} {l : List UInt8} (h : hdN l = some c) (h1 : c ≠ 91) (h2 : c ≠ 123) (h3 : c ≠ 34) (h4 : c ≠ 110) (h5 : c ≠ 116) (h6 : c ≠ 102) : bareF (K + 1) d l = nmR (docN l) := by
  rw [bareF_rest h h1 h2 h3]
  by_cases hc : c = 45 ∨ dgN c = true
  · rw [if_pos hc, numP_doc]
    cases docN l with
    | none => rfl
    | some p => rfl
  · rw [if_neg hc, wordP_o h h4 h5 h6]
    have hd : digs l = [] := by
      unfold digs
      rw [tkL_no (by rw [h]; intro e; exact hc (.inl (Option.some.inj e)))]
      cases l with
      | nil => rfl
      | cons x l =>
        have : x.toNat = c := Option.some.inj h
        rw [List.takeWhile_cons, if_neg]
        unfold dgU
        rw [this]
        exact fun e => hc (.inr e)
    unfold docN
    rw [if_pos (.inl hd)]
    rfl
theorem bareF_word {K d c : Nat} {l : List UInt8} (h : hdN l = some c) (h1 : c = 110 ∨ c = 116 ∨ c = 102) : bareF (K + 1) d l = plR (wordP l) := by
  rw [bareF_rest h (by omega) (by omega) (by omega), if_neg]
  rcases h1 with rfl | rfl | rfl <;> decide
/-- A value without parts in memory. -/
theorem JAt.plain (w : World) (k n : Int) (t : List UInt8) : JAt w (fun _ => False) (.mk k n t [] []) (jC k n (nmB t) (.slice none 0 0) (.slice none 0 0)) := by
  unfold JAt
  refine ⟨none, 0, none, 0, rfl, fun k hk => absurd hk (Nat.not_lt_zero _), fun a e _ => (by cases e), fun a e _ => (by cases e), ?_⟩
  unfold ItAt; trivial
/-- What stands ahead of a round. -/
def InS (w : World) (gv gr : Nat) (s : ByteArray) (kind : Int) (e K0 d : Nat) (R : Except Int (Js × List UInt8)) (m : Nat) (wr : World) : Prop :=
  ∃ (k' : Nat) (S : Nat → Prop) (ns : List (List UInt8)) (its : List Js) (nv iv : Value) (css : List (Array Value)), InI w gv gr kind S ns its nv iv css wr ∧
    R = elF k' kind e d (tl s m) ns its ∧ spL (tl s m) = tl s m ∧ 2 * (tl s m).length + 2 ≤ k' ∧ k' ≤ K0 ∧ its.length ≤ m ∧ ns.length ≤ its.length
theorem ow_at_str {w : World} {B n cap j : Nat} {ao : Option Addr} {ns : List (List UInt8)} (h : Ow w B 9 (.slice ao n cap) (ns.map strV)) (hj : j < ns.length) : ∃ b off, ao = some ⟨b, off, none⟩ ∧ w.cell? ⟨b, off + j, none⟩ = some (.string (nmB ns[j])) := by
  obtain ⟨g, e1, h1, _⟩ := h.at j (by rw [List.length_map]; exact hj)
  exact ⟨g, 0, e1, by rw [Nat.zero_add, h1, List.getElem_map]; rfl⟩
end Go.Proofs.YtelhgjepjieocaaDoor

/- Layer 18 (json): copyValue, Text, List, Object. -/
namespace Go.Proofs.YtelhgjepjieocaaDoor
open Go.RowKit Go.MapKept Go.Sort
set_option linter.unusedVariables false

/-- The whole value, out of names and items of the call's own. -/
theorem JAt.build {w : World} {B : Nat} {T : Nat → Prop} {k n : Int} {t : List UInt8} {ns : List (List UInt8)} {its : List Js} {nv iv : Value} {css : List (Array Value)} (hn : Ow w B 9 nv (ns.map strV)) (hi : OwI w B T iv its css) (hT : ∀ q, T q → B ≤ q ∧ q < w.heap.size) :
    ∃ U : Nat → Prop, JAt w U (.mk k n t ns its) (jC k n (nmB t) nv iv) ∧ (∀ q, U q → B ≤ q ∧ q < w.heap.size) ∧ ∀ q, U q → T q ∨ nv.ownBlock = some q ∨ iv.ownBlock = some q := by
  obtain ⟨na, nc, rfl, -⟩ := hn.shape
  obtain ⟨ia, ic, rfl⟩ := hi.shape
  rw [List.length_map] at hn ⊢
  refine ⟨fun q => T q ∨ (Value.slice na ns.length nc).ownBlock = some q ∨ (Value.slice ia its.length ic).ownBlock = some q, ?_, fun q hq => ?_, fun q hq => hq⟩
  · unfold JAt
    refine ⟨na, nc, ia, ic, rfl, hn.v, fun a e _ => .inr (.inl (by rw [e]; rfl)), fun a e _ => .inr (.inr (by rw [e]; rfl)), ?_⟩
    have h1 := ItAt.of hi its.length 0 (by omega)
    rw [List.drop_zero] at h1
    exact ItAt.mono (fun k hk => .inl hk) _ _ _ h1
  · rcases hq with hq | hq | hq
    · exact hT q hq
    · exact hn.lt q hq
    · exact hi.lt q hq
theorem OwI.belowB {w w' : World} {B : Nat} {T : Nat → Prop} {v : Value} {its : List Js} {css : List (Array Value)} (h : OwI w B T v its css) (hb : Below w.heap.size w w') : OwI w' B T v its css :=
  h.frm (Frm.ofBelow hb noB) (fun _ _ h => h) (fun _ _ h => h)
theorem OwI.weak {w : World} {B B' : Nat} {T : Nat → Prop} {v : Value} {its : List Js} {css : List (Array Value)} (h : OwI w B T v its css) (hB : B' ≤ B) : OwI w B' T v its css := by
  refine ⟨⟨h.row.1, ?_⟩, h.five, h.len, h.at_⟩
  rcases h.row.2 with h | ⟨g, cap, cur, hv, hb, r⟩
  · exact .inl h
  · exact .inr ⟨g, cap, cur, hv, Nat.le_trans hB hb, r⟩
theorem Blk.put {w : World} {g : Nat} {T : TypeId} {cs : Array Value} (h : Blk w g cs T) (i : Nat) (u : Value) : Blk (w.setCell ⟨g, i, none⟩ u) g (cs.setIfInBounds i u) T := Lib.heap_setCell_same (i := i) h u
set_option maxRecDepth 100000 in
set_option maxHeartbeats 4000000 in
theorem copyValue_of (k n : Int) (t : List UInt8) (ns : List (List UInt8)) (its : List Js) (IH : ∀ x ∈ its, SpecC x) : SpecC (.mk k n t ns its) := by
  intro w S cs hf hj hSB
  unfold Fit at hf
  obtain ⟨f1, f2, f3, f4, f5⟩ := hf
  unfold JAt at hj
  obtain ⟨na, nc, ia, ic, rfl, h2, h3, h4, h5⟩ := hj
  obtain ⟨nl, hnl⟩ : ∃ nl, nl = ns.length := ⟨_, rfl⟩
  obtain ⟨il, hil⟩ : ∃ il, il = its.length := ⟨_, rfl⟩
  obtain ⟨tb, htb⟩ : ∃ tb, tb = nmB t := ⟨_, rfl⟩
  have htz : tb.size ≤ 281474976710656 := by
    rw [htb]
    show t.toArray.size ≤ _
    simp; omega
  rw [← hnl, ← hil, ← htb]
  obtain ⟨w1, Hw1⟩ : ∃ w1, Hid (w1 = w.alloc (.cells #[.int .i64 k, .int .i64 n, .string tb, .slice na nl nc, .slice ia il ic] 26)) := ⟨_, rfl⟩
  obtain ⟨ga, Hga⟩ : ∃ ga, Hid (ga = w.heap.size) := ⟨_, rfl⟩
  obtain ⟨w2, Hw2⟩ : ∃ w2, Hid (w2 = w1.alloc (.cells #[.int .i64 0, .int .i64 0, .string ⟨#[]⟩, .slice none 0 0, .slice none 0 0] 26)) := ⟨_, rfl⟩
  obtain ⟨gr, Hgr⟩ : ∃ gr, Hid (gr = w.heap.size + 1) := ⟨_, rfl⟩
  have hz1 : w1.heap.size = w.heap.size + 1 := by rw [Hw1.out, World.size_alloc]
  have hb1 : Below w.heap.size w w1 := by rw [Hw1.out]; exact below_new _ _
  have hb2 : Below w1.heap.size w1 w2 := by rw [Hw2.out]; exact below_new _ _
  have HB2 : Hid (Below w.heap.size w w2 ∧ Blk w2 ga #[.int .i64 k, .int .i64 n, .string tb, .slice na nl nc, .slice ia il ic] 26 ∧ Blk w2 gr jZ 26 ∧ ga ≠ gr ∧ w.heap.size ≤ ga ∧ w.heap.size ≤ gr) := by
    refine ⟨hb1.trans (hb2.mono hb1.size), Blk.below ?_ hb2, ?_, ?_, ?_, ?_⟩
    · rw [Hw1.out, Hga.out]; exact Blk.new _ _ _
    · rw [Hw2.out, show gr = w1.heap.size by rw [Hgr.out, hz1]]; exact Blk.new _ _ _
    · have := Hga.out; have := Hgr.out; omega
    · have := Hga.out; omega
    · have := Hgr.out; omega
  have HA : Hid (VAt w na (ns.map strV) ∧ (∀ a, na = some a → ns ≠ [] → S a.block) ∧ ItAt w S ia 0 its ∧ (∀ a, ia = some a → its ≠ [] → S a.block) ∧ ∀ q, S q → q < w.heap.size) := ⟨h2, h3, h5, h4, hSB⟩
  have HIH : Hid ((∀ x ∈ its, SpecC x) ∧ Fits its ∧ ns.length = nl ∧ its.length = il ∧ nl ≤ 8796093021952 ∧ il ≤ 1759218604416 ∧ (∀ s ∈ ns, s.length ≤ 140737488355328) ∧ tb = nmB t) := ⟨IH, f5, hnl.symm, hil.symm, by omega, by omega, f4, htb⟩
  have HCL := cloneS_calls tb w2 htz
  clear IH f1 f2 f3 f4 f5 h2 h3 h4 h5 hSB hnl hil htb htz hz1 hb1 hb2
  unfold jC
  go_enter Tryd.func34, Tryd.ntmps34
  go_upto_region 1 with fail
  rw [← Hw1.out, ← Hw2.out, ← Hgr.out, ← Hga.out]
  clear Hw1 Hw2 Hgr Hga
  obtain ⟨x0, x1, x2, x3, x4, e0, e1, e2, e3, e4⟩ := Blk.five HB2.out.2.1
  go_wp2_with fail
  refine HCL.mono ?_
  clear HCL x0 x1 x2 x3 x4 e0 e1 e2 e3 e4
  rintro e w3 ⟨rfl, hb3⟩
  obtain ⟨w4, Hw4⟩ : ∃ w4, Hid (w4 = w3.setCell ⟨ga, 2, none⟩ (.string tb)) := ⟨_, rfl⟩
  have H3 : Hid (Blk w3 ga #[.int .i64 k, .int .i64 n, .string tb, .slice na nl nc, .slice ia il ic] 26) := HB2.out.2.1.below hb3
  have H4 : Hid (Below w.heap.size w w4 ∧ Blk w4 ga #[.int .i64 k, .int .i64 n, .string tb, .slice na nl nc, .slice ia il ic] 26 ∧ Blk w4 gr jZ 26) := by
    rw [Hid, Hw4.out]
    refine ⟨(HB2.out.1.trans (hb3.mono HB2.out.1.size)).setCell HB2.out.2.2.2.2.1 _, H3.out.put 2 _, ?_⟩
    exact (heap_setCell_other _ _ _ _ HB2.out.2.2.2.1.symm).trans (HB2.out.2.2.1.below hb3)
  obtain ⟨x0, x1, x2, x3, x4, e0, e1, e2, e3, e4⟩ := Blk.five H3.out
  clear hb3
  go_upto_region 2 with fail
  rw [← Hw4.out]
  clear Hw4 H3 x0 x1 x2 x3 x4 e0 e1 e2 e3 e4
  have HCN := copyNames_calls na nl nc ns w4 HIH.out.2.2.1 HIH.out.2.2.2.2.1 HIH.out.2.2.2.2.2.2.1 (VAt.frmN HA.out.1 (Frm.ofBelow H4.out.1 noB) (fun _ _ h => h) HA.out.2.1)
  obtain ⟨x0, x1, x2, x3, x4, e0, e1, e2, e3, e4⟩ := Blk.five H4.out.2.1
  go_wp2_with fail
  refine HCN.mono ?_
  clear HCN x0 x1 x2 x3 x4 e0 e1 e2 e3 e4
  rintro e w5 ⟨nv, rfl, ho5, hb5⟩
  obtain ⟨n5, c5, rfl, -⟩ := ho5.shape
  rw [List.length_map] at ho5 ⊢
  obtain ⟨w6, Hw6⟩ : ∃ w6, Hid (w6 = w5.setCell ⟨ga, 3, none⟩ (.slice n5 ns.length c5)) := ⟨_, rfl⟩
  have H5 : Hid (Blk w5 ga #[.int .i64 k, .int .i64 n, .string tb, .slice na nl nc, .slice ia il ic] 26) := H4.out.2.1.below hb5
  have H6 : Hid (Below w.heap.size w w6 ∧ Blk w6 ga #[.int .i64 k, .int .i64 n, .string tb, .slice n5 ns.length c5, .slice ia il ic] 26 ∧ Blk w6 gr jZ 26 ∧ Ow w6 w4.heap.size 9 (.slice n5 ns.length c5) (ns.map strV)) := by
    rw [Hid, Hw6.out]
    refine ⟨(H4.out.1.trans (hb5.mono H4.out.1.size)).setCell HB2.out.2.2.2.2.1 _, H5.out.put 3 _, ?_, ?_⟩
    · exact (heap_setCell_other _ _ _ _ HB2.out.2.2.2.1.symm).trans (H4.out.2.2.below hb5)
    · refine ho5.other (fun e => ?_) _
      have := (ho5.lt ga e).1
      have := H4.out.2.1.lt
      omega
  obtain ⟨x0, x1, x2, x3, x4, e0, e1, e2, e3, e4⟩ := Blk.five H5.out
  have hz4 := H4.out.1.size
  have hs46 : w4.heap.size ≤ w6.heap.size := by rw [Hw6.out, World.size_setCell]; exact hb5.size
  have hlt4 := H4.out.2.1.lt
  have hlr4 := H4.out.2.2.lt
  clear hb5 ho5 H4
  go_upto_region 3 with fail
  rw [← Hw6.out]
  clear Hw6 H5 x0 x1 x2 x3 x4 e0 e1 e2 e3 e4
  have HCI := copyItems_calls its HIH.out.1 il ic ia w6 S HIH.out.2.2.2.1 HIH.out.2.2.2.2.2.1 HIH.out.2.1 (ItAt.frm (Frm.ofBelow H6.out.1 noB) (fun _ _ h => h) its ia 0 HA.out.2.2.2.1 HA.out.2.2.1) (fun q hq => Nat.lt_of_lt_of_le (HA.out.2.2.2.2 q hq) H6.out.1.size)
  obtain ⟨x0, x1, x2, x3, x4, e0, e1, e2, e3, e4⟩ := Blk.five H6.out.2.1
  go_wp2_with fail
  refine HCI.mono ?_
  clear HCI x0 x1 x2 x3 x4 e0 e1 e2 e3 e4
  rintro e w7 ⟨iv, css, T, rfl, ho7, hb7, hT7⟩
  obtain ⟨i7, c7, rfl⟩ := ho7.shape
  obtain ⟨w8, Hw8⟩ : ∃ w8, Hid (w8 = w7.setCell ⟨ga, 4, none⟩ (.slice i7 its.length c7)) := ⟨_, rfl⟩
  have H7 : Hid (Blk w7 ga #[.int .i64 k, .int .i64 n, .string tb, .slice n5 ns.length c5, .slice ia il ic] 26) := H6.out.2.1.below hb7
  have hg6 := H6.out.2.1.lt
  have hr6 := H6.out.2.2.1.lt
  have H8 : Hid (Below w.heap.size w w8 ∧ Blk w8 ga #[.int .i64 k, .int .i64 n, .string tb, .slice n5 ns.length c5, .slice i7 its.length c7] 26 ∧ Blk w8 gr jZ 26 ∧ Ow w8 w4.heap.size 9 (.slice n5 ns.length c5) (ns.map strV) ∧ OwI w8 w6.heap.size T (.slice i7 its.length c7) its css ∧ w8.heap.size = w7.heap.size) := by
    have hF : Frm (fun q => q = ga) w7 w8 := by rw [Hw8.out]; exact (Frm.refl (fun q => q = ga) w7).setCell ⟨ga, 4, none⟩ _ (.inl rfl)
    refine ⟨?_, ?_, ?_, ?_, ho7.frm hF (fun q hq e => ?_) (fun q hq e => ?_), by rw [Hw8.out, World.size_setCell]⟩
    · rw [Hw8.out]; exact (H6.out.1.trans (hb7.mono H6.out.1.size)).setCell HB2.out.2.2.2.2.1 _
    · rw [Hw8.out]; exact H7.out.put 4 _
    · rw [Hw8.out]; exact (heap_setCell_other _ _ _ _ HB2.out.2.2.2.1.symm).trans (H6.out.2.2.1.below hb7)
    · rw [Hw8.out]
      refine (H6.out.2.2.2.below hb7).other (fun e => ?_) _
      have := (H6.out.2.2.2.lt ga e).1
      omega
    · have := (ho7.lt q hq).1
      omega
    · have := (hT7 q hq).1
      omega
  have HT8 : Hid (∀ q, T q → w6.heap.size ≤ q ∧ q < w8.heap.size) := fun q hq => by
    have := hT7 q hq
    have := H8.out.2.2.2.2.2
    omega
  obtain ⟨x0, x1, x2, x3, x4, e0, e1, e2, e3, e4⟩ := Blk.five H7.out
  clear hb7 ho7 hT7 H6
  go_upto_region 4 with fail
  rw [← Hw8.out]
  clear Hw8 H7 x0 x1 x2 x3 x4 e0 e1 e2 e3 e4
  obtain ⟨x0, x1, x2, x3, x4, -⟩ := Blk.five H8.out.2.1
  obtain ⟨y0, y1, y2, y3, y4, z0, z1, z2, z3, z4⟩ := Blk.five H8.out.2.2.1
  go_wp2
  change bodyPost _ _ _ _ _ (putC w8 gr 0 [.int .i64 k, .int .i64 n, .string tb, .slice n5 ns.length c5, .slice i7 its.length c7])
  have hmin : ∃ B0, w.heap.size ≤ B0 ∧ B0 ≤ w4.heap.size ∧ B0 ≤ w6.heap.size ∧ ga < B0 ∧ gr < B0 := by
    exact ⟨w4.heap.size, hz4, Nat.le_refl _, hs46, hlt4, hlr4⟩
  obtain ⟨B0, hB1, hB2, hB3, hB4, hB5⟩ := hmin
  obtain ⟨U, hU, hUb, -⟩ := JAt.build (k := k) (n := n) (t := t) (H8.out.2.2.2.1.mono hB2) (H8.out.2.2.2.2.1.weak hB3) (fun q hq => by have := HT8.out q hq; exact ⟨by omega, this.2⟩)
  refine ret_cell rfl rfl rfl (load_js (putC_all H8.out.2.2.1 rfl) rfl) ?_
  refine ⟨putC_below _ _ _ H8.out.1 HB2.out.2.2.2.2.2, _, U, rfl, ?_, fun q hq => ?_⟩
  · have h9 := JAt.frm (frm_put w8 gr [.int .i64 k, .int .i64 n, .string tb, .slice n5 ns.length c5, .slice i7 its.length c7]) (fun q hq e => by have := (hUb q hq).1; omega) _ _ hU
    rw [← HIH.out.2.2.2.2.2.2.2] at h9
    exact h9
  · rw [putC_size]
    have := hUb q hq
    omega
mutual
theorem specC : ∀ v : Js, SpecC v
  | .mk k n t ns its => copyValue_of k n t ns its (specCs its)
theorem specCs : ∀ its : List Js, ∀ x ∈ its, SpecC x
  | [], x, hx => by cases hx
  | y :: ys, x, hx => by
    rcases List.mem_cons.1 hx with h | h
    · rw [h]; exact specC y
    · exact specCs ys x h
end
end Go.Proofs.YtelhgjepjieocaaDoor
