/- Layer 18 (json): copyItems, copyValue. -/
import Derived.Test.YtelhgjepjieocaaDoorJxSpF
namespace Go.Proofs.YtelhgjepjieocaaDoor
open Go.RowKit Go.MapKept Go.Sort
set_option linter.unusedVariables false

set_option maxRecDepth 100000 in
set_option maxHeartbeats 4000000 in
theorem cloneItems_calls (ia : Option Addr) (il ic : Nat) (its : List Js) (w : World) (S : Nat → Prop) (hil : its.length = il) (hb : il ≤ 1759218604416) (hi : ItAt w S ia 0 its) :
    Calls Tryd.prog 53 #[.slice ia il ic] w fun e w' => ∃ v' css, e = .returned v' ∧ OwI w' w.heap.size S v' its css ∧ Below w.heap.size w w' := by
  cases ia with
  | none =>
    have h0 : its = [] := by
      cases its with
      | nil => rfl
      | cons x xs =>
        unfold ItAt at hi
        obtain ⟨⟨b, off, cs, e, -⟩, -⟩ := hi
        cases e
    subst h0
    have hq : ∀ W : World, (binOp .eql 24 (.slice none il ic) (.slice none 0 0)).run Tryd.prog W = .ok (.bool true) W := fun W => Lib.run_eql_slice_nil W 24 26 none il ic 0 0 Tryd.underlying24
    clear hi hil
    go_enter Tryd.func53, Tryd.ntmps53
    go_wp2
    go_ret
    exact ⟨_, [], rfl, OwI.nil _ _ _, Below.refl _ _⟩
  | some a =>
    obtain ⟨css, hcl, hc5, hcj, hcc⟩ := ItAt.cells its 0 hi
    have hfl := flC_length hc5
    have hb0 : Below w.heap.size w (w.alloc (.cells #[] 26)) := (Below.refl _ _).alloc (Nat.le_refl _) _
    have HO : Hid ((w.alloc (.cells #[] 26)).ownsRow w.heap.size 26 5 (.slice (some ⟨w.heap.size, 0, none⟩) 0 0) 0 []) := World.ownsRow_lit (size := 5) w #[] 0 (Nat.le_refl _) (by unfold maxLen; omega) rfl
    have hq : ∀ W : World, (binOp .eql 24 (.slice (some a) il ic) (.slice none 0 0)).run Tryd.prog W = .ok (.bool false) W := fun W => Lib.run_eql_slice_nil W 24 26 (some a) il ic 0 0 Tryd.underlying24
    have HCC : Hid (∀ j u, (flC css)[j]? = some u → (w.alloc (.cells #[] 26)).cell? (a.add j) = some u) := by
      intro j u hu
      have hne : its ≠ [] := by
        rintro rfl
        have : css = [] := List.eq_nil_of_length_eq_zero hcl
        subst this
        simp [flC] at hu
      obtain ⟨b, off, e, h⟩ := hcc hne
      obtain rfl := Option.some.inj e
      have h1 := h j u hu
      rw [addr_add]
      rw [show off + 0 * 5 + j = off + j by omega] at h1
      exact cell_frm (Frm.ofBelow hb0 (fun _ => False)) h1 (fun h => h)
    have HON : Hid (∀ u ∈ flC css, u.oneCell' = true) := by
      intro u hu
      obtain ⟨cs, hcm, hu2⟩ := List.mem_flatMap.1 hu
      obtain ⟨i, hi1, rfl⟩ := List.getElem_of_mem hcm
      exact (hcj i (by omega) hi1).one u hu2
    have HJ : Hid (∀ (i : Nat) (h1 : i < its.length) (h2 : i < css.length), JAt w S its[i] css[i]) := hcj
    have HL : Hid (css.length = its.length ∧ (∀ cs ∈ css, cs.size = 5) ∧ its.length = il ∧ (flC css).length = il * 5) := ⟨hcl, hc5, hil, by rw [hfl, hcl, hil]⟩
    clear hi hcl hc5 hcj hcc hfl hil
    go_enter Tryd.func53, Tryd.ntmps53
    obtain ⟨i0, hi0, hz0, hz1, hz2⟩ := infoV info_js
    go_wp2_with (at_builtin; go_must (refine wpList_append_grew _ rfl (.tmp 5) (.tmp 6) 24 rfl w.heap.size 26 i0 _ 5 80 Tryd.underlying24 hi0 hz0 hz1 hz2 rfl (by decide) _ 0 [] rfl HO.out a il ic (flC css) rfl (by have := HL.out.2.2.2; omega) HCC.out HON.out (by unfold maxLen; omega) (by omega) (by simp) ?_))
    intro v1 w1 h1 h2 h3
    have HR : Hid (OwI w1 w.heap.size S v1 its css ∧ Below w.heap.size w w1) := by
      have hb1 : Below w.heap.size w w1 := hb0.trans (h2.toBelow (by simp) (fun j hj => by
        have := (World.ownsRow.lt HO.out j hj).1
        exact this))
      refine ⟨⟨?_, HL.out.2.1, HL.out.1, fun k h1 h2 => (HJ.out k h1 h2).below hb1⟩, hb1⟩
      rw [HL.out.2.2.1]
      simpa using h1
    obtain ⟨a1, c1, hv1⟩ := HR.out.1.shape
    subst hv1
    clear h1 h2 h3 hb0
    go_wp2
    go_ret
    exact ⟨_, css, rfl, HR.out.1, HR.out.2⟩
/-- Items that are copied one behind the other: k of them are. -/
structure CpI (w : World) (S T : Nat → Prop) (its : List Js) (g n c : Nat) (css : List (Array Value)) (k : Nat) (wr : World) : Prop where
  row : wr.ownsRow w.heap.size 26 5 (.slice (some ⟨g, 0, none⟩) n c) n (flC css)
  cnt : its.length = n
  len : css.length = its.length
  five : ∀ cs ∈ css, cs.size = 5
  new : ∀ (i : Nat) (h1 : i < its.length) (h2 : i < css.length), i < k → JAt wr T its[i] css[i]
  old : ∀ (i : Nat) (h1 : i < its.length) (h2 : i < css.length), k ≤ i → JAt wr S its[i] css[i]
  tb : ∀ q, T q → w.heap.size ≤ q ∧ q < wr.heap.size ∧ q ≠ g
  sS : ∀ q, S q → q < w.heap.size
  below : Below w.heap.size w wr
theorem CpI.gb {w wr : World} {S T : Nat → Prop} {its : List Js} {g n c k : Nat} {css : List (Array Value)} (h : CpI w S T its g n c css k wr) : w.heap.size ≤ g ∧ g < wr.heap.size := World.ownsRow.lt h.row g rfl
theorem CpI.more {w wr w' : World} {S T : Nat → Prop} {its : List Js} {g n c k : Nat} {css : List (Array Value)} (h : CpI w S T its g n c css k wr) (hb : Below wr.heap.size wr w') : CpI w S T its g n c css k w' := by
  refine ⟨⟨h.row.1, ?_⟩, h.cnt, h.len, h.five, fun i h1 h2 hk => (h.new i h1 h2 hk).below hb, fun i h1 h2 hk => (h.old i h1 h2 hk).below hb, fun q hq => ?_, h.sS, h.below.trans (hb.mono h.below.size)⟩
  · rcases h.row.2 with h0 | ⟨g', cap, cur, e, hb', hg, r⟩
    · exact .inl h0
    · exact .inr ⟨g', cap, cur, e, hb', (hb.block g' (lt_of_heapT hg)).trans hg, r⟩
  · have := h.tb q hq
    have := hb.size
    omega
theorem CpI.put {w w2 : World} {S T T2 : Nat → Prop} {its : List Js} {g n c k : Nat} {css : List (Array Value)} {cs : Array Value} (h : CpI w S T its g n c css k w2) (hk : k < its.length) (hx : JAt w2 T2 its[k] cs) (h5 : cs.size = 5)
    (hT2 : ∀ q, T2 q → w.heap.size ≤ q ∧ q < w2.heap.size ∧ q ≠ g) : CpI w S (fun q => T q ∨ T2 q) its g n c (css.set k cs) (k + 1) (putC w2 g (k * 5) cs.toList) := by
  have hgb := h.gb
  have hF : Frm (fun q => q = g) w2 (putC w2 g (k * 5) cs.toList) := putC_frm (S := fun q => q = g) (.inl rfl) _ _ _ (Frm.refl (fun q => q = g) w2)
  have hkc : k < css.length := by rw [h.len]; exact hk
  refine ⟨?_, h.cnt, by rw [List.length_set]; exact h.len, fun x hxm => ?_, fun i h1 h2 hik => ?_, fun i h1 h2 hik => ?_, fun q hq => ?_, h.sS, putC_below _ _ _ h.below hgb.1⟩
  · rw [← flC_set css k cs h.five h5 hkc]
    exact row_put _ _ _ _ h.row
  · rcases List.mem_or_eq_of_mem_set hxm with hxm | rfl
    · exact h.five x hxm
    · exact h5
  · rcases Nat.lt_or_ge i k with h3 | h3
    · rw [List.getElem_set_ne (by omega)]
      exact JAt.mono (fun q hq => .inl hq) _ _ (JAt.frm hF (fun q hq e => (h.tb q hq).2.2 e) _ _ (h.new i h1 (by rw [List.length_set] at h2; exact h2) h3))
    · obtain rfl : i = k := by omega
      rw [List.getElem_set_self]
      exact JAt.mono (fun q hq => .inr hq) _ _ (JAt.frm hF (fun q hq e => (hT2 q hq).2.2 e) _ _ hx)
  · rw [List.getElem_set_ne (by omega)]
    exact JAt.frm hF (fun q hq e => by have := h.sS q hq; omega) _ _ (h.old i h1 (by rw [List.length_set] at h2; exact h2) (by omega))
  · rw [putC_size]
    rcases hq with hq | hq
    · exact h.tb q hq
    · exact hT2 q hq
def SpecC (v : Js) : Prop := ∀ (w : World) (S : Nat → Prop) (cs : Array Value), Fit v → JAt w S v cs → (∀ k, S k → k < w.heap.size) →
  Calls Tryd.prog 34 #[.agg cs] w fun e w' => Below w.heap.size w w' ∧ ∃ cs' T, e = .returned (.agg cs') ∧ JAt w' T v cs' ∧ ∀ k, T k → w.heap.size ≤ k ∧ k < w'.heap.size
set_option maxRecDepth 100000 in
set_option maxHeartbeats 4000000 in
theorem copyItems_calls (its : List Js) (IH : ∀ x ∈ its, SpecC x) (il ic : Nat) (ia : Option Addr) (w : World) (S : Nat → Prop) (hil : its.length = il) (hb : il ≤ 1759218604416) (hf : Fits its) (hi : ItAt w S ia 0 its) (hSB : ∀ k, S k → k < w.heap.size) :
    Calls Tryd.prog 36 #[.slice ia il ic] w fun e w' => ∃ v' css T, e = .returned v' ∧ OwI w' w.heap.size T v' its css ∧ Below w.heap.size w w' ∧ ∀ q, T q → w.heap.size ≤ q ∧ q < w'.heap.size := by
  have HC := cloneItems_calls ia il ic its w S hil hb hi
  have HIH : Hid ((∀ x ∈ its, SpecC x) ∧ Fits its ∧ its.length = il ∧ ∀ k, S k → k < w.heap.size) := ⟨IH, hf, hil, hSB⟩
  clear IH hf hil hi hSB
  go_enter Tryd.func36, Tryd.ntmps36
  go_wp2_with fail
  refine HC.mono ?_
  clear HC
  rintro e w1 ⟨v1, css, rfl, ho1, hb1⟩
  obtain ⟨a1, c1, rfl⟩ := ho1.shape
  rw [HIH.out.2.2.1] at ho1 ⊢
  by_cases hz : il = 0
  · subst hz
    have HR : Hid (OwI w1 w.heap.size S (.slice a1 0 c1) its css ∧ Below w.heap.size w w1 ∧ its = []) := ⟨ho1, hb1, List.eq_nil_of_length_eq_zero (by rw [HIH.out.2.2.1])⟩
    clear ho1 hb1
    go_wp2
    go_loopw [4, 5, 10] (fun x y i wr => i = .int .i64 0 ∧ wr = w1) (fun _ _ _ _ => 0)
    case atStart => exact ⟨rfl, rfl⟩
    case round =>
      obtain ⟨rfl, rfl⟩ := hrel
      go_wp2
      go_ret
      refine ⟨_, [], fun _ => False, rfl, ?_, HR.out.2.1, fun q h => h.elim⟩
      obtain ⟨hro, h5, hlen, -⟩ := HR.out.1
      have hi0 := HR.out.2.2
      subst hi0
      have hc0 : css = [] := List.eq_nil_of_length_eq_zero hlen
      subst hc0
      exact ⟨hro, h5, hlen, fun k h => absurd h (Nat.not_lt_zero _)⟩
  · obtain ⟨g, rfl⟩ : ∃ g, a1 = some ⟨g, 0, none⟩ := by
      rcases ho1.row.2 with ⟨he, h0⟩ | ⟨g, cap, cur, he, _⟩
      · have := HIH.out.2.2.1; omega
      · simp only [Value.slice.injEq] at he
        exact ⟨g, he.1⟩
    have HI : Hid (∃ T css, CpI w S T its g il c1 css 0 w1) := by
      refine ⟨fun _ => False, css, ?_, HIH.out.2.2.1, ho1.len, ho1.five, fun i h1 h2 h => absurd h (Nat.not_lt_zero _), fun i h1 h2 _ => ho1.at_ i h1 h2, fun q h => h.elim, HIH.out.2.2.2, hb1⟩
      have h9 := ho1.row
      rw [HIH.out.2.2.1] at h9
      exact h9
    clear ho1 hb1
    go_wp2
    go_loopw [4, 5, 10] (fun x y i wr => ∃ k : Nat, k ≤ il ∧ i = .int .i64 (k : Int) ∧ Hid (∃ T css, CpI w S T its g il c1 css k wr)) (fun _ _ i _ => il - (intOf i).toNat)
    case atStart => exact ⟨0, Nat.zero_le _, rfl, HI.out⟩
    case round =>
      clear HI
      obtain ⟨k, hk, rfl, HI⟩ := hrel
      obtain ⟨T, css, hI⟩ := HI.out
      have HC : Hid (CpI w S T its g il c1 css k wr) := hI
      clear HI hI
      by_cases hlt : k < il
      · have hkl : k < its.length := by rw [HIH.out.2.2.1]; exact hlt
        have hkc : k < css.length := by rw [HC.out.len]; exact hkl
        have hj := HC.out.old k hkl hkc (Nat.le_refl _)
        obtain ⟨cs, hcs0⟩ : ∃ cs, cs = css[k] := ⟨_, rfl⟩
        have hcell : ∀ j u, cs[j]? = some u → wr.cell? ⟨g, k * 5 + j, none⟩ = some u := by
          intro j u hu
          have hj5 : j < 5 := by
            obtain ⟨h1, _⟩ := Array.getElem?_eq_some_iff.1 hu
            rw [hcs0, HC.out.five _ (List.getElem_mem hkc)] at h1; exact h1
          rw [World.ownsRow.cellAt HC.out.row (k * 5 + j) (by omega)]
          rw [hcs0] at hu
          exact flC_at css k hkc j u HC.out.five hu
        rw [← hcs0] at hj
        clear hcs0
        obtain ⟨xk, xn, xt, xa, xl, xc, ya, yl, yc, hcs⟩ := JAt.cs hj
        subst hcs
        have q0 := hcell 0 _ rfl
        have q1 := hcell 1 _ rfl
        have q2 := hcell 2 _ rfl
        have q3 := hcell 3 _ rfl
        have q4 := hcell 4 _ rfl
        simp only [Nat.add_zero] at q0
        obtain ⟨w2, Hw2⟩ : ∃ w2, Hid (w2 = wr.alloc (.cells #[.int .i64 xk, .int .i64 xn, .string xt, .slice xa xl xc, .slice ya yl yc] 26)) := ⟨_, rfl⟩
        obtain ⟨gb, Hgb⟩ : ∃ gb, Hid (gb = wr.heap.size) := ⟨_, rfl⟩
        have hb2 : Below wr.heap.size wr w2 := by rw [Hw2.out]; exact below_new _ _
        have HBk : Hid (Blk w2 gb #[.int .i64 xk, .int .i64 xn, .string xt, .slice xa xl xc, .slice ya yl yc] 26) := by rw [Hid, Hw2.out, Hgb.out]; exact Blk.new _ _ _
        have HC2 : Hid (CpI w S T its g il c1 css k w2) := HC.out.more hb2
        obtain ⟨x0, x1, x2, x3, x4, -⟩ := Blk.five HBk.out
        have HV := HIH.out.1 _ (List.getElem_mem hkl) w2 S _ (Fits.mem HIH.out.2.1 _ (List.getElem_mem hkl)) (hj.below hb2) (fun q hq => Nat.lt_of_lt_of_le (HC2.out.sS q hq) HC2.out.below.size)
        clear HC hcell hj hb2
        go_upto_region 5 with fail
        rw [← Hw2.out, ← Hgb.out]
        clear Hw2 Hgb q0 q1 q2 q3 q4
        go_wp2_with fail
        refine HV.mono ?_
        clear HV
        rintro e w3 ⟨hb3, ds, T2, rfl, hj3, hT3⟩
        have HC3 : Hid (CpI w S T its g il c1 css k w3) := HC2.out.more hb3
        have h5d : ds.size = 5 := by
          obtain ⟨_, _, _, _, _, _, _, _, _, e⟩ := JAt.cs hj3
          rw [e]; rfl
        have HC4 : Hid (∃ T css, CpI w S T its g il c1 css (k + 1) (putC w3 g (k * 5) ds.toList)) := ⟨_, _, HC3.out.put hkl hj3 h5d (fun q hq => by
          have h1 := hT3 q hq
          have h2 := HC2.out.gb
          have h3 := HC2.out.below.size
          exact ⟨by omega, h1.2, by omega⟩)⟩
        obtain ⟨zk, zn, zt, za, zl, zc, ta, tl_, tc, hds⟩ := JAt.cs hj3
        subst hds
        have r0 : w3.frozen? ⟨g, k * 5, none⟩ = false := World.ownsRow.frozenAt HC3.out.row _
        have r1 : w3.frozen? ⟨g, k * 5 + 1, none⟩ = false := World.ownsRow.frozenAt HC3.out.row _
        have r2 : w3.frozen? ⟨g, k * 5 + 2, none⟩ = false := World.ownsRow.frozenAt HC3.out.row _
        have r3 : w3.frozen? ⟨g, k * 5 + 3, none⟩ = false := World.ownsRow.frozenAt HC3.out.row _
        have r4 : w3.frozen? ⟨g, k * 5 + 4, none⟩ = false := World.ownsRow.frozenAt HC3.out.row _
        have hcl : ∀ j, j < 5 → ∃ u, w3.cell? ⟨g, k * 5 + j, none⟩ = some u := by
          intro j hj5
          rw [World.ownsRow.cellAt HC3.out.row (k * 5 + j) (by omega)]
          have h1 := flC_length HC3.out.five
          have h2 := HC3.out.len
          exact ⟨_, List.getElem?_eq_getElem (by omega)⟩
        obtain ⟨s0, p0⟩ := hcl 0 (by omega)
        obtain ⟨s1, p1⟩ := hcl 1 (by omega)
        obtain ⟨s2, p2⟩ := hcl 2 (by omega)
        obtain ⟨s3, p3⟩ := hcl 3 (by omega)
        obtain ⟨s4, p4⟩ := hcl 4 (by omega)
        rw [Nat.add_zero] at p0
        clear hcl hb3 hj3 hT3 h5d HC3 HC2 x0 x1 x2 x3 x4 HBk
        go_wp2
        go_roundw
        case rel => exact ⟨k + 1, by omega, by go_num, HC4⟩
        case measure => simp [intOf]; omega
      · go_wp2
        go_ret
        refine ⟨_, css, T, rfl, ⟨?_, HC.out.five, HC.out.len, fun i h1 h2 => HC.out.new i h1 h2 (by have := HIH.out.2.2.1; omega)⟩, HC.out.below, fun q hq => ⟨(HC.out.tb q hq).1, (HC.out.tb q hq).2.1⟩⟩
        rw [HIH.out.2.2.1]
        exact HC.out.row
end Go.Proofs.YtelhgjepjieocaaDoor
