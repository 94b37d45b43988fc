/- Layer 18 (json): the law JsonMakes. -/
import Derived.Test.YtelhgjepjieocaaDoorJxAlive
namespace Go.Proofs.YtelhgjepjieocaaDoor
open Go.RowKit Go.MapKept Go.Sort
set_option linter.unusedVariables false

theorem rng_plain2 {k n : Int} {t : List UInt8} (h1 : -9223372036854775808 ≤ n ∧ n ≤ 9223372036854775807) (h2 : t.length ≤ 140737488355328) : Rng (.mk k n t [] []) := by
  unfold Rng Rngs
  exact ⟨h1, h2, by simp, by simp, fun s h => (by cases h), trivial⟩
theorem strs_one (ns : List (List UInt8)) : ∀ u ∈ ns.map strV, u.oneCell' = true := fun u hu => by
  obtain ⟨t, _, rfl⟩ := List.mem_map.1 hu
  rfl
/-- The second of two equal values. -/
theorem same2 (v : Js) (hr : Rng v) (w : World) (S T : Nat → Prop) (cs ds : Array Value) (h1 : JAt w S v cs) (h2 : JAt w T v ds) : Calls Tryd.prog 12 #[.agg cs, .agg ds] w fun e w' => e = .returned (.bool true) ∧ Below w.heap.size w w' := specM v w S T cs ds hr h1 h2
theorem sameP (k n : Int) (t : List UInt8) (w : World) (h1 : -9223372036854775808 ≤ n ∧ n ≤ 9223372036854775807) (h2 : t.length ≤ 140737488355328) (tb : ByteArray) (ht : tb = nmB t) :
    Calls Tryd.prog 12 #[.agg #[.int .i64 k, .int .i64 n, .string tb, .slice none 0 0, .slice none 0 0], .agg #[.int .i64 k, .int .i64 n, .string tb, .slice none 0 0, .slice none 0 0]] w fun e w' => e = .returned (.bool true) ∧ Below w.heap.size w w' := by
  subst ht
  exact same2 (.mk k n t [] []) (rng_plain2 h1 h2) w noB noB _ _ (JAt.plain w k n t) (JAt.plain w k n t)
theorem VAt.cells {w : World} {na : Option Addr} {l : List Value} (h : VAt w na l) (hne : l ≠ []) : ∃ b off, na = some ⟨b, off, none⟩ ∧ ∀ j u, l[j]? = some u → w.cell? ⟨b, off + j, none⟩ = some u := by
  obtain ⟨b, off, e, _⟩ := h 0 (List.length_pos_iff.2 hne)
  refine ⟨b, off, e, fun j u hj => ?_⟩
  obtain ⟨h1, h2⟩ := List.getElem?_eq_some_iff.1 hj
  obtain ⟨b2, off2, e2, hc⟩ := h j h1
  rw [e] at e2
  simp only [Option.some.injEq, Addr.mk.injEq, and_true] at e2
  obtain ⟨rfl, rfl⟩ := e2
  rw [hc, h2]
theorem JAt.of {w : World} {S : Nat → Prop} {k n : Int} {t : List UInt8} {ns : List (List UInt8)} {its : List Js} {na ia : Option Addr} {nc ic : Nat} (h1 : VAt w na (ns.map strV)) (h2 : ItAt w S ia 0 its) (h3 : ∀ a, na = some a → ns ≠ [] → S a.block) (h4 : ∀ a, ia = some a → its ≠ [] → S a.block) :
    JAt w S (.mk k n t ns its) (jC k n (nmB t) (.slice na ns.length nc) (.slice ia its.length ic)) := by
  unfold JAt
  exact ⟨na, nc, ia, ic, rfl, h1, h3, h4, h2⟩
theorem rngs_rng {k n : Int} {ns : List (List UInt8)} {its : List Js} (h1 : -9223372036854775808 ≤ n ∧ n ≤ 9223372036854775807) (h2 : ns.length ≤ 140737488355328) (h3 : its.length ≤ 140737488355328) (h4 : ∀ t ∈ ns, t.length ≤ 140737488355328) (h5 : Rngs its) : Rng (.mk k n [] ns its) := by
  unfold Rng
  exact ⟨h1, by simp, h2, h3, h4, h5⟩
theorem fieldJ_rng {k n : Int} {t : List UInt8} {ns : List (List UInt8)} {its : List Js} (h : Rngs its) (nm : List UInt8) : Rng ((fieldJ (.mk k n t ns its) nm).getD jsN) := by
  have h0 : Rng jsN := rng_plain2 (by omega) (by simp)
  rw [fieldJ_eq]
  split
  · split
    · cases hx : its[idxN ns nm]? with
      | none => exact h0
      | some x => exact Rngs.mem h x (List.mem_of_getElem? hx)
    · exact h0
  · exact h0
structure MkS (w : World) (S : Nat → Prop) (ns : List (List UInt8)) (its : List Js) (na ia : Option Addr) (w' : World) : Prop where
  below : Below w.heap.size w w'
  vs : Vs w'
  nm : VAt w' na (ns.map strV)
  it : ItAt w' S ia 0 its
  sb : ∀ q, S q → q < w'.heap.size
theorem MkS.more {w w1 w2 : World} {S : Nat → Prop} {ns : List (List UInt8)} {its : List Js} {na ia : Option Addr} (h : MkS w S ns its na ia w1) (hn : ∀ a, na = some a → ns ≠ [] → S a.block) (hi : ∀ a, ia = some a → its ≠ [] → S a.block) (hb : Below w1.heap.size w1 w2) : MkS w S ns its na ia w2 :=
  ⟨h.below.trans (hb.mono h.below.size), h.vs.stay hb, VAt.frmN h.nm (Frm.ofBelow hb noB) (fun _ _ h => h) hn, ItAt.frm (Frm.ofBelow hb noB) (fun _ _ h => h) its ia 0 hi h.it, fun q hq => Nat.lt_of_lt_of_le (h.sb q hq) hb.size⟩
/-- What the law writes over: its own copies of the names and the items. -/
structure MkI (w w6 w9 : World) (S : Nat → Prop) (ns : List (List UInt8)) (its : List Js) (na ia : Option Addr) (vn vi : Value) (nl il : Nat) (wx : World) : Prop where
  mks : MkS w S ns its na ia wx
  vs0 : Vs w
  s0 : ∀ q, S q → q < w.heap.size
  frm : Frm (fun q => w.heap.size ≤ q ∧ q < w6.heap.size) w9 wx
  rowN : ∃ l, wx.ownsRow w.heap.size 9 1 vn nl l
  rowI : ∃ l, wx.ownsRow w.heap.size 26 5 vi il l
  ltN : ∀ q, vn.ownBlock = some q → q < w6.heap.size
  ltI : ∀ q, vi.ownBlock = some q → q < w6.heap.size
  apart : ∀ q r, vn.ownBlock = some q → vi.ownBlock = some r → q ≠ r
theorem row_other {B g size n : Nat} {e : TypeId} {w : World} {v : Value} {l : List Value} (h : w.ownsRow B e size v n l) (hne : ∀ q, v.ownBlock = some q → q ≠ g) (i : Nat) (vs : List Value) : (putC w g i vs).ownsRow B e size v n l := by
  refine ⟨h.1, ?_⟩
  rcases h.2 with h0 | ⟨b, cap, cur, rfl, hb, hg, r⟩
  · exact .inl h0
  · exact .inr ⟨b, cap, cur, rfl, hb, (putC_blk (hne b rfl) _ _ _).trans hg, r⟩
theorem MkI.put {w w6 w9 wx : World} {S : Nat → Prop} {ns : List (List UInt8)} {its : List Js} {na ia : Option Addr} {vn vi : Value} {nl il : Nat} (h : MkI w w6 w9 S ns its na ia vn vi nl il wx) (hn : ∀ a, na = some a → ns ≠ [] → S a.block) (hi : ∀ a, ia = some a → its ≠ [] → S a.block) (g : Nat) (hg : w.heap.size ≤ g ∧ g < w6.heap.size) (i : Nat) (vs : List Value)
    (h1 : ∃ l, (putC wx g i vs).ownsRow w.heap.size 9 1 vn nl l) (h2 : ∃ l, (putC wx g i vs).ownsRow w.heap.size 26 5 vi il l) : MkI w w6 w9 S ns its na ia vn vi nl il (putC wx g i vs) := by
  have hF : Frm (fun q => q = g) wx (putC wx g i vs) := putC_frm (S := fun q => q = g) (.inl rfl) _ _ _ (Frm.refl (fun q => q = g) wx)
  have hd : ∀ k, S k → ¬ k = g := fun k hk e => by have := h.s0 k hk; omega
  have hB : Below w.heap.size w (putC wx g i vs) := putC_below _ _ _ h.mks.below hg.1
  exact ⟨⟨hB, h.vs0.stay hB, VAt.frmN h.mks.nm hF hd hn, ItAt.frm hF hd its ia 0 hi h.mks.it, fun q hq => by rw [putC_size]; exact h.mks.sb q hq⟩, h.vs0, h.s0, putC_frm (.inl hg) _ _ _ h.frm, h1, h2, h.ltN, h.ltI, h.apart⟩
theorem MkI.putI {w w6 w9 wx : World} {S : Nat → Prop} {ns : List (List UInt8)} {its : List Js} {na ia : Option Addr} {vn : Value} {nl il c g : Nat} (h : MkI w w6 w9 S ns its na ia vn (.slice (some ⟨g, 0, none⟩) il c) nl il wx) (hn : ∀ a, na = some a → ns ≠ [] → S a.block) (hi : ∀ a, ia = some a → its ≠ [] → S a.block) (i : Nat) (vs : List Value) : MkI w w6 w9 S ns its na ia vn (.slice (some ⟨g, 0, none⟩) il c) nl il (putC wx g i vs) := by
  obtain ⟨l1, h1⟩ := h.rowN
  obtain ⟨l2, h2⟩ := h.rowI
  exact h.put hn hi g ⟨(h2.lt g rfl).1, h.ltI g rfl⟩ i vs ⟨l1, row_other h1 (fun q hq => h.apart q g hq rfl) i vs⟩ ⟨_, row_put vs wx i l2 h2⟩
theorem MkI.putN {w w6 w9 wx : World} {S : Nat → Prop} {ns : List (List UInt8)} {its : List Js} {na ia : Option Addr} {vi : Value} {nl il c g : Nat} (h : MkI w w6 w9 S ns its na ia (.slice (some ⟨g, 0, none⟩) nl c) vi nl il wx) (hn : ∀ a, na = some a → ns ≠ [] → S a.block) (hi : ∀ a, ia = some a → its ≠ [] → S a.block) (i : Nat) (vs : List Value) : MkI w w6 w9 S ns its na ia (.slice (some ⟨g, 0, none⟩) nl c) vi nl il (putC wx g i vs) := by
  obtain ⟨l1, h1⟩ := h.rowN
  obtain ⟨l2, h2⟩ := h.rowI
  exact h.put hn hi g ⟨(h1.lt g rfl).1, h.ltN g rfl⟩ i vs ⟨_, row_put vs wx i l1 h1⟩ ⟨l2, row_other h2 (fun q hq e => h.apart g q rfl hq e.symm) i vs⟩
theorem row_some {B size n c : Nat} {e : TypeId} {w : World} {a : Option Addr} {l : List Value} (h : w.ownsRow B e size (.slice a n c) n l) (hn : 0 < n * size) : ∃ g, a = some ⟨g, 0, none⟩ := by
  rcases h.2 with ⟨he, h0⟩ | ⟨g, cap, cur, he, _⟩
  · rw [h0] at hn
    simp at hn
  · simp only [Value.slice.injEq] at he
    exact ⟨g, he.1⟩
/-- Behind the loops. -/
structure FnI (w : World) (S : Nat → Prop) (ns : List (List UInt8)) (its : List Js) (na ia : Option Addr) (g3 g4 : Nat) (T7 T8 : Nat → Prop) (c7 c8 : Array Value) (wx : World) : Prop where
  mks : MkS w S ns its na ia wx
  b3 : Blk wx g3 c7 26
  b4 : Blk wx g4 c8 26
  j3 : JAt wx T7 (.mk 5 0 [] [] its) c7
  j4 : JAt wx T8 (.mk 6 0 [] ns its) c8
  t3 : ∀ q, T7 q → q < wx.heap.size
  t4 : ∀ q, T8 q → q < wx.heap.size
theorem FnI.more {w w1 w2 : World} {S : Nat → Prop} {ns : List (List UInt8)} {its : List Js} {na ia : Option Addr} {g3 g4 : Nat} {T7 T8 : Nat → Prop} {c7 c8 : Array Value} (h : FnI w S ns its na ia g3 g4 T7 T8 c7 c8 w1) (hn : ∀ a, na = some a → ns ≠ [] → S a.block) (hi : ∀ a, ia = some a → its ≠ [] → S a.block) (hb : Below w1.heap.size w1 w2) : FnI w S ns its na ia g3 g4 T7 T8 c7 c8 w2 :=
  ⟨h.mks.more hn hi hb, h.b3.below hb, h.b4.below hb, h.j3.below hb, h.j4.below hb, fun q hq => Nat.lt_of_lt_of_le (h.t3 q hq) hb.size, fun q hq => Nat.lt_of_lt_of_le (h.t4 q hq) hb.size⟩
set_option maxRecDepth 100000 in
set_option maxHeartbeats 8000000 in
theorem jsonMakes_calls (ns : List (List UInt8)) (its : List Js) (b : Bool) (n : Int) (nm : List UInt8) (nl nc il ic : Nat) (na ia : Option Addr) (w : World) (hnl : ns.length = nl) (hil : its.length = il) (hbn : nl ≤ 8796093021952) (hbi : il ≤ 1759218604416) (hnz : ∀ t ∈ ns, t.length ≤ 140737488355328) (hnn : na = none → nl = 0) (hin : ia = none → il = 0)
    (hr : Rngs its) (hf : Fits its) (hn : -9223372036854775808 ≤ n ∧ n ≤ 9223372036854775807) (hm : nm.length ≤ 140737488355328) (hv : VAt w na (ns.map strV)) (hnS : ∀ a, na = some a → ns ≠ [] → a.block < w.heap.size) (hi : ItAt w (fun k => k < w.heap.size) ia 0 its) (hs : ∀ a, ia = some a → its ≠ [] → a.block < w.heap.size) (hV : Vs w) :
    Calls Tryd.prog 7 #[.agg #[.slice na nl nc, .slice ia il ic, .bool b, .int .i64 n, .string (nmB nm)]] w (fun e w' => e = .returned (.bool true) ∧ Below w.heap.size w w') := by
  obtain ⟨S, HS0⟩ : ∃ S : Nat → Prop, Hid (S = fun k => k < w.heap.size) := ⟨_, rfl⟩
  have HSn : Hid (∀ a, na = some a → ns ≠ [] → S a.block) := fun a e h => by rw [HS0.out]; exact hnS a e h
  have HSi : Hid (∀ a, ia = some a → its ≠ [] → S a.block) := fun a e h => by rw [HS0.out]; exact hs a e h
  rw [← HS0.out] at hi
  have HZ : Hid (Vs w ∧ ∀ q, S q → q < w.heap.size) := ⟨hV, fun q hq => by rw [HS0.out] at hq; exact hq⟩
  obtain ⟨sb, Hsb⟩ : ∃ sb, Hid (sb = nmB nm) := ⟨_, rfl⟩
  rw [← Hsb.out]
  obtain ⟨w1, Hw1⟩ : ∃ w1, Hid (w1 = w.alloc (.cells #[.slice na nl nc, .slice ia il ic, .bool b, .int .i64 n, .string sb] 47)) := ⟨_, rfl⟩
  obtain ⟨g, Hg⟩ : ∃ g, Hid (g = w.heap.size) := ⟨_, rfl⟩
  have hb1 : Below w.heap.size w w1 := by rw [Hw1.out]; exact below_new _ _
  have HB1 : Hid (Blk w1 g #[.slice na nl nc, .slice ia il ic, .bool b, .int .i64 n, .string sb] 47) := by rw [Hid, Hw1.out, Hg.out]; exact Blk.new _ _ _
  have HM0 : MkS w S ns its na ia w := ⟨Below.refl _ _, hV, hv, hi, fun q hq => by rw [HS0.out] at hq; exact hq⟩
  have HM1 : Hid (MkS w S ns its na ia w1) := HM0.more HSn.out HSi.out hb1
  have HR : Hid (Rngs its ∧ Fits its ∧ ns.length = nl ∧ its.length = il ∧ (∀ t ∈ ns, t.length ≤ 140737488355328) ∧ nm.length ≤ 140737488355328 ∧ (-9223372036854775808 ≤ n ∧ n ≤ 9223372036854775807) ∧ (na = none → nl = 0) ∧ (ia = none → il = 0)) := ⟨hr, hf, hnl, hil, hnz, hm, hn, hnn, hin⟩
  have HA := alive_calls w1 HM1.out.vs
  clear hr hf hnl hil hnz hm hn hv hnS hi hs hV HM0 hb1 HS0 hnn hin
  go_enter Tryd.func7, Tryd.ntmps7
  go_upto_region 1 with fail
  rw [← Hw1.out, ← Hg.out]
  clear Hw1 Hg
  go_wp2_with fail
  refine HA.mono ?_
  clear HA
  rintro e w2 ⟨rfl, hb2⟩
  have HB2 : Hid (Blk w2 g #[.slice na nl nc, .slice ia il ic, .bool b, .int .i64 n, .string sb] 47) := HB1.out.below hb2
  have HM2 : Hid (MkS w S ns its na ia w2) := HM1.out.more HSn.out HSi.out hb2
  clear hb2 HB1 HM1
  obtain ⟨x0, x1, x2, x3, x4, -⟩ := Blk.five HB2.out
  have HMd : ∀ m, Hid (MkS w S ns its na ia (w2.drewN m)) := fun m => HM2.out.more HSn.out HSi.out (below_drawsT w2 m)
  go_wp2_with fail
  go_quiet (fail)
  clear HM2 HB2 x0 x1 x2 x3 x4
  have HM3 := HMd nq
  clear HMd
  generalize w2.drewN nq = w3 at HM3 ⊢
  go_upto_if 35 with fail
  go_cut [8] from 35 to 35 (fun x wx => wx = w3 ∧ ∃ one : Int, x = .int .i64 one ∧ Hid (one = (if b = true then 1 else 0)))
  case first =>
    cases b with
    | true =>
      go_wp2
      go_meet
      exact ⟨rfl, _, rfl, rfl⟩
    | false =>
      go_wp2
      go_meet
      exact ⟨rfl, _, rfl, rfl⟩
  case rest =>
    obtain ⟨rfl, one, rfl, Hone⟩ := hcut
    have HBJ := fun w => boolJ_calls b w
    simp only [← Hone.out] at HBJ
    have HNM : Hid (nm.length ≤ 140737488355328 ∧ (-9223372036854775808 ≤ n ∧ n ≤ 9223372036854775807)) := ⟨HR.out.2.2.2.2.2.1, HR.out.2.2.2.2.2.2.1⟩
    go_wp2_with fail
    refine (null_calls _).mono ?_
    rintro e w4 ⟨rfl, hb4⟩
    have HM4 : Hid (MkS w S ns its na ia w4) := HM3.out.more HSn.out HSi.out hb4
    clear hb4 HM3
    unfold jC
    go_wp2_with fail
    refine (sameP 1 0 [] w4 (by omega) (by simp) _ rfl).mono ?_
    rintro e w5 ⟨rfl, hb5⟩
    have HM5 : Hid (MkS w S ns its na ia w5) := HM4.out.more HSn.out HSi.out hb5
    clear hb5 HM4
    go_wp2_with fail
    refine (HBJ _).mono ?_
    clear HBJ
    rintro e w6 ⟨rfl, hb6⟩
    have HM6 : Hid (MkS w S ns its na ia w6) := HM5.out.more HSn.out HSi.out hb6
    clear hb6 HM5
    unfold jC
    have HO1 : Hid (-9223372036854775808 ≤ one ∧ one ≤ 9223372036854775807) := by rw [Hid, Hone.out]; cases b <;> simp
    go_wp2_with fail
    refine (sameP 2 one [] w6 HO1.out (by simp) _ rfl).mono ?_
    rintro e w7 ⟨rfl, hb7⟩
    have HM7 : Hid (MkS w S ns its na ia w7) := HM6.out.more HSn.out HSi.out hb7
    clear hb7 HM6
    go_wp2_with fail
    refine (num_calls n _).mono ?_
    rintro e w8 ⟨rfl, hb8⟩
    have HM8 : Hid (MkS w S ns its na ia w8) := HM7.out.more HSn.out HSi.out hb8
    clear hb8 HM7
    unfold jC
    go_wp2_with fail
    refine (sameP 3 n [] w8 HNM.out.2 (by simp) _ rfl).mono ?_
    rintro e w9 ⟨rfl, hb9⟩
    have HM9 : Hid (MkS w S ns its na ia w9) := HM8.out.more HSn.out HSi.out hb9
    clear hb9 HM8
    have HT := textJ_calls nm w9 HNM.out.1
    rw [← Hsb.out] at HT
    go_wp2_with fail
    refine HT.mono ?_
    clear HT
    rintro e w10 ⟨hb10, cs, T, rfl, hj10, hT10⟩
    have HM10 : Hid (MkS w S ns its na ia w10) := HM9.out.more HSn.out HSi.out hb10
    have hcs : cs = #[.int .i64 4, .int .i64 0, .string sb, .slice none 0 0, .slice none 0 0] ∨ True := .inr trivial
    have HS4 := same2 (.mk 4 0 nm [] []) (rng_plain2 (by omega) HNM.out.1) w10 T noB cs _ hj10 (JAt.plain w10 4 0 nm)
    rw [← Hsb.out] at HS4
    unfold jC at HS4
    obtain ⟨xk, xn, xt, xa, xl, xc, ya, yl, yc, hcs⟩ := JAt.cs hj10
    subst hcs
    clear hb10 HM9 hT10 hj10
    go_wp2_with fail
    refine HS4.mono ?_
    clear HS4
    rintro e w11 ⟨rfl, hb11⟩
    have HM11 : Hid (MkS w S ns its na ia w11) := HM10.out.more HSn.out HSi.out hb11
    clear hb11 HM10
    go_wp2
    go_loopw [10, 66] (fun x i wr => ∃ k : Nat, k ≤ il ∧ i = .int .i64 (k : Int) ∧ Hid (MkS w S ns its na ia wr)) (fun _ i _ => il - (intOf i).toNat)
    case atStart => exact ⟨0, Nat.zero_le _, rfl, HM11⟩
    case round =>
      clear HM11
      obtain ⟨k, hk, rfl, HM⟩ := hrel
      by_cases hlt : k < il
      · have hkl : k < its.length := by rw [HR.out.2.2.2.1]; exact hlt
        obtain ⟨b5, off, cs, rfl, h5, hcell, hj⟩ := ItAt.get its 0 k hkl HM.out.it
        obtain ⟨xk, xn, xt, xa, xl, xc, ya, yl, yc, hcs⟩ := JAt.cs hj
        subst hcs
        simp only [Nat.zero_add] at hcell
        have q0 := hcell 0 _ rfl
        have q1 := hcell 1 _ rfl
        have q2 := hcell 2 _ rfl
        have q3 := hcell 3 _ rfl
        have q4 := hcell 4 _ rfl
        simp only [Nat.add_zero] at q0
        obtain ⟨w5, Hw5⟩ : ∃ w5, Hid (w5 = wr.alloc (.cells #[.int .i64 xk, .int .i64 xn, .string xt, .slice xa xl xc, .slice ya yl yc] 26)) := ⟨_, rfl⟩
        obtain ⟨g5, Hg5⟩ : ∃ g5, Hid (g5 = wr.heap.size) := ⟨_, rfl⟩
        have hb5 : Below wr.heap.size wr w5 := by rw [Hw5.out]; exact below_new _ _
        have HBk : Hid (Blk w5 g5 #[.int .i64 xk, .int .i64 xn, .string xt, .slice xa xl xc, .slice ya yl yc] 26) := by rw [Hid, Hw5.out, Hg5.out]; exact Blk.new _ _ _
        obtain ⟨x0, x1, x2, x3, x4, -⟩ := Blk.five HBk.out
        have HC := specN (its[k]'hkl) 2000 w5 S _ (by omega) (by omega) (Rngs.mem HR.out.1 _ (List.getElem_mem hkl)) (hj.below hb5)
        have HM5 : Hid (MkS w S ns its na (some ⟨b5, off, none⟩) w5) := HM.out.more HSn.out HSi.out hb5
        clear hcell hj hb5 HM
        go_upto_region 12 with fail
        rw [← Hw5.out, ← Hg5.out]
        clear Hw5 Hg5 q0 q1 q2 q3 q4
        go_wp2_with fail
        refine HC.mono ?_
        clear HC
        rintro e w6 ⟨⟨r, rfl, hr⟩, hb6⟩
        have HM6 : Hid (MkS w S ns its na (some ⟨b5, off, none⟩) w6) := HM5.out.more HSn.out HSi.out hb6
        clear hb6 HM5 x0 x1 x2 x3 x4
        by_cases h2 : 2000 ≤ r
        · go_wp2
          go_ret
          exact ⟨rfl, HM6.out.below⟩
        · go_wp2
          go_roundw
          case rel => exact ⟨k + 1, by omega, by go_num, HM6⟩
          case measure => simp [intOf]; omega
      · obtain ⟨wo, hwo⟩ : ∃ wo, wo = wr := ⟨_, rfl⟩
        subst hwo
        go_wp2_with (at_builtin; go_must (refine append_fresh wo rfl (.tmp 74) (.tmp 75) 23 9 (.string ⟨#[]⟩) 1 16 Tryd.underlying23 info_strJ rfl (by decide) rfl rfl na nl nc (ns.map strV) rfl HR.out.2.2.2.2.2.2.2.1 (by rw [List.length_map, HR.out.2.2.1]; omega) (VAt.cells HM.out.nm) (strs_one ns) (by unfold maxLen; omega) (by omega) ?_))
        intro v5 w5 ho5 hb5
        have HM5 : Hid (MkS w S ns its na ia w5) := HM.out.more HSn.out HSi.out hb5
        have HN5 : Hid (Ow w5 wo.heap.size 9 v5 (ns.map strV) ∧ w.heap.size ≤ wo.heap.size ∧ wo.heap.size ≤ w5.heap.size) := ⟨by unfold Ow; rw [List.length_map, HR.out.2.2.1]; exact ho5, HM.out.below.size, hb5.size⟩
        clear ho5 hb5 HM
        obtain ⟨css, HCS⟩ : ∃ css : List (Array Value), Hid (css.length = its.length ∧ (∀ cs ∈ css, cs.size = 5) ∧ (∀ (i : Nat) (h1 : i < its.length) (h2 : i < css.length), JAt w5 S its[i] css[i]) ∧
            (its ≠ [] → ∃ b off, ia = some ⟨b, off, none⟩ ∧ ∀ j u, (flC css)[j]? = some u → w5.cell? ⟨b, off + 0 * 5 + j, none⟩ = some u)) := ItAt.cells its 0 HM5.out.it
        have HFL : Hid ((flC css).length = il * 5) := by rw [Hid, flC_length HCS.out.2.1, HCS.out.1, HR.out.2.2.2.1]
        have HCC : Hid (flC css ≠ [] → ∃ b off, ia = some ⟨b, off, none⟩ ∧ ∀ j u, (flC css)[j]? = some u → w5.cell? ⟨b, off + j, none⟩ = some u) := by
          intro hne
          have hi0 : its ≠ [] := by
            rintro rfl
            have : css = [] := List.eq_nil_of_length_eq_zero HCS.out.1
            rw [this] at hne
            exact hne rfl
          obtain ⟨b, off, e, h⟩ := HCS.out.2.2.2 hi0
          refine ⟨b, off, e, fun j u hu => ?_⟩
          have := h j u hu
          rw [show off + 0 * 5 + j = off + j by omega] at this
          exact this
        have HON : Hid (∀ u ∈ flC css, u.oneCell' = true) := by
          intro u hu
          obtain ⟨cs, hcm, hu2⟩ := List.mem_flatMap.1 hu
          obtain ⟨i, hi1, rfl⟩ := List.getElem_of_mem hcm
          exact (HCS.out.2.2.1 i (by have := HCS.out.1; omega) hi1).one u hu2
        obtain ⟨a5, c5, hv5, -⟩ := HN5.out.1.shape
        rw [List.length_map, HR.out.2.2.1] at hv5
        subst hv5
        have HN5b : Hid (∀ q, (Value.slice a5 nl c5).ownBlock = some q → q < w5.heap.size) := fun q hq => (HN5.out.1.lt q hq).2
        go_wp2_with (at_builtin; go_must (refine append_fresh w5 rfl (.tmp 77) (.tmp 78) 24 26 _ 5 80 Tryd.underlying24 info_js rfl (by decide) rfl rfl ia il ic (flC css) rfl HR.out.2.2.2.2.2.2.2.2 HFL.out HCC.out HON.out (by unfold maxLen; omega) (by omega) ?_))
        intro v6 w6 ho6 hb6
        have HM6 : Hid (MkS w S ns its na ia w6) := HM5.out.more HSn.out HSi.out hb6
        have HN6 : Hid (Ow w6 wo.heap.size 9 (.slice a5 nl c5) (ns.map strV) ∧ w.heap.size ≤ wo.heap.size ∧ wo.heap.size ≤ w5.heap.size) := ⟨HN5.out.1.below hb6, HN5.out.2⟩
        have HI6 : Hid (OwI w6 w5.heap.size S v6 its css) := ⟨by rw [HR.out.2.2.2.1]; exact ho6, HCS.out.2.1, HCS.out.1, fun k h1 h2 => (HCS.out.2.2.1 k h1 h2).below hb6⟩
        obtain ⟨a6, c6, hv6⟩ := HI6.out.shape
        rw [HR.out.2.2.2.1] at hv6
        subst hv6
        have HL56 : Hid (w5.heap.size ≤ w6.heap.size) := hb6.size
        clear ho6 hb6 HM5 HN5 HCS HFL HCC HON
        have HS6 : Hid (ItAt w6 (fun q => q < w6.heap.size) a6 0 its ∧ (∀ a, a6 = some a → its ≠ [] → a.block < w6.heap.size) ∧ (∀ a, a5 = some a → ns ≠ [] → a.block < w6.heap.size) ∧ VAt w6 a5 (ns.map strV)) := by
          have h1 := ItAt.of HI6.out its.length 0 (by omega)
          rw [List.drop_zero] at h1
          refine ⟨ItAt.mono (fun q hq => HM6.out.sb q hq) _ _ _ h1, fun a e _ => (HI6.out.lt _ (by rw [e]; rfl)).2, fun a e _ => (HN6.out.1.lt _ (by rw [e]; rfl)).2, ?_⟩
          have h2 := HN6.out.1
          rw [show nl = (ns.map strV).length by rw [List.length_map, HR.out.2.2.1]] at h2
          exact h2.v
        have HL := list_calls its il c6 a6 w6 _ HR.out.2.2.2.1 hbi HR.out.2.1 HS6.out.1 HS6.out.2.1 (fun q hq => hq)
        go_wp2_with fail
        refine HL.mono ?_
        clear HL
        rintro e w7 ⟨hb7, cs7, T7, rfl, hj7, hT7⟩
        have HS7 : Hid (ItAt w7 (fun q => q < w7.heap.size) a6 0 its ∧ (∀ a, a6 = some a → its ≠ [] → a.block < w7.heap.size) ∧ (∀ a, a5 = some a → ns ≠ [] → a.block < w7.heap.size) ∧ VAt w7 a5 (ns.map strV)) :=
          ⟨ItAt.mono (fun q hq => Nat.lt_of_lt_of_le hq hb7.size) _ _ _ (ItAt.frm (Frm.ofBelow hb7 noB) (fun _ _ h => h) its a6 0 HS6.out.2.1 HS6.out.1), fun a e h => Nat.lt_of_lt_of_le (HS6.out.2.1 a e h) hb7.size, fun a e h => Nat.lt_of_lt_of_le (HS6.out.2.2.1 a e h) hb7.size, VAt.frmN (S := fun q => q < w6.heap.size) HS6.out.2.2.2 (Frm.ofBelow hb7 noB) (fun _ _ h => h) HS6.out.2.2.1⟩
        have HO := object_calls ns its nl c5 il c6 a5 a6 w7 _ HR.out.2.2.1 HR.out.2.2.2.1 hbn hbi HR.out.2.2.2.2.1 HR.out.2.1 HS7.out.2.2.2 HS7.out.2.2.1 HS7.out.1 HS7.out.2.1 (fun q hq => hq)
        clear HS6 HS7
        have HM7 : Hid (MkS w S ns its na ia w7) := HM6.out.more HSn.out HSi.out hb7
        have HP7 : Hid (JAt w7 T7 (.mk 5 0 [] [] its) cs7 ∧ (∀ q, T7 q → w6.heap.size ≤ q ∧ q < w7.heap.size) ∧ Below w6.heap.size w6 w7) := ⟨hj7, hT7, hb7⟩
        obtain ⟨xk, xn, xt, xa, xl, xc, ya, yl, yc, hcs⟩ := JAt.cs hj7
        subst hcs
        clear hb7 hj7 hT7 HM6
        go_wp2_with fail
        refine HO.mono ?_
        clear HO
        rintro e w8 ⟨hb8, cs8, T8, rfl, hj8, hT8⟩
        have HM8 : Hid (MkS w S ns its na ia w8) := HM7.out.more HSn.out HSi.out hb8
        have HP8 : Hid (JAt w8 T7 (.mk 5 0 [] [] its) #[.int .i64 xk, .int .i64 xn, .string xt, .slice xa xl xc, .slice ya yl yc] ∧ JAt w8 T8 (.mk 6 0 [] ns its) cs8 ∧ (∀ q, T7 q → w6.heap.size ≤ q ∧ q < w8.heap.size) ∧ (∀ q, T8 q → w6.heap.size ≤ q ∧ q < w8.heap.size) ∧ Below w6.heap.size w6 w8) :=
          ⟨HP7.out.1.below hb8, hj8, fun q hq => ⟨(HP7.out.2.1 q hq).1, Nat.lt_of_lt_of_le (HP7.out.2.1 q hq).2 hb8.size⟩, fun q hq => ⟨Nat.le_trans HP7.out.2.2.size (hT8 q hq).1, (hT8 q hq).2⟩, HP7.out.2.2.trans (hb8.mono HP7.out.2.2.size)⟩
        obtain ⟨zk, zn, zt, za, zl, zc, ua, ul, uc, hcs⟩ := JAt.cs hj8
        subst hcs
        clear hb8 hj8 hT8 HM7 HP7
        obtain ⟨w9, Hw9⟩ : ∃ w9, Hid (w9 = (w8.alloc (.cells #[.int .i64 xk, .int .i64 xn, .string xt, .slice xa xl xc, .slice ya yl yc] 26)).alloc (.cells #[.int .i64 zk, .int .i64 zn, .string zt, .slice za zl zc, .slice ua ul uc] 26)) := ⟨_, rfl⟩
        obtain ⟨g3, Hg3⟩ : ∃ g3, Hid (g3 = w8.heap.size) := ⟨_, rfl⟩
        obtain ⟨g4, Hg4⟩ : ∃ g4, Hid (g4 = w8.heap.size + 1) := ⟨_, rfl⟩
        have hb9 : Below w8.heap.size w8 w9 := by rw [Hw9.out]; exact (below_new _ _).trans ((below_new _ _).mono (by rw [World.size_alloc]; omega))
        have hlo : w.heap.size ≤ w5.heap.size ∧ w5.heap.size ≤ w6.heap.size ∧ w6.heap.size ≤ w8.heap.size ∧ w8.heap.size ≤ w9.heap.size := ⟨Nat.le_trans HN6.out.2.1 HN6.out.2.2, HL56.out, HP8.out.2.2.2.2.size, hb9.size⟩
        have HF9 : Hid (FnI w S ns its na ia g3 g4 T7 T8 #[.int .i64 xk, .int .i64 xn, .string xt, .slice xa xl xc, .slice ya yl yc] #[.int .i64 zk, .int .i64 zn, .string zt, .slice za zl zc, .slice ua ul uc] w9 ∧ (∀ q, T7 q → w6.heap.size ≤ q) ∧ (∀ q, T8 q → w6.heap.size ≤ q) ∧ w6.heap.size ≤ g3 ∧ w6.heap.size ≤ g4) := by
          refine ⟨⟨HM8.out.more HSn.out HSi.out hb9, ?_, ?_, HP8.out.1.below hb9, HP8.out.2.1.below hb9, fun q hq => Nat.lt_of_lt_of_le (HP8.out.2.2.1 q hq).2 hb9.size, fun q hq => Nat.lt_of_lt_of_le (HP8.out.2.2.2.1 q hq).2 hb9.size⟩, fun q hq => (HP8.out.2.2.1 q hq).1, fun q hq => (HP8.out.2.2.2.1 q hq).1, by rw [Hg3.out]; exact hlo.2.2.1, by rw [Hg4.out]; omega⟩
          · rw [Hw9.out, Hg3.out]
            exact (Blk.new _ _ _).alloc _
          · rw [Hw9.out, Hg4.out, show w8.heap.size + 1 = (w8.alloc (.cells #[.int .i64 xk, .int .i64 xn, .string xt, .slice xa xl xc, .slice ya yl yc] 26)).heap.size by rw [World.size_alloc]]
            exact Blk.new _ _ _
        have HI9 : Hid (MkI w w6 w9 S ns its na ia (.slice a5 nl c5) (.slice a6 il c6) nl il w9) := by
          refine ⟨HM8.out.more HSn.out HSi.out hb9, HZ.out.1, HZ.out.2, Frm.refl _ _, ?_, ?_, fun q hq => (HN6.out.1.lt q hq).2, fun q hq => (HI6.out.lt q hq).2, fun q r hq hr e => ?_⟩
          · have hx : Ow w9 wo.heap.size 9 (.slice a5 nl c5) (ns.map strV) := Ow.below (Ow.below HN6.out.1 HP8.out.2.2.2.2) hb9
            refine ⟨ns.map strV, ?_⟩
            · have hy : w9.ownsRow wo.heap.size 9 1 (.slice a5 nl c5) (ns.map strV).length (ns.map strV) := hx
              rw [List.length_map, HR.out.2.2.1] at hy
              exact ⟨hy.1, by
                rcases hy.2 with h | ⟨g, cap, cur, hv, hb, r⟩
                · exact .inl h
                · exact .inr ⟨g, cap, cur, hv, Nat.le_trans HN6.out.2.1 hb, r⟩⟩
          · have hx := (((HI6.out.belowB HP8.out.2.2.2.2).belowB hb9).weak hlo.1).row
            rw [HR.out.2.2.2.1] at hx
            exact ⟨_, hx⟩
          · have h1 := HN5b.out q hq
            have h2 := (HI6.out.lt r hr).1
            omega
        clear hb9 hlo HM8 HP8 HI6 HN6 HN5b HL56 HZ
        go_upto_region 18 with fail
        rw [← Hw9.out, ← Hg4.out, ← Hg3.out]
        clear Hw9 Hg3 Hg4
        go_wp2
        go_loopw [15, 87] (fun x i wr => ∃ k : Nat, k ≤ il ∧ i = .int .i64 (k : Int) ∧ Hid (MkI w w6 w9 S ns its na ia (.slice a5 nl c5) (.slice a6 il c6) nl il wr)) (fun _ i _ => il - (intOf i).toNat)
        case atStart => exact ⟨0, Nat.zero_le _, rfl, HI9⟩
        case round =>
          clear HI9
          obtain ⟨k, hk, rfl, HI⟩ := hrel
          by_cases hlt : k < il
          · obtain ⟨l2, h2⟩ := HI.out.rowI
            obtain ⟨g6, rfl⟩ := row_some h2 (by omega)
            have HI2 := fun vs => HI.out.putI HSn.out HSi.out (k * 5) vs
            have r0 : wr.frozen? ⟨g6, k * 5, none⟩ = false := World.ownsRow.frozenAt h2 _
            have r1 : wr.frozen? ⟨g6, k * 5 + 1, none⟩ = false := World.ownsRow.frozenAt h2 _
            have r2 : wr.frozen? ⟨g6, k * 5 + 2, none⟩ = false := World.ownsRow.frozenAt h2 _
            have r3 : wr.frozen? ⟨g6, k * 5 + 3, none⟩ = false := World.ownsRow.frozenAt h2 _
            have r4 : wr.frozen? ⟨g6, k * 5 + 4, none⟩ = false := World.ownsRow.frozenAt h2 _
            have hcl : ∀ j, j < 5 → ∃ u, wr.cell? ⟨g6, k * 5 + j, none⟩ = some u := by
              intro j hj5
              rw [World.ownsRow.cellAt h2 (k * 5 + j) (by omega)]
              have h1 := h2.1
              exact ⟨_, List.getElem?_eq_getElem (by omega)⟩
            obtain ⟨s0, p0⟩ := hcl 0 (by omega)
            obtain ⟨s1, p1⟩ := hcl 1 (by omega)
            obtain ⟨s2, p2⟩ := hcl 2 (by omega)
            obtain ⟨s3, p3⟩ := hcl 3 (by omega)
            obtain ⟨s4, p4⟩ := hcl 4 (by omega)
            rw [Nat.add_zero] at p0
            have HI3 : Hid (MkI w w6 w9 S ns its na ia (.slice a5 nl c5) (.slice (some ⟨g6, 0, none⟩) il c6) nl il (putC wr g6 (k * 5) [.int .i64 9, .int .i64 0, .string ⟨#[]⟩, .slice none 0 0, .slice none 0 0])) := HI2 _
            clear hcl HI2 h2 HI
            go_wp2
            go_roundw
            case rel => exact ⟨k + 1, by omega, by go_num, HI3⟩
            case measure => simp [intOf]; omega
          · obtain ⟨wp, hwp⟩ : ∃ wp, wp = wr := ⟨_, rfl⟩
            subst hwp
            go_wp2
            go_loopw [16, 97] (fun x i wr => ∃ k : Nat, k ≤ nl ∧ i = .int .i64 (k : Int) ∧ Hid (MkI w w6 w9 S ns its na ia (.slice a5 nl c5) (.slice a6 il c6) nl il wr)) (fun _ i _ => nl - (intOf i).toNat)
            case atStart => exact ⟨0, Nat.zero_le _, rfl, HI⟩
            case round =>
              clear HI hlt hk
              obtain ⟨k, hk, rfl, HI⟩ := hrel
              by_cases hlt : k < nl
              · obtain ⟨l2, h2⟩ := HI.out.rowN
                obtain ⟨g5, rfl⟩ := row_some h2 (by omega)
                have r0 : wr.frozen? ⟨g5, k, none⟩ = false := World.ownsRow.frozenAt h2 _
                obtain ⟨s0, p0⟩ : ∃ u, wr.cell? ⟨g5, k, none⟩ = some u := by
                  rw [World.ownsRow.cellAt h2 k (by omega)]
                  have h1 := h2.1
                  exact ⟨_, List.getElem?_eq_getElem (by omega)⟩
                have HI3 : Hid (MkI w w6 w9 S ns its na ia (.slice (some ⟨g5, 0, none⟩) nl c5) (.slice a6 il c6) nl il (putC wr g5 k [.string ⟨#[109, 97, 114, 107]⟩])) := HI.out.putN HSn.out HSi.out k _
                clear h2 HI
                go_wp2
                go_roundw
                case rel => exact ⟨k + 1, by omega, by go_num, HI3⟩
                case measure => simp [intOf]; omega
              · have HE : Hid (FnI w S ns its na ia g3 g4 T7 T8 #[.int .i64 xk, .int .i64 xn, .string xt, .slice xa xl xc, .slice ya yl yc] #[.int .i64 zk, .int .i64 zn, .string zt, .slice za zl zc, .slice ua ul uc] wr) := by
                  have h := HF9.out.1
                  have hf := HI.out.frm
                  exact ⟨HI.out.mks, (hf.block g3 h.b3.lt (fun hx => by have := HF9.out.2.2.2.1; omega)).trans h.b3, (hf.block g4 h.b4.lt (fun hx => by have := HF9.out.2.2.2.2; omega)).trans h.b4, JAt.frm hf (fun q hq hx => by have := HF9.out.2.1 q hq; omega) _ _ h.j3, JAt.frm hf (fun q hq hx => by have := HF9.out.2.2.1 q hq; omega) _ _ h.j4, fun q hq => Nat.lt_of_lt_of_le (h.t3 q hq) hf.size, fun q hq => Nat.lt_of_lt_of_le (h.t4 q hq) hf.size⟩
                clear HI HF9
                obtain ⟨x0, x1, x2, x3, x4, -⟩ := Blk.five HE.out.b3
                have HRR : Hid (Rng (.mk 5 0 [] [] its) ∧ Rng (.mk 6 0 [] ns its)) := ⟨rngs_rng (by omega) (by simp) (by rw [HR.out.2.2.2.1]; omega) (fun t h => by cases h) HR.out.1, rngs_rng (by omega) (by rw [HR.out.2.2.1]; omega) (by rw [HR.out.2.2.2.1]; omega) HR.out.2.2.2.2.1 HR.out.1⟩
                have HFT : Hid (Fit (.mk 5 0 [] [] its) ∧ Fit (.mk 6 0 [] ns its)) := by
                  have h := HR.out
                  refine ⟨?_, ?_⟩
                  · unfold Fit
                    exact ⟨by simp, by simp, by rw [h.2.2.2.1]; omega, fun t h => (by cases h), h.2.1⟩
                  · unfold Fit
                    exact ⟨by simp, by rw [h.2.2.1]; omega, by rw [h.2.2.2.1]; omega, h.2.2.2.2.1, h.2.1⟩
                have HS5 : Calls Tryd.prog 12 #[.agg #[.int .i64 xk, .int .i64 xn, .string xt, .slice xa xl xc, .slice ya yl yc], .agg #[.int .i64 5, .int .i64 0, .string ⟨#[]⟩, .slice none 0 0, .slice ia il ic]] wr (fun e w' => e = .returned (.bool true) ∧ Below wr.heap.size wr w') := by
                  have h := specM (.mk 5 0 [] [] its) wr T7 S _ _ HRR.out.1 HE.out.j3 (JAt.of (k := 5) (n := 0) (t := []) (ns := []) (na := none) (nc := 0) (ic := ic) (fun i hi => absurd hi (Nat.not_lt_zero _)) HE.out.mks.it (fun a e => by cases e) HSi.out)
                  rw [HR.out.2.2.2.1] at h
                  exact h
                go_wp2_with fail
                refine HS5.mono ?_
                clear HS5
                rintro e wa ⟨rfl, hba⟩
                have HEa : Hid (FnI w S ns its na ia g3 g4 T7 T8 #[.int .i64 xk, .int .i64 xn, .string xt, .slice xa xl xc, .slice ya yl yc] #[.int .i64 zk, .int .i64 zn, .string zt, .slice za zl zc, .slice ua ul uc] wa) := HE.out.more HSn.out HSi.out hba
                clear hba HE x0 x1 x2 x3 x4
                obtain ⟨x0, x1, x2, x3, x4, -⟩ := Blk.five HEa.out.b4
                have HS6 : Calls Tryd.prog 12 #[.agg #[.int .i64 zk, .int .i64 zn, .string zt, .slice za zl zc, .slice ua ul uc], .agg #[.int .i64 6, .int .i64 0, .string ⟨#[]⟩, .slice na nl nc, .slice ia il ic]] wa (fun e w' => e = .returned (.bool true) ∧ Below wa.heap.size wa w') := by
                  have h := specM (.mk 6 0 [] ns its) wa T8 S _ _ HRR.out.2 HEa.out.j4 (JAt.of (k := 6) (n := 0) (t := []) (nc := nc) (ic := ic) HEa.out.mks.nm HEa.out.mks.it HSn.out HSi.out)
                  rw [HR.out.2.2.2.1, HR.out.2.2.1] at h
                  exact h
                go_wp2_with fail
                refine HS6.mono ?_
                clear HS6
                rintro e wb ⟨rfl, hbb⟩
                have HEb : Hid (FnI w S ns its na ia g3 g4 T7 T8 #[.int .i64 xk, .int .i64 xn, .string xt, .slice xa xl xc, .slice ya yl yc] #[.int .i64 zk, .int .i64 zn, .string zt, .slice za zl zc, .slice ua ul uc] wb) := HEa.out.more HSn.out HSi.out hbb
                clear hbb HEa x0 x1 x2 x3 x4
                obtain ⟨x0, x1, x2, x3, x4, -⟩ := Blk.five HEb.out.b4
                have HF := refField_calls (.mk 6 0 [] ns its) nm wb T8 _ HFT.out.2 HEb.out.j4 HEb.out.t4
                obtain ⟨r6, Hr6⟩ : ∃ r, Hid (r = fieldJ (.mk 6 0 [] ns its) nm) := ⟨fieldJ (.mk 6 0 [] ns its) nm, (Eq.refl _ : fieldJ (.mk 6 0 [] ns its) nm = _)⟩
                obtain ⟨rb, Hrb⟩ : ∃ rb, Hid (rb = r6.isSome) := ⟨_, rfl⟩
                rw [← Hsb.out, ← Hr6.out] at HF
                have HRr : Hid (Rng (r6.getD jsN)) := by rw [Hid, Hr6.out]; exact fieldJ_rng HR.out.1 nm
                go_wp2_with fail
                refine HF.mono ?_
                clear HF
                rintro e wc ⟨hbc, csr, Tr, rfl, hjr⟩
                rw [← Hrb.out]
                obtain ⟨rk, rn, rt, ra, rl, rc, sa, sl, sc, hcs⟩ := JAt.cs hjr
                subst hcs
                obtain ⟨wd, Hwd⟩ : ∃ wd, Hid (wd = wc.alloc (.cells #[.int .i64 rk, .int .i64 rn, .string rt, .slice ra rl rc, .slice sa sl sc] 26)) := ⟨_, rfl⟩
                obtain ⟨gd, Hgd⟩ : ∃ gd, Hid (gd = wc.heap.size) := ⟨_, rfl⟩
                have hbd : Below wc.heap.size wc wd := by rw [Hwd.out]; exact below_new _ _
                have HEd : Hid (FnI w S ns its na ia g3 g4 T7 T8 #[.int .i64 xk, .int .i64 xn, .string xt, .slice xa xl xc, .slice ya yl yc] #[.int .i64 zk, .int .i64 zn, .string zt, .slice za zl zc, .slice ua ul uc] wd) := HEb.out.more HSn.out HSi.out (hbc.trans (hbd.mono hbc.size))
                have HXd : Hid (Blk wd gd #[.int .i64 rk, .int .i64 rn, .string rt, .slice ra rl rc, .slice sa sl sc] 26 ∧ JAt wd Tr (r6.getD jsN) #[.int .i64 rk, .int .i64 rn, .string rt, .slice ra rl rc, .slice sa sl sc]) := ⟨by rw [Hwd.out, Hgd.out]; exact Blk.new _ _ _, hjr.below hbd⟩
                clear hbc hbd hjr HEb x0 x1 x2 x3 x4
                go_upto_region 31 with fail
                rw [← Hwd.out, ← Hgd.out]
                clear Hwd Hgd
                obtain ⟨x0, x1, x2, x3, x4, -⟩ := Blk.five HEd.out.b4
                have HF := field_calls (.mk 6 0 [] ns its) nm wd T8 _ HFT.out.2 HEd.out.j4 HEd.out.t4
                rw [← Hsb.out, ← Hr6.out] at HF
                go_wp2_with fail
                refine HF.mono ?_
                clear HF
                rintro e we ⟨hbe, csx, Tx, rfl, hjx⟩
                rw [← Hrb.out]
                obtain ⟨pk, pn, pt, pa, pl, pc, qa, ql, qc, hcs⟩ := JAt.cs hjx
                subst hcs
                obtain ⟨wf, Hwf⟩ : ∃ wf, Hid (wf = we.alloc (.cells #[.int .i64 pk, .int .i64 pn, .string pt, .slice pa pl pc, .slice qa ql qc] 26)) := ⟨_, rfl⟩
                obtain ⟨gf, Hgf⟩ : ∃ gf, Hid (gf = we.heap.size) := ⟨_, rfl⟩
                have hbf : Below we.heap.size we wf := by rw [Hwf.out]; exact below_new _ _
                have HEf : Hid (FnI w S ns its na ia g3 g4 T7 T8 #[.int .i64 xk, .int .i64 xn, .string xt, .slice xa xl xc, .slice ya yl yc] #[.int .i64 zk, .int .i64 zn, .string zt, .slice za zl zc, .slice ua ul uc] wf) := HEd.out.more HSn.out HSi.out (hbe.trans (hbf.mono hbe.size))
                have HXf : Hid (Blk wf gd #[.int .i64 rk, .int .i64 rn, .string rt, .slice ra rl rc, .slice sa sl sc] 26 ∧ JAt wf Tr (r6.getD jsN) #[.int .i64 rk, .int .i64 rn, .string rt, .slice ra rl rc, .slice sa sl sc] ∧ Blk wf gf #[.int .i64 pk, .int .i64 pn, .string pt, .slice pa pl pc, .slice qa ql qc] 26 ∧ JAt wf Tx (r6.getD jsN) #[.int .i64 pk, .int .i64 pn, .string pt, .slice pa pl pc, .slice qa ql qc]) :=
                  ⟨(HXd.out.1.below hbe).below hbf, (HXd.out.2.below hbe).below hbf, by rw [Hwf.out, Hgf.out]; exact Blk.new _ _ _, hjx.below hbf⟩
                clear hbe hbf hjx HEd HXd x0 x1 x2 x3 x4
                go_upto_region 32 with fail
                rw [← Hwf.out, ← Hgf.out]
                clear Hwf Hgf
                obtain ⟨x0, x1, x2, x3, x4, -⟩ := Blk.five HEf.out.b3
                have HF := field_calls (.mk 5 0 [] [] its) nm wf T7 _ HFT.out.1 HEf.out.j3 HEf.out.t3
                rw [← Hsb.out, fieldJ_no (.inl (by omega))] at HF
                go_wp2_with fail
                refine HF.mono ?_
                clear HF
                rintro e wg ⟨hbg, csy, Ty, rfl, hjy⟩
                obtain ⟨ik, iN, it, ia', il', ic', ja, jl, jc, hcs⟩ := JAt.cs hjy
                subst hcs
                obtain ⟨wh, Hwh⟩ : ∃ wh, Hid (wh = wg.alloc (.cells #[.int .i64 ik, .int .i64 iN, .string it, .slice ia' il' ic', .slice ja jl jc] 26)) := ⟨_, rfl⟩
                have hbh : Below wg.heap.size wg wh := by rw [Hwh.out]; exact below_new _ _
                have HEh : Hid (FnI w S ns its na ia g3 g4 T7 T8 #[.int .i64 xk, .int .i64 xn, .string xt, .slice xa xl xc, .slice ya yl yc] #[.int .i64 zk, .int .i64 zn, .string zt, .slice za zl zc, .slice ua ul uc] wh) := HEf.out.more HSn.out HSi.out (hbg.trans (hbh.mono hbg.size))
                have HXh : Hid (Blk wh gd #[.int .i64 rk, .int .i64 rn, .string rt, .slice ra rl rc, .slice sa sl sc] 26 ∧ Blk wh gf #[.int .i64 pk, .int .i64 pn, .string pt, .slice pa pl pc, .slice qa ql qc] 26) :=
                  ⟨(HXf.out.1.below hbg).below hbh, (HXf.out.2.2.1.below hbg).below hbh⟩
                have HSf := specM (r6.getD jsN) wh Tx Tr _ _ HRr.out ((HXf.out.2.2.2.below hbg).below hbh) ((HXf.out.2.1.below hbg).below hbh)
                clear hbg hbh hjy HEf HXf x0 x1 x2 x3 x4
                go_upto_region 33 with fail
                rw [← Hwh.out]
                clear Hwh
                obtain ⟨x0, x1, x2, x3, x4, -⟩ := Blk.five HXh.out.1
                obtain ⟨y0, y1, y2, y3, y4, -⟩ := Blk.five HXh.out.2
                have HFB : Hid (Below w.heap.size w wh) := HEh.out.mks.below
                clear HXh HEh HRr Hrb Hr6 HRR HFT HR
                cases rb with
                | true =>
                  go_wp2_with fail
                  refine HSf.mono ?_
                  clear HSf
                  rintro e wi ⟨rfl, hbi⟩
                  have HFC : Hid (Below w.heap.size w wi) := HFB.out.trans (hbi.mono HFB.out.size)
                  clear hbi HFB
                  go_wp2
                  go_ret
                  exact ⟨rfl, HFC.out⟩
                | false =>
                  go_wp2_with fail
                  refine HSf.mono ?_
                  clear HSf
                  rintro e wi ⟨rfl, hbi⟩
                  have HFC : Hid (Below w.heap.size w wi) := HFB.out.trans (hbi.mono HFB.out.size)
                  clear hbi HFB
                  go_wp2
                  go_ret
                  exact ⟨rfl, HFC.out⟩
end Go.Proofs.YtelhgjepjieocaaDoor
