/- Layer 18 (json): the makers. -/
import Derived.Test.YtelhgjepjieocaaDoorJxCv
namespace Go.Proofs.YtelhgjepjieocaaDoor
open Go.RowKit Go.MapKept Go.Sort
set_option linter.unusedVariables false

/-- A value in memory of the call's own. -/
def MkR (w : World) (v : Js) (e : Ending) (w' : World) : Prop := Below w.heap.size w w' ∧ ∃ cs T, e = .returned (.agg cs) ∧ JAt w' T v cs ∧ ∀ k, T k → w.heap.size ≤ k ∧ k < w'.heap.size
theorem mk_plain {w : World} {k n : Int} {t : List UInt8} {e : Ending} {w' : World} (h : e = .returned (.agg (jC k n (nmB t) (.slice none 0 0) (.slice none 0 0))) ∧ Below w.heap.size w w') : MkR w (.mk k n t [] []) e w' :=
  ⟨h.2, _, _, h.1, JAt.plain w' k n t, fun q h => h.elim⟩
set_option maxRecDepth 100000 in
set_option maxHeartbeats 4000000 in
theorem textJ_calls (t : List UInt8) (w : World) (ht : t.length ≤ 140737488355328) : Calls Tryd.prog 21 #[.string (nmB t)] w (MkR w (.mk 4 0 t [] [])) := by
  obtain ⟨tb, Htb⟩ : ∃ tb, Hid (tb = nmB t) := ⟨_, rfl⟩
  have htz : tb.size ≤ 281474976710656 := by
    rw [Htb.out]
    show t.toArray.size ≤ _
    simp; omega
  rw [← Htb.out]
  obtain ⟨w1, Hw1⟩ : ∃ w1, Hid (w1 = w.alloc (.cells #[.int .i64 0, .int .i64 0, .string ⟨#[]⟩, .slice none 0 0, .slice none 0 0] 26)) := ⟨_, rfl⟩
  obtain ⟨gr, Hgr⟩ : ∃ gr, Hid (gr = w.heap.size) := ⟨_, rfl⟩
  have HB1 : Hid (Below w.heap.size w w1 ∧ Blk w1 gr jZ 26 ∧ w.heap.size ≤ gr) := ⟨by rw [Hw1.out]; exact below_new _ _, by rw [Hw1.out, Hgr.out]; exact Blk.new _ _ _, by rw [Hgr.out]; exact Nat.le_refl _⟩
  have HC := cloneS_calls tb w1 htz
  go_enter Tryd.func21, Tryd.ntmps21
  go_upto_region 1 with fail
  rw [← Hw1.out, ← Hgr.out]
  clear Hw1 Hgr
  go_wp2_with fail
  refine HC.mono ?_
  clear HC
  rintro e w2 ⟨rfl, hb2⟩
  have HB2 : Hid (Below w.heap.size w w2 ∧ Blk w2 gr jZ 26) := ⟨HB1.out.1.trans (hb2.mono HB1.out.1.size), HB1.out.2.1.below hb2⟩
  clear hb2
  obtain ⟨y0, y1, y2, y3, y4, z0, z1, z2, z3, z4⟩ := Blk.five HB2.out.2
  go_wp2
  change bodyPost _ _ _ _ _ (putC w2 gr 0 [.int .i64 4, .int .i64 0, .string tb, .slice none 0 0, .slice none 0 0])
  refine ret_cell rfl rfl rfl (load_js (putC_all HB2.out.2 rfl) rfl) ?_
  rw [Htb.out]
  exact mk_plain ⟨rfl, putC_below _ _ _ HB2.out.1 HB1.out.2.2⟩
set_option maxRecDepth 100000 in
set_option maxHeartbeats 4000000 in
theorem list_calls (its : List Js) (il ic : Nat) (ia : Option Addr) (w : World) (S : Nat → Prop) (hil : its.length = il) (hb : il ≤ 1759218604416) (hf : Fits its) (hi : ItAt w S ia 0 its) (hs : ∀ a, ia = some a → its ≠ [] → S a.block) (hSB : ∀ k, S k → k < w.heap.size) :
    Calls Tryd.prog 22 #[.slice ia il ic] w (MkR w (.mk 5 0 [] [] its)) := by
  obtain ⟨w1, Hw1⟩ : ∃ w1, Hid (w1 = w.alloc (.cells #[.int .i64 0, .int .i64 0, .string ⟨#[]⟩, .slice none 0 0, .slice none 0 0] 26)) := ⟨_, rfl⟩
  obtain ⟨gr, Hgr⟩ : ∃ gr, Hid (gr = w.heap.size) := ⟨_, rfl⟩
  have HB1 : Hid (Below w.heap.size w w1 ∧ Blk w1 gr jZ 26 ∧ w.heap.size ≤ gr) := ⟨by rw [Hw1.out]; exact below_new _ _, by rw [Hw1.out, Hgr.out]; exact Blk.new _ _ _, by rw [Hgr.out]; exact Nat.le_refl _⟩
  have HC := copyItems_calls its (specCs its) il ic ia w1 S hil hb hf (ItAt.frm (Frm.ofBelow HB1.out.1 noB) (fun _ _ h => h) its ia 0 hs hi) (fun q hq => Nat.lt_of_lt_of_le (hSB q hq) HB1.out.1.size)
  have HL : Hid (its.length = il) := hil
  clear hf hi hs hSB hil
  go_enter Tryd.func22, Tryd.ntmps22
  go_upto_region 1 with fail
  rw [← Hw1.out, ← Hgr.out]
  clear Hw1 Hgr
  go_wp2_with fail
  refine HC.mono ?_
  clear HC
  rintro e w2 ⟨iv, css, T, rfl, ho2, hb2, hT2⟩
  obtain ⟨a2, c2, rfl⟩ := ho2.shape
  rw [HL.out] at ho2 ⊢
  have HB2 : Hid (Below w.heap.size w w2 ∧ Blk w2 gr jZ 26 ∧ gr < w1.heap.size) := ⟨HB1.out.1.trans (hb2.mono HB1.out.1.size), HB1.out.2.1.below hb2, HB1.out.2.1.lt⟩
  obtain ⟨U, HU⟩ : ∃ U : Nat → Prop, Hid (JAt w2 U (.mk 5 0 [] [] its) (jC 5 0 ⟨#[]⟩ (.slice none 0 0) (.slice a2 il c2)) ∧ ∀ q, U q → w1.heap.size ≤ q ∧ q < w2.heap.size) := by
    obtain ⟨U, h1, h2, -⟩ := JAt.build (k := 5) (n := 0) (t := []) (ns := []) (nv := .slice none 0 0) (Ow.nil w2 w1.heap.size 9) ho2 hT2
    exact ⟨U, h1, h2⟩
  clear hb2 ho2 hT2
  obtain ⟨y0, y1, y2, y3, y4, z0, z1, z2, z3, z4⟩ := Blk.five HB2.out.2.1
  go_wp2
  change bodyPost _ _ _ _ _ (putC w2 gr 0 [.int .i64 5, .int .i64 0, .string ⟨#[]⟩, .slice none 0 0, .slice a2 il c2])
  refine ret_cell rfl rfl rfl (load_js (putC_all HB2.out.2.1 rfl) rfl) ?_
  refine ⟨putC_below _ _ _ HB2.out.1 HB1.out.2.2, _, U, rfl, JAt.frm (frm_put w2 gr _) (fun q hq e => by have := (HU.out.2 q hq).1; have := HB2.out.2.2; omega) _ _ HU.out.1, fun q hq => ?_⟩
  rw [putC_size]
  have := HU.out.2 q hq
  have := HB1.out.1.size
  omega
set_option maxRecDepth 100000 in
set_option maxHeartbeats 4000000 in
theorem object_calls (ns : List (List UInt8)) (its : List Js) (nl nc il ic : Nat) (na ia : Option Addr) (w : World) (S : Nat → Prop) (hnl : ns.length = nl) (hil : its.length = il) (hbn : nl ≤ 8796093021952) (hb : il ≤ 1759218604416) (hnz : ∀ t ∈ ns, t.length ≤ 140737488355328) (hf : Fits its) (hv : VAt w na (ns.map strV)) (hnS : ∀ a, na = some a → ns ≠ [] → S a.block) (hi : ItAt w S ia 0 its) (hs : ∀ a, ia = some a → its ≠ [] → S a.block) (hSB : ∀ k, S k → k < w.heap.size) :
    Calls Tryd.prog 23 #[.slice na nl nc, .slice ia il ic] w (MkR w (.mk 6 0 [] ns its)) := by
  obtain ⟨w1, Hw1⟩ : ∃ w1, Hid (w1 = w.alloc (.cells #[.int .i64 0, .int .i64 0, .string ⟨#[]⟩, .slice none 0 0, .slice none 0 0] 26)) := ⟨_, rfl⟩
  obtain ⟨gr, Hgr⟩ : ∃ gr, Hid (gr = w.heap.size) := ⟨_, rfl⟩
  have HB1 : Hid (Below w.heap.size w w1 ∧ Blk w1 gr jZ 26 ∧ w.heap.size ≤ gr) := ⟨by rw [Hw1.out]; exact below_new _ _, by rw [Hw1.out, Hgr.out]; exact Blk.new _ _ _, by rw [Hgr.out]; exact Nat.le_refl _⟩
  have HN := copyNames_calls na nl nc ns w1 hnl hbn hnz (VAt.frmN hv (Frm.ofBelow HB1.out.1 noB) (fun _ _ h => h) hnS)
  have HL : Hid (its.length = il ∧ ns.length = nl) := ⟨hil, hnl⟩
  have HI : Hid (Fits its ∧ ItAt w S ia 0 its ∧ (∀ a, ia = some a → its ≠ [] → S a.block) ∧ ∀ k, S k → k < w.heap.size) := ⟨hf, hi, hs, hSB⟩
  clear hf hi hs hSB hil hnl hnz hv hnS
  go_enter Tryd.func23, Tryd.ntmps23
  go_upto_region 1 with fail
  rw [← Hw1.out, ← Hgr.out]
  clear Hw1 Hgr
  go_wp2_with fail
  refine HN.mono ?_
  clear HN
  rintro e w2 ⟨nv, rfl, hn2, hb2⟩
  obtain ⟨n2, e2, rfl, -⟩ := hn2.shape
  rw [List.length_map, HL.out.2] at hn2 ⊢
  have HB2 : Hid (Below w.heap.size w w2 ∧ Blk w2 gr jZ 26 ∧ gr < w1.heap.size ∧ Ow w2 w1.heap.size 9 (.slice n2 nl e2) (ns.map strV)) := ⟨HB1.out.1.trans (hb2.mono HB1.out.1.size), HB1.out.2.1.below hb2, HB1.out.2.1.lt, hn2⟩
  have hsz12 := hb2.size
  have HC := copyItems_calls its (specCs its) il ic ia w2 S HL.out.1 hb HI.out.1 (ItAt.frm (Frm.ofBelow HB2.out.1 noB) (fun _ _ h => h) its ia 0 HI.out.2.2.1 HI.out.2.1) (fun q hq => Nat.lt_of_lt_of_le (HI.out.2.2.2 q hq) HB2.out.1.size)
  clear hb2 hn2
  go_wp2_with fail
  refine HC.mono ?_
  clear HC
  rintro e w3 ⟨iv, css, T, rfl, ho3, hb3, hT3⟩
  obtain ⟨a3, c3, rfl⟩ := ho3.shape
  rw [HL.out.1] at ho3 ⊢
  have HB3 : Hid (Below w.heap.size w w3 ∧ Blk w3 gr jZ 26) := ⟨HB2.out.1.trans (hb3.mono HB2.out.1.size), HB2.out.2.1.below hb3⟩
  obtain ⟨U, HU⟩ : ∃ U : Nat → Prop, Hid (JAt w3 U (.mk 6 0 [] ns its) (jC 6 0 ⟨#[]⟩ (.slice n2 nl e2) (.slice a3 il c3)) ∧ ∀ q, U q → w1.heap.size ≤ q ∧ q < w3.heap.size) := by
    obtain ⟨U, h1, h2, -⟩ := JAt.build (k := 6) (n := 0) (t := []) (HB2.out.2.2.2.below hb3) (ho3.weak hsz12) (fun q hq => by have := hT3 q hq; omega)
    exact ⟨U, h1, h2⟩
  clear hb3 ho3 hT3
  obtain ⟨y0, y1, y2, y3, y4, z0, z1, z2, z3, z4⟩ := Blk.five HB3.out.2
  go_wp2
  change bodyPost _ _ _ _ _ (putC w3 gr 0 [.int .i64 6, .int .i64 0, .string ⟨#[]⟩, .slice n2 nl e2, .slice a3 il c3])
  refine ret_cell rfl rfl rfl (load_js (putC_all HB3.out.2 rfl) rfl) ?_
  refine ⟨putC_below _ _ _ HB3.out.1 HB1.out.2.2, _, U, rfl, JAt.frm (frm_put w3 gr _) (fun q hq e => by have := (HU.out.2 q hq).1; have := HB2.out.2.2.1; omega) _ _ HU.out.1, fun q hq => ?_⟩
  rw [putC_size]
  have := HU.out.2 q hq
  have := HB1.out.1.size
  omega
end Go.Proofs.YtelhgjepjieocaaDoor
