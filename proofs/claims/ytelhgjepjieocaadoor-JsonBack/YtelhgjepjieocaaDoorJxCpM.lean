import Derived.Test.YtelhgjepjieocaaDoorScBase
import Derived.Deep.Slices
import Derived.OpenShut
import Derived.SizedLaws
import Derived.ProofKit
import Derived.Test.YtelhgjepjieocaaDoorJxVal
import Derived.Test.YtelhgjepjieocaaDoorJxSame
import Derived.Test.YtelhgjepjieocaaDoorShelf
/- An argument of type []int, opened. -/
namespace Go.Proofs.YtelhgjepjieocaaDoor
open Go.RowKit Go.Deep Go.ChangeShapes Go.WideShapes
set_option linter.unusedVariables false

def intData {H : Type} (t : Int) : DataW H := .lit (.int .i64 t)
theorem cells_intS : Tryd.prog.cellsOf 3 = 1 := by kernel_rfl
theorem bytes_intS : Tryd.prog.bytesOf 3 = 8 := by kernel_rfl
theorem i64_bnd {n : Int} (h : (Lit.int .i64 n).wf = true) : -9223372036854775808 ≤ n ∧ n ≤ 9223372036854775807 := by
  exact bounds_i64 h

end Go.Proofs.YtelhgjepjieocaaDoor

/- Layer 18 (json): values whose texts are small. -/
namespace Go.Proofs.YtelhgjepjieocaaDoor
open Go.RowKit Go.Sort
set_option linter.unusedVariables false

mutual
/-- Texts and names are small. -/
def Sml : Js → Prop
  | .mk k n t ns its => t.length ≤ 1048576 ∧ (∀ s ∈ ns, s.length ≤ 1048576) ∧ Smls its
def Smls : List Js → Prop
  | [] => True
  | x :: xs => Sml x ∧ Smls xs
end
theorem Smls.mem : ∀ {its : List Js}, Smls its → ∀ x ∈ its, Sml x
  | [], _, x, hx => by cases hx
  | y :: ys, h, x, hx => by
    unfold Smls at h
    rcases List.mem_cons.1 hx with rfl | hx
    · exact h.1
    · exact Smls.mem h.2 x hx
theorem Smls.of : ∀ {its : List Js}, (∀ x ∈ its, Sml x) → Smls its
  | [], _ => by unfold Smls; trivial
  | y :: ys, h => by
    unfold Smls
    exact ⟨h y (List.mem_cons_self ..), Smls.of fun x hx => h x (List.mem_cons_of_mem _ hx)⟩
end Go.Proofs.YtelhgjepjieocaaDoor

/- Layer 18 (json): strings.Clone, copyNames. -/
namespace Go.Proofs.YtelhgjepjieocaaDoor
open Go.RowKit Go.MapKept Go.Sort
set_option linter.unusedVariables false

theorem cloneS_calls (s : ByteArray) (w : World) (hs : s.size ≤ 281474976710656) : Calls Tryd.prog 35 #[.string s] w fun e w' => e = .returned (.string s) ∧ Below w.heap.size w w' := by
  have HC := Tryd.stringslite_Clone s w hs
  go_enter Tryd.func35, Tryd.ntmps35
  go_wp2_with fail
  refine HC.mono ?_
  rintro e w1 ⟨rfl, hb⟩
  have HB : Hid (Below w.heap.size w w1) := hb
  clear hb HC
  go_wp2
  go_ret
  exact ⟨rfl, HB.out⟩
theorem getD_map (ns : List (List UInt8)) (j : Nat) (hj : j < ns.length) : (ns.map nmB).getD j ByteArray.empty = nmB ns[j] := by
  simp [List.getD, hj]
theorem cloneNames_calls (na : Option Addr) (nl nc : Nat) (ns : List (List UInt8)) (w : World) (hnl : ns.length = nl) (hb : nl ≤ 8796093021952) (hv : VAt w na (ns.map strV)) :
    Calls Tryd.prog 54 #[.slice na nl nc] w fun e w' => ∃ v', e = .returned v' ∧ Ow w' w.heap.size 9 v' (ns.map strV) ∧ Below w.heap.size w w' := by
  cases na with
  | none =>
    have h0 : ns = [] := by
      cases ns with
      | nil => rfl
      | cons t ns =>
        obtain ⟨b, off, e, _⟩ := hv 0 (by simp)
        cases e
    subst h0
    refine (Tryd.slices_Clone_string_nil nl nc w).mono ?_
    rintro e w' ⟨rfl, rfl⟩
    exact ⟨_, rfl, Ow.nil _ _ _, Below.refl _ _⟩
  | some a =>
    by_cases h0 : ns = []
    · subst h0
      have hz : nl = 0 := hnl.symm
      subst hz
      refine (Tryd.slices_Clone_string_zero a nc w).mono ?_
      rintro e w' ⟨v', rfl, ho, _, hbb⟩
      exact ⟨_, rfl, ho, hbb⟩
    · obtain ⟨b, off, e, _⟩ := hv 0 (by rw [List.length_map]; exact List.length_pos_iff.2 h0)
      obtain rfl := Option.some.inj e
      refine (Tryd.slices_Clone_string b off nl nc (ns.map nmB) w (by rw [List.length_map]; omega) (by omega) ?_).mono ?_
      · intro j hj
        rw [List.length_map] at hj
        obtain ⟨b2, off2, e2, hc⟩ := VAt.str hv hj
        simp only [Option.some.injEq, Addr.mk.injEq, and_true] at e2
        obtain ⟨rfl, rfl⟩ := e2
        rw [getD_map ns j hj]
        exact hc
      · rintro e w' ⟨v', rfl, ho, _, hbb⟩
        refine ⟨_, rfl, ?_, hbb⟩
        have hm : ((ns.map nmB).take nl).map Value.string = ns.map strV := by
          rw [List.take_of_length_le (by rw [List.length_map]; omega), List.map_map]; rfl
        rw [hm] at ho
        unfold Ow
        rw [List.length_map, hnl]
        exact ho
set_option maxRecDepth 100000 in
set_option maxHeartbeats 4000000 in
theorem copyNames_calls (na : Option Addr) (nl nc : Nat) (ns : List (List UInt8)) (w : World) (hnl : ns.length = nl) (hb : nl ≤ 8796093021952) (hsz : ∀ t ∈ ns, t.length ≤ 140737488355328) (hv : VAt w na (ns.map strV)) :
    Calls Tryd.prog 37 #[.slice na nl nc] w fun e w' => ∃ v', e = .returned v' ∧ Ow w' w.heap.size 9 v' (ns.map strV) ∧ Below w.heap.size w w' := by
  have HC := cloneNames_calls na nl nc ns w hnl hb hv
  have HNS : Hid (ns.length = nl ∧ ∀ t ∈ ns, t.length ≤ 140737488355328) := ⟨hnl, hsz⟩
  clear hv hsz hnl
  go_enter Tryd.func37, Tryd.ntmps37
  go_wp2_with fail
  refine HC.mono ?_
  clear HC
  rintro e w1 ⟨v1, rfl, ho1, hb1⟩
  obtain ⟨a1, c1, rfl, -, -, -⟩ := ho1.shape
  rw [List.length_map, HNS.out.1] at ho1 ⊢
  have HO : Hid (Ow w1 w.heap.size 9 (.slice a1 nl c1) (ns.map strV) ∧ Below w.heap.size w w1) := ⟨ho1, hb1⟩
  clear ho1 hb1
  go_wp2
  go_loopw [4, 5, 10] (fun x y i wr => ∃ k : Nat, k ≤ nl ∧ i = .int .i64 (k : Int) ∧ Hid (Ow wr w.heap.size 9 (.slice a1 nl c1) (ns.map strV) ∧ Below w.heap.size w wr)) (fun _ _ i _ => nl - (intOf i).toNat)
  case atStart => exact ⟨0, Nat.zero_le _, rfl, HO.out⟩
  case round =>
    clear HO
    obtain ⟨k, hk, rfl, HO⟩ := hrel
    by_cases hlt : k < nl
    · have hkn : k < ns.length := by rw [HNS.out.1]; exact hlt
      obtain ⟨g, rfl, hc, hf⟩ := HO.out.1.at k (by rw [List.length_map]; exact hkn)
      rw [List.getElem_map] at hc
      obtain ⟨s, Hs⟩ : ∃ s : ByteArray, Hid (s = nmB ns[k] ∧ s.size ≤ 281474976710656) := ⟨_, rfl, by
        have := HNS.out.2 _ (List.getElem_mem hkn)
        show ns[k].toArray.size ≤ _
        simp; omega⟩
      unfold strV at hc
      rw [← Hs.out.1] at hc
      have HCL := cloneS_calls s wr Hs.out.2
      go_wp2_with fail
      refine HCL.mono ?_
      clear HCL
      rintro e w2 ⟨rfl, hb2⟩
      have HO2 : Hid (Ow w2 w.heap.size 9 (.slice (some ⟨g, 0, none⟩) nl c1) (ns.map strV) ∧ Below w.heap.size w w2) := ⟨HO.out.1.below hb2, HO.out.2.trans (hb2.mono HO.out.2.size)⟩
      obtain ⟨g2, e2, hc2, hf2⟩ := HO2.out.1.at k (by rw [List.length_map]; exact hkn)
      simp only [Option.some.injEq, Addr.mk.injEq, and_true] at e2
      obtain rfl := e2
      have HN : Hid (Ow (w2.setCell ⟨g, k, none⟩ (.string s)) w.heap.size 9 (.slice (some ⟨g, 0, none⟩) nl c1) (ns.map strV) ∧ Below w.heap.size w (w2.setCell ⟨g, k, none⟩ (.string s))) := by
        have h1 := HO2.out.1.stored k (.string s)
        have h2 : (ns.map strV).set k (.string s) = ns.map strV := by
          have h3 : (ns.map strV)[k]'(by rw [List.length_map]; exact hkn) = .string s := by rw [List.getElem_map, Hs.out.1]; rfl
          rw [← h3, List.set_getElem_self]
        rw [h2] at h1
        exact ⟨h1, HO2.out.2.setCell (HO2.out.1.lt g rfl).1 _⟩
      clear hb2 HO HO2 hc hf
      go_wp2
      go_roundw
      case rel => exact ⟨k + 1, by omega, by go_num, HN⟩
      case measure => simp [intOf]; omega
    · go_wp2
      go_ret
      exact ⟨_, rfl, HO.out.1, HO.out.2⟩
end Go.Proofs.YtelhgjepjieocaaDoor

/- Layer 18 (json): copies, plain and in memory. -/
namespace Go.Proofs.YtelhgjepjieocaaDoor
open Go.RowKit Go.MapKept Go.Sort
set_option linter.unusedVariables false

mutual
/-- Lists that may be copied. -/
def Fit : Js → Prop
  | .mk k n t ns its => t.length ≤ 140737488355328 ∧ ns.length ≤ 8796093021952 ∧ its.length ≤ 1759218604416 ∧ (∀ s ∈ ns, s.length ≤ 140737488355328) ∧ Fits its
def Fits : List Js → Prop
  | [] => True
  | x :: xs => Fit x ∧ Fits xs
end
theorem Fits.mem : ∀ {its : List Js}, Fits its → ∀ x ∈ its, Fit x
  | [], _, x, hx => by cases hx
  | y :: ys, h, x, hx => by
    unfold Fits at h
    rcases List.mem_cons.1 hx with rfl | hx
    · exact h.1
    · exact Fits.mem h.2 x hx
theorem Fits.of : ∀ {its : List Js}, (∀ x ∈ its, Fit x) → Fits its
  | [], _ => by unfold Fits; trivial
  | y :: ys, h => by
    unfold Fits
    exact ⟨h y (List.mem_cons_self ..), Fits.of fun x hx => h x (List.mem_cons_of_mem _ hx)⟩
/-- The cells of the items, one behind the other. -/
theorem ItAt.cells {w : World} {S : Nat → Prop} {ia : Option Addr} : ∀ (its : List Js) (k : Nat), ItAt w S ia k its → ∃ css : List (Array Value), css.length = its.length ∧ (∀ cs ∈ css, cs.size = 5) ∧ (∀ (i : Nat) (h1 : i < its.length) (h2 : i < css.length), JAt w S its[i] css[i]) ∧
    (its ≠ [] → ∃ b off, ia = some ⟨b, off, none⟩ ∧ ∀ j u, (flC css)[j]? = some u → w.cell? ⟨b, off + k * 5 + j, none⟩ = some u)
  | [], k, _ => ⟨[], rfl, fun c h => (by cases h), fun i h => absurd h (Nat.not_lt_zero _), fun h => absurd rfl h⟩
  | x :: xs, k, h => by
    unfold ItAt at h
    obtain ⟨⟨b, off, cs, e, h5, hc, hj⟩, hr⟩ := h
    obtain ⟨css, hl, h5s, hjs, hcs⟩ := ItAt.cells xs (k + 1) hr
    refine ⟨cs :: css, by simp [hl], fun c hcm => ?_, fun i h1 h2 => ?_, fun _ => ⟨b, off, e, fun j u hu => ?_⟩⟩
    · rcases List.mem_cons.1 hcm with rfl | hcm
      · exact h5
      · exact h5s c hcm
    · cases i with
      | zero => exact hj
      | succ i => exact hjs i (by simpa using h1) (by simpa using h2)
    · have hfl : flC (cs :: css) = cs.toList ++ flC css := rfl
      rw [hfl] at hu
      rcases Nat.lt_or_ge j 5 with hj5 | hj5
      · rw [List.getElem?_append_left (by rw [Array.length_toList, h5]; exact hj5), Array.getElem?_toList] at hu
        exact hc j u hu
      · rw [List.getElem?_append_right (by rw [Array.length_toList, h5]; exact hj5), Array.length_toList, h5] at hu
        cases xs with
        | nil =>
          have hn : css = [] := List.eq_nil_of_length_eq_zero (by simpa using hl)
          subst hn
          simp [flC] at hu
        | cons y ys =>
          obtain ⟨b2, off2, e2, hc2⟩ := hcs (by simp)
          rw [e] at e2
          simp only [Option.some.injEq, Addr.mk.injEq, and_true] at e2
          obtain ⟨rfl, rfl⟩ := e2
          have := hc2 (j - 5) u hu
          rw [show off + (k + 1) * 5 + (j - 5) = off + k * 5 + j by omega] at this
          exact this
/-- Cells written one behind the other. -/
def setL : List Value → Nat → List Value → List Value
  | l, _, [] => l
  | l, i, v :: vs => setL (l.set i v) (i + 1) vs
theorem row_put {B g n c size : Nat} {e : TypeId} : ∀ (vs : List Value) (w : World) (i : Nat) (l : List Value), w.ownsRow B e size (.slice (some ⟨g, 0, none⟩) n c) n l → (putC w g i vs).ownsRow B e size (.slice (some ⟨g, 0, none⟩) n c) n (setL l i vs)
  | [], w, i, l, h => h
  | v :: vs, w, i, l, h => row_put vs _ _ _ (World.ownsRow.stored h i v).1
theorem setL_append : ∀ (vs : List Value) (a b : List Value) (i : Nat), setL (a ++ b) (a.length + i) vs = a ++ setL b i vs
  | [], a, b, i => rfl
  | v :: vs, a, b, i => by
    unfold setL
    rw [List.set_append_right _ _ (by omega), show a.length + i - a.length = i by omega, show a.length + i + 1 = a.length + (i + 1) by omega]
    exact setL_append vs a (b.set i v) (i + 1)
theorem setL_front : ∀ (vs : List Value) (a b : List Value), a.length = vs.length → setL (a ++ b) 0 vs = vs ++ b
  | [], a, b, h => by
    have : a = [] := List.eq_nil_of_length_eq_zero h
    subst this; rfl
  | v :: vs, [], b, h => by cases h
  | v :: vs, x :: a, b, h => by
    unfold setL
    show setL (v :: (a ++ b)) 1 vs = v :: (vs ++ b)
    have := setL_append vs [v] (a ++ b) 0
    rw [show [v].length + 0 = 1 from rfl] at this
    rw [show v :: (a ++ b) = [v] ++ (a ++ b) from rfl, this, setL_front vs a b (by simpa using h)]
    rfl
theorem flC_set : ∀ (css : List (Array Value)) (k : Nat) (cs : Array Value), (∀ c ∈ css, c.size = 5) → cs.size = 5 → k < css.length → setL (flC css) (k * 5) cs.toList = flC (css.set k cs)
  | c :: css, 0, cs, h, h5, _ => by
    have hc := h c (List.mem_cons_self ..)
    show setL (c.toList ++ flC css) 0 cs.toList = cs.toList ++ flC css
    exact setL_front _ _ _ (by rw [Array.length_toList, Array.length_toList, hc, h5])
  | c :: css, k + 1, cs, h, h5, hk => by
    have hc := h c (List.mem_cons_self ..)
    have ih := flC_set css k cs (fun x hx => h x (List.mem_cons_of_mem _ hx)) h5 (by simpa using hk)
    show setL (c.toList ++ flC css) ((k + 1) * 5) cs.toList = c.toList ++ flC (css.set k cs)
    rw [← ih, show (k + 1) * 5 = c.toList.length + k * 5 by rw [Array.length_toList, hc]; omega]
    exact setL_append _ _ _ _
theorem putC_frm {S : Nat → Prop} {g : Nat} {a : World} (hg : S g ∨ a.heap.size ≤ g) : ∀ (vs : List Value) (b : World) (i : Nat), Frm S a b → Frm S a (putC b g i vs)
  | [], _, _, h => h
  | v :: vs, b, i, h => putC_frm hg vs _ _ (h.setCell ⟨g, i, none⟩ v hg)
end Go.Proofs.YtelhgjepjieocaaDoor
