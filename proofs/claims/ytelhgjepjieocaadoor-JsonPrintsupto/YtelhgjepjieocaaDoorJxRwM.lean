import Derived.Test.YtelhgjepjieocaaDoorJxRs2
import Derived.Test.YtelhgjepjieocaaDoorJxRs5
import Derived.Test.YtelhgjepjieocaaDoorJxRs6
import Derived.Test.YtelhgjepjieocaaDoorJxVal
import Derived.Test.YtelhgjepjieocaaDoorJxRq
import Derived.Test.YtelhgjepjieocaaDoorJxSame
import Derived.Test.YtelhgjepjieocaaDoorJxRfA
/- Layer 18 (json): the document's Sound: it asks what the program's sound asks. -/
namespace Go.Proofs.YtelhgjepjieocaaDoor
open Go.RowKit Go.MapKept Go.Sort
set_option linter.unusedVariables false
set_option maxRecDepth 100000 in
set_option maxHeartbeats 2000000 in
theorem refSoundO_calls (k n : Int) (t : ByteArray) (d nl nc il ic : Nat) (na ia : Option Addr) (w : World) (h : k < 1 ∨ 6 < k) :
    Calls Tryd.prog 28 #[.agg (jC k n t (.slice na nl nc) (.slice ia il ic)), .int .i64 ((d : Int) + 1)] w fun e w' => e = .returned (.bool false) ∧ Below w.heap.size w w' := by
  obtain ⟨w1, Hw1⟩ : ∃ w1, Hid (w1 = w.alloc (.cells #[.int .i64 k, .int .i64 n, .string t, .slice na nl nc, .slice ia il ic] 26)) := ⟨_, rfl⟩
  obtain ⟨g, Hg⟩ : ∃ g, Hid (g = w.heap.size) := ⟨_, rfl⟩
  have HB1 : Hid (Blk w1 g #[.int .i64 k, .int .i64 n, .string t, .slice na nl nc, .slice ia il ic] 26) := by rw [Hid, Hw1.out, Hg.out]; exact Blk.new _ _ _
  have HF1 : Hid (Below w.heap.size w w1) := by rw [Hid, Hw1.out]; exact below_new _ _
  obtain ⟨x0, x1, x2, x3, x4, -⟩ := Blk.five HB1.out
  unfold jC
  go_enter Tryd.func28, Tryd.ntmps28
  go_upto_region 1 with fail
  rw [← Hw1.out, ← Hg.out]
  clear Hw1 Hg
  by_cases h1 : k < 1
  · go_wp2
    go_ret
    exact ⟨rfl, HF1.out⟩
  · have h6 : 6 < k := by omega
    go_wp2
    go_ret
    exact ⟨rfl, HF1.out⟩
theorem specR_of (k n : Int) (t : List UInt8) (ns : List (List UInt8)) (its : List Js) (IH : ∀ x ∈ its, SpecR x) : SpecR (.mk k n t ns its) := by
  intro d w S cs hd hr hj
  unfold Rng at hr
  obtain ⟨-, -, r3, r4, -, r6⟩ := hr
  unfold JAt at hj
  obtain ⟨na, nc, ia, ic, rfl, h2, h3, h4, h5⟩ := hj
  by_cases k1 : k = 1
  · subst k1; exact refSoundK1_calls n t ns its IH d _ nc _ ic na ia w S hd rfl rfl r3 r4 r6 h2 h5 h4
  by_cases k2 : k = 2
  · subst k2; exact refSoundK2_calls n t ns its IH d _ nc _ ic na ia w S hd rfl rfl r3 r4 r6 h2 h5 h4
  by_cases k3 : k = 3
  · subst k3; exact refSoundK3_calls n t ns its IH d _ nc _ ic na ia w S hd rfl rfl r3 r4 r6 h2 h5 h4
  by_cases k4 : k = 4
  · subst k4; exact refSoundK4_calls n t ns its IH d _ nc _ ic na ia w S hd rfl rfl r3 r4 r6 h2 h5 h4
  by_cases k5 : k = 5
  · subst k5; exact refSoundK5_calls n t ns its IH d _ nc _ ic na ia w S hd rfl rfl r3 r4 r6 h2 h5 h4
  by_cases k6 : k = 6
  · subst k6; exact refSoundK6_calls n t ns its IH d _ nc _ ic na ia w S hd rfl rfl r3 r4 r6 h2 h5 h4
  have hz : soundJ (.mk k n t ns its) d = false := by
    unfold soundJ
    simp [k1, k2, k3, k4, k5, k6]
  rw [hz]
  exact refSoundO_calls k n (nmB t) d _ nc _ ic na ia w (by omega)
mutual
theorem specR : ∀ v : Js, SpecR v
  | .mk k n t ns its => specR_of k n t ns its (specRs its)
theorem specRs : ∀ its : List Js, ∀ x ∈ its, SpecR x
  | [], x, hx => by cases hx
  | y :: ys, x, hx => by
    rcases List.mem_cons.1 hx with h | h
    · rw [h]; exact specR y
    · exact specRs ys x h
end
end Go.Proofs.YtelhgjepjieocaaDoor

/- Layer 18 (json): values whose texts are small. -/
namespace Go.Proofs.YtelhgjepjieocaaDoor
open Go.RowKit Go.Sort
set_option linter.unusedVariables false

mutual
/-- Texts and names are small. -/
def Sml : Js → Prop
  | .mk k n t ns its => t.length ≤ 1048576 ∧ (∀ s ∈ ns, s.length ≤ 1048576) ∧ Smls its
def Smls : List Js → Prop
  | [] => True
  | x :: xs => Sml x ∧ Smls xs
end
theorem Smls.mem : ∀ {its : List Js}, Smls its → ∀ x ∈ its, Sml x
  | [], _, x, hx => by cases hx
  | y :: ys, h, x, hx => by
    unfold Smls at h
    rcases List.mem_cons.1 hx with rfl | hx
    · exact h.1
    · exact Smls.mem h.2 x hx
theorem Smls.of : ∀ {its : List Js}, (∀ x ∈ its, Sml x) → Smls its
  | [], _ => by unfold Smls; trivial
  | y :: ys, h => by
    unfold Smls
    exact ⟨h y (List.mem_cons_self ..), Smls.of fun x hx => h x (List.mem_cons_of_mem _ hx)⟩
end Go.Proofs.YtelhgjepjieocaaDoor

/- Layer 18 (json): what the document's Write writes, plain. -/
namespace Go.Proofs.YtelhgjepjieocaaDoor
open Go.RowKit Go.MapKept Go.Sort
set_option linter.unusedVariables false

mutual
/-- A value's text behind l; no more once it is too long. -/
def docW : Js → List Nat → List Nat
  | .mk k n t ns its, l =>
    if 65536 < l.length then l
    else if k = 1 then l ++ [110, 117, 108, 108]
    else if k = 2 then l ++ (if n = 1 then [116, 114, 117, 101] else [102, 97, 108, 115, 101])
    else if k = 3 then l ++ numD n
    else if k = 4 then l ++ quoN (nmB t)
    else if k = 5 then (match docI false true ns its (l ++ [91]) with
      | (r, true) => r ++ [93]
      | (r, false) => r)
    else (match docI true true ns its (l ++ [123]) with
      | (r, true) => r ++ [125]
      | (r, false) => r)
def docI : Bool → Bool → List (List UInt8) → List Js → List Nat → List Nat × Bool
  | _, _, _, [], l => (l, true)
  | obj, first, ns, x :: xs, l =>
    if 65536 < (docW x (if obj then (if first then l else l ++ [44]) ++ quoN (nmB (ns.headD [])) ++ [58] else if first then l else l ++ [44])).length then
      (docW x (if obj then (if first then l else l ++ [44]) ++ quoN (nmB (ns.headD [])) ++ [58] else if first then l else l ++ [44]), false)
    else docI obj false ns.tail xs (docW x (if obj then (if first then l else l ++ [44]) ++ quoN (nmB (ns.headD [])) ++ [58] else if first then l else l ++ [44]))
end
theorem docI_step {obj first : Bool} {ns : List (List UInt8)} {its : List Js} {L : List Nat} {k : Nat} (hk : k < its.length) :
    docI obj first (ns.drop k) (its.drop k) L = (if 65536 < (docW its[k] (if obj then (if first then L else L ++ [44]) ++ quoN (nmB ((ns.drop k).headD [])) ++ [58] else if first then L else L ++ [44])).length then
      (docW its[k] (if obj then (if first then L else L ++ [44]) ++ quoN (nmB ((ns.drop k).headD [])) ++ [58] else if first then L else L ++ [44]), false)
    else docI obj false (ns.drop (k + 1)) (its.drop (k + 1)) (docW its[k] (if obj then (if first then L else L ++ [44]) ++ quoN (nmB ((ns.drop k).headD [])) ++ [58] else if first then L else L ++ [44]))) := by
  rw [List.drop_eq_getElem_cons hk]
  conv => lhs; unfold docI
  rw [List.tail_drop]
def SpecW (v : Js) : Prop := ∀ (d : Nat) (w : World) (S : Nat → Prop) (cs : Array Value) (B : Nat) (vt : Value) (l : List Nat), soundJ v d = true → Rng v → Sml v → JAt w S v cs → (∀ k, S k → k < B) → Ow w B 5 vt (nbs l) → B ≤ w.heap.size →
  Calls Tryd.prog 29 #[vt, .agg cs] w (TxC w B vt (nbs (docW v l)))
theorem str_nbs (out : List UInt8) : Lib.strCells (nmB out) = nbs (out.map UInt8.toNat) := by
  unfold Lib.strCells nbs nmB
  rw [List.map_map]
  rfl
theorem byq_quoN (s : ByteArray) : Byq (quoN s) := by
  intro c hc
  unfold quoN at hc
  rcases List.mem_append.1 hc with hc | hc
  · rcases List.mem_cons.1 hc with rfl | hc
    · omega
    · obtain ⟨d, hd, hc⟩ := List.mem_flatMap.1 hc
      obtain ⟨b, _, rfl⟩ := List.mem_map.1 hd
      exact chrP_byte b.toNat b.toNat_lt c hc
  · rw [List.mem_singleton.1 hc]; omega
theorem str_quo (s : ByteArray) : Lib.strCells (⟨((quoN s).map fun c => UInt8.ofNat c).toArray⟩ : ByteArray) = nbs (quoN s) := by
  rw [show (⟨((quoN s).map fun c => UInt8.ofNat c).toArray⟩ : ByteArray) = nmB ((quoN s).map fun c => UInt8.ofNat c) from rfl, str_nbs, List.map_map]
  congr 1
  conv => rhs; rw [← List.map_id (quoN s)]
  refine List.map_congr_left fun c hc => ?_
  have := byq_quoN s c hc
  show c % 256 = c
  omega
theorem flat_len : ∀ (l : List Nat), (l.flatMap chrP).length ≤ 6 * l.length
  | [] => by simp
  | c :: l => by
    rw [List.flatMap_cons, List.length_append, List.length_cons]
    have := chrP_len c
    have := flat_len l
    omega
theorem quoN_len (s : ByteArray) : (quoN s).length ≤ 6 * s.size + 2 := by
  have h := flat_len (bytesN s 0)
  have h2 : (bytesN s 0).length = s.size := by unfold bytesN; rw [List.length_map, tl_length]; omega
  unfold quoN
  rw [List.length_append, List.length_cons, List.length_singleton]
  omega
theorem qsz (s : ByteArray) : (⟨((quoN s).map fun c => UInt8.ofNat c).toArray⟩ : ByteArray).size = (quoN s).length := by
  show ((quoN s).map _).toArray.size = _
  simp
theorem nsz (out : List UInt8) : (nmB out).size = out.length := by
  show out.toArray.size = _
  simp
end Go.Proofs.YtelhgjepjieocaaDoor
